import PyProof.Rows.All
import Wide.All
import OpenK.AllK
import Wide.FinOn
import Lean
import PyProof.EqAt
import PyProof.EqKinds
import PyProof.TupleCall
import PyProof.FactsAll.set_1
import PyProof.FactsAll.set_2
import PyProof.Rows.Range3
import PyProof.AttrMissSeq
import KE.KDictOf
import PyProof.CompUse
import PyProof.Rows.RegReprOcc
import PyProof.FactsAll.list_4
import KE.KItemsList
import KE.KEqDict
import PyProof.Rows.SortRunsK
import PyProof.Rows.SortStr
import PyProof.Draws
import PyProof.EnumMake
import PyProof.SliceStr2
import PyProof.SliceList
import PyProof.DictWalks
import PyProof.SumWalkG
import PyProof.SeqI3
import PyProof.FactsAll.str_6
import PyProof.FactsAll.str_7
import PyProof.StrCalls
import PyProof.MeetsStr
import PyProof.DictItems
import PyProof.DictItemsLoops
import PyProof.DictUpdate
import KE.KPairComp
import PyProof.ZipIter
import PyProof.StrLoop
import PyProof.AttrMissHeap
import PySem.Challenge.RW_fillsay_k52_whole_widest_or_none
noncomputable section
set_option Elab.async false
set_option linter.all false
set_option maxRecDepth 100000
set_option maxHeartbeats 4000000
abbrev Xa:=@List.take_succ_eq_append_getElem
abbrev Xb:=@List.take_append_of_le_length
abbrev Xc:=@List.drop_append_of_le_length
abbrev Xd:=@List.eq_nil_of_length_eq_zero
abbrev Xe:=@PyProof.Rows.callWith_type1
abbrev Xf:=@Array.getD_eq_getD_getElem?
abbrev Xg:=@List.perm_append_comm_assoc
abbrev Xh:=@List.getElem?_append_right
abbrev Xi:=@List.perm_ext_iff_of_nodup
abbrev Xj:=@List.getD_eq_getElem?_getD
abbrev Xk:=@List.length_eraseIdx_of_lt
abbrev Xl:=@List.getElem?_eq_some_iff
abbrev Xm:=@List.getElem?_append_left
abbrev Xn:=@Array.getElem?_eq_getElem
abbrev Xo:=@PySem.Calls.call_function_entry
abbrev Xp:=@List.extract_eq_take_drop
abbrev Xq:=@List.drop_eq_getElem_cons
abbrev Xr:=@List.pairwise_iff_getElem
abbrev Xs:=@Option.isSome_iff_exists
abbrev Xt:=@List.getElem?_take_of_lt
abbrev Xu:=@PySem.F.args_tuple_add_2
abbrev Xv:=@List.getElem?_eq_getElem
abbrev Xw:=@List.filterMap_cons_some
abbrev Xx:=@List.filterMap_cons_none
abbrev Xy:=@PySem.F.slot_list_append
abbrev Xz:=@PySem.F.type_list_append
abbrev X0:=@PySem.wpAny_comprehension_free
abbrev X1:=@List.getElem?_replicate
abbrev X2:=@PySem.F.entry_tuple_add
abbrev X3:=@List.eraseIdx_cons_succ
abbrev X4:=@List.filter_cons_of_pos
abbrev X5:=@List.filter_cons_of_neg
abbrev X6:=@PyProof.Rows.F.plain_set_update_loop
abbrev X7:=@Nat.add_sub_cancel_left
abbrev X8:=@List.length_eq_zero_iff
abbrev X9:=@PySem.F.plainAttrs_list
abbrev XA:=@PySem.wpAny_callSpecial?_slot
abbrev XB:=@PySem.Heap.get?_push_of_some
abbrev XC:=@PySem.F.slot_tuple_add
abbrev XD:=@PySem.Heap.get?_update_other
abbrev XE:=@PySem.Calls.callWith_builtin
abbrev XF:=@List.take_of_length_le
abbrev XG:=@List.drop_of_length_le
abbrev XH:=@Nat.div_div_eq_div_mul
abbrev XI:=@PySem.F.plainAttrs_str
abbrev XJ:=@Nat.le_of_succ_le_succ
abbrev XL:=@List.flatMap_singleton
abbrev XM:=@PySem.codeAny_compStart_list
abbrev XN:=@List.mem_append_right
abbrev XO:=@List.length_replicate
abbrev XQ:=@PySem.Heap.get?_update_self
abbrev XR:=@List.length_singleton
abbrev XS:=@Array.getElem?_toList
abbrev XT:=@List.contains_iff_mem
abbrev XU:=@List.take_append_drop
abbrev XV:=@List.filterMap_append
abbrev XW:=@List.getElem?_eq_none
abbrev XX:=@List.mem_iff_getElem?
abbrev XY:=@List.length_filter_le
abbrev XZ:=@PySem.F.slot_zip_next
abbrev Ya:=@PySem.F.slot_str_join
abbrev Yb:=@PySem.F.type_str_join
abbrev Yc:=@PySem.F.slot_list_pop
abbrev Yd:=@PySem.F.type_list_pop
abbrev Ye:=@PySem.builtinLookup_eq_fast
abbrev Yf:=@List.mem_cons_of_mem
abbrev Yg:=@List.mem_append_left
abbrev Yh:=@List.mem_of_getElem?
abbrev Yi:=@PySem.Around.under_plainId
abbrev Yj:=@Array.toList_extract
abbrev Yk:=@List.pairwise_append
abbrev Yl:=@List.mem_of_mem_drop
abbrev Ym:=@List.mem_of_mem_take
abbrev Yn:=@Array.toList_reverse
abbrev Yo:=@Nat.pow_le_pow_right
abbrev Yp:=@Nat.div_lt_of_lt_mul
abbrev Yq:=@List.dropLast_concat
abbrev Yr:=@List.filterMap_cons
abbrev Ys:=@Array.length_toList
abbrev Yt:=@PySem.Heap.get?_push_size
abbrev Yu:=@PySem.mem_of_lookup
abbrev Yv:=@List.length_zipWith
abbrev Yw:=@List.getElem_of_mem
abbrev Yx:=@PySem.Heap.SameBut.update
abbrev Yy:=@Array.toList_append
abbrev Yz:=@List.reverse_append
abbrev Y0:=@List.length_reverse
abbrev Y1:=@PySem.Paired.length
abbrev Y2:=@List.getElem?_range
abbrev Y4:=@List.map_congr_left
abbrev Y5:=@List.flatMap_append
abbrev Y6:=@beq_eq_false_iff_ne
abbrev Y7:=@PySem.wpAny_setEntries_of
abbrev Y8:=@Nat.lt_of_lt_of_le
abbrev Y9:=@List.mem_cons_self
abbrev Za:=@Bool.false_ne_true
abbrev Zb:=@List.length_append
abbrev Zc:=@List.pairwise_cons
abbrev Zd:=@List.zip_cons_cons
abbrev Ze:=@Bool.false_eq_true
abbrev Zf:=@List.getElem?_drop
abbrev Zg:=@List.mem_singleton
abbrev Zh:=@Int.emod_lt_of_pos
abbrev Zi:=@List.map_inj_right
abbrev Zj:=@PySem.wpAny_Call_Name_kw
abbrev Zk:=@of_decide_eq_false
abbrev Zl:=@decide_eq_true_iff
abbrev Zm:=@PySem.wpAny_setField_rec
abbrev Zn:=@List.getElem?_map
abbrev Zo:=@List.size_toArray
abbrev Zp:=@Int.toNat_natCast
abbrev Zq:=@List.nodup_append
abbrev Zr:=@List.pairwise_map
abbrev Zs:=@List.flatten_cons
abbrev Zt:=@Nat.lt_succ_of_lt
abbrev Zu:=@Array.toList_push
abbrev Zv:=@Bool.eq_false_iff
abbrev Zw:=@List.length_range
abbrev Zx:=@List.append_assoc
abbrev Zy:=@Nat.le_succ_of_le
abbrev Zz:=@PyProof.Rows.KeyOrd.kle_of_klt
abbrev Z0:=@List.getElem_take
abbrev Z1:=@PySem.wpAny_truthy_bool
abbrev Z2:=@PySem.wpAny_pyIter_list
abbrev Z4:=@PySem.wpAny_newObj_type
abbrev Z5:=@PySem.wpAny_pyIter_enum
abbrev Z6:=@PySem.wpAny_storeSet_of
abbrev Z7:=@PySem.fits_of_scanBound
abbrev Z8:=@PySem.wpAny_setState_of
abbrev Z9:=@bne_self_eq_false
abbrev Ua:=@PySem.wpAny_setEpoch_of
abbrev Ub:=@of_decide_eq_true
abbrev Uc:=@List.length_cons
abbrev Ud:=@Nat.lt_succ_self
abbrev Ue:=@List.length_take
abbrev Uf:=@List.length_drop
abbrev Ug:=@Bool.and_eq_true
abbrev Uh:=@List.lookup_cons
abbrev Ui:=@Nat.succ_ne_self
abbrev Uj:=@List.all_eq_true
abbrev Uk:=@List.getElem_mem
abbrev Ul:=@List.take_length
abbrev Um:=@PyProof.Rows.KeyOrd.kle_trans
abbrev Uo:=@List.any_eq_true
abbrev Up:=@List.cons_append
abbrev Uq:=@List.filter_cons
abbrev Ur:=@beq_self_eq_true
abbrev Us:=@PySem.wpAny_pyIter_zip
abbrev Ut:=@PySem.wpAny_askSetting
abbrev Uu:=@PySem.wpAny_isInstance
abbrev Uv:=@PySem.wpAny_call_entry
abbrev Uw:=@decide_eq_decide
abbrev Ux:=@List.mem_filter
abbrev Uy:=@List.mem_append
abbrev Uz:=@Bool.eq_iff_iff
abbrev U0:=@List.length_map
abbrev U1:=@List.append_nil
abbrev U2:=@List.nodup_cons
abbrev U3:=@List.of_mem_zip
abbrev U4:=@List.find?_cons
abbrev U5:=@List.nil_append
abbrev U6:=@List.zip_append
abbrev U7:=@List.map_append
abbrev U8:=@List.forIn_cons
abbrev U9:=@List.foldl_cons
abbrev Ja:=@Int.emod_nonneg
abbrev Jb:=@List.range_succ
abbrev Jc:=@PyProof.Rows.KeyOrd.kle_refl
abbrev Jd:=@Nat.min_eq_left
abbrev Je:=@Nat.two_pow_pos
abbrev Jf:=@PySem.PassesOwn.never
abbrev Jg:=@List.length_zip
abbrev Jh:=@decide_eq_false
abbrev Ji:=@PySem.wpAny_execs_nil
abbrev Jj:=@PySem.wpAny_passesOwn
abbrev Jk:=@PySem.wpAny_specialOf
abbrev Jl:=@PySem.codeAny_builtin
abbrev Jm:=@PySem.typeLookup_type
abbrev Jn:=@PySem.wpAny_ite_split
abbrev Jo:=@PySem.pushCells_keeps
abbrev Jp:=@List.mem_range
abbrev Jq:=@Bool.false_and
abbrev Jr:=@PySem.Heap.size_push
abbrev Js:=@Bool.and_false
abbrev Jt:=@Bool.xor_assoc
abbrev Ju:=@List.Perm.refl
abbrev Jv:=@List.forIn_nil
abbrev Jw:=@List.drop_zero
abbrev Jx:=@List.take_zero
abbrev Jy:=@List.drop_drop
abbrev Jz:=@List.take_left
abbrev J0:=@PySem.boot_len
abbrev J4:=@decide_eq_true
abbrev J5:=@PySem.isSubtype_type
abbrev J6:=@PySem.entryFor_alias
abbrev J7:=@PySem.wpAny_fieldsOf
abbrev J8:=@PySem.isSubtype_stop
abbrev J9:=@PySem.wpAny_seqItems
abbrev Qa:=@Nat.lt_irrefl
abbrev Qb:=@List.mem_cons
abbrev Qc:=@List.map_cons
abbrev Qd:=@List.any_cons
abbrev Qe:=@Bool.false_or
abbrev Qf:=@Bool.or_false
abbrev Qg:=@List.all_cons
abbrev Qh:=@Bool.not_true
abbrev Qi:=@List.sum_cons
abbrev Qj:=@Nat.add_assoc
abbrev Qk:=@PySem.wpAny_holding
abbrev Ql:=@PySem.plainId_quiet
abbrev Qm:=@PySem.wpAny_attempt
abbrev Qn:=@PySem.wpAny_newList
abbrev Qo:=@PySem.Heap.lt_size
abbrev Qp:=@Nat.ne_of_lt
abbrev Qq:=@Nat.le_trans
abbrev Qr:=@Nat.le_of_lt
abbrev Qs:=@Nat.ne_of_gt
abbrev Qt:=@Nat.pow_succ
abbrev Qu:=@List.mem_map
abbrev Qv:=@List.map_map
abbrev Qw:=@Nat.zero_add
abbrev Qx:=@Nat.mul_comm
abbrev Qy:=@Nat.lt_or_ge
abbrev Qz:=@List.any_map
abbrev Q0:=@Int.zero_add
abbrev Q1:=@PySem.W.mg_none_of
abbrev Q2:=@PySem.codeAny_mono
abbrev Q3:=@PySem.wpAny_typeOf
abbrev Q4:=@PyProof.Rows.wpS_forRange
abbrev Q5:=@Nat.le_refl
abbrev Q6:=@Nat.zero_le
abbrev Q7:=@Nat.le_succ
abbrev Q8:=@Nat.pow_add
abbrev Q9:=@PySem.sizeLine_eq
abbrev Va:=@PySem.wpAny_of_eq
abbrev Vb:=@PySem.wpAny_field
abbrev Vc:=@Nat.mod_lt
abbrev Vd:=@PySem.wpAny_mono
abbrev Ve:=@PySem.wpAny_bind
abbrev Vg:=@PySem.wpAny_pure
abbrev Vh:=@beq_iff_eq
abbrev Vi:=@PySem.typeIs_str
abbrev Vj:=@PySem.call_meets
abbrev Vk:=@PySem.wpAny_rule
abbrev Vl:=@PyProof.Rows.wpS_modify
abbrev Vm:=@PySem.W.kia_one
abbrev Vn:=@if_false
abbrev Vo:=@PyProof.Rows.wpS_pure
abbrev Vp:=@PyProof.Rows.wpS_bind
abbrev Vq:=@PyProof.Rows.wpS_mono
abbrev Vr:=@Ne.symm
abbrev Vu:=@PySem.W.mg_of
abbrev Vv:=@if_true
abbrev Vw:=@PyProof.Rows.wpS_get
abbrev Vx:=@dif_pos
abbrev Vy:=@if_pos
abbrev Vz:=@if_neg
namespace L2
open PySem PySem.Spec PyProof.Rows
noncomputable abbrev sA0:Str:="_law_letters_here"
noncomputable abbrev sA1:Str:="_law_row_here"
noncomputable abbrev sA2:Str:="_law_script"
noncomputable abbrev sA3:Str:="_law_wishes_here"
noncomputable abbrev sA4:Str:="_law_tree_here"
noncomputable abbrev sA5:Str:="_law_gaps"
noncomputable abbrev sA6:Str:="_law_givens"
noncomputable abbrev sA7:Str:="_law_found"
noncomputable abbrev sA8:Str:="_law_one"
noncomputable abbrev sA9:Str:="_law_many"
noncomputable abbrev sB0:Str:="_law_filling_like"
noncomputable abbrev sB1:Str:="_law_truth"
noncomputable abbrev sB2:Str:="_law_other"
noncomputable abbrev sB3:Str:="_law_text"
noncomputable abbrev sB4:Str:="_law_number"
noncomputable abbrev sB5:Str:="_law_failing"
noncomputable abbrev sB6:Str:="_law_form_like"
noncomputable abbrev sB7:Str:="_law_cell"
noncomputable abbrev sB8:Str:="_law_form"
noncomputable abbrev sB9:Str:="_law_mixed"
noncomputable abbrev sC0:Str:="_law_k"
noncomputable abbrev sC1:Str:="_law_letters"
noncomputable abbrev sC2:Str:="_law_written"
noncomputable abbrev sC3:Str:="_law_frees"
noncomputable abbrev sC4:Str:="_law_letter"
noncomputable abbrev sC5:Str:="_law_wishes"
noncomputable abbrev sC6:Str:="_law_rows"
noncomputable abbrev sC7:Str:="_law_both"
noncomputable abbrev sC8:Str:="_law_worth"
noncomputable abbrev sC9:Str:="_law_doing"
noncomputable abbrev sD0:Str:="_law_leaf"
noncomputable abbrev sD1:Str:="_law_tree"
noncomputable abbrev sD2:Str:="_law_most"
noncomputable abbrev sD3:Str:="_law_row"
abbrev Key:=Sum Int Str
noncomputable def qcz:Key->Value->Bool
 |.inl k,v=>Value.isInt k v
 |.inr x,v=>Value.isStrOf x v
noncomputable def qoZ(w:World):Key->Int
 |.inl k=>hashInt k
 |.inr x=>hashStr w x
theorem zm:∀{k:Key}{v:Value},qcz k v=true->(∃ i t,k=Sum.inl i/\v=Value.int i t)∨(∃ x t,k=Sum.inr x/\v=Value.str x t)
 |.inl i,v,h=>by
  obtain⟨t,e⟩:=Value.isInt_shape (k:=i) (v:=v) h;exact .inl ⟨i,t,rfl,e⟩
 |.inr x,v,h=>by
  obtain⟨t,e⟩:=Value.isStrOf_shape (x:=x) (v:=v) h;exact .inr ⟨x,t,rfl,e⟩
theorem qis(i:Int)(t:Tok):qcz (.inl i) (.int i t)=true:=by simp[qcz,Value.isInt]
theorem qit(x:Str)(t:Tok):qcz (.inr x) (.str x t)=true:=by simp[qcz,Value.isStrOf]
theorem qmQ(a b:Int):decide ((Sum.inl a:Key)=Sum.inl b)=(a == b):=by
 by_cases e:a=b
 ·subst e;simp
 ·have h:¬ (Sum.inl a:Key)=Sum.inl b:=λ q=>e (Sum.inl.inj q)
  rw[Jh h];exact(Y6.mpr e).symm
theorem qmR(a b:Str):decide ((Sum.inr a:Key)=Sum.inr b)=decide (a=b):=by
 by_cases e:a=b
 ·subst e;simp
 ·have h:¬ (Sum.inr a:Key)=Sum.inr b:=λ q=>e (Sum.inr.inj q)
  rw[Jh h,Jh e]
theorem qmS(a:Int)(b:Str):decide ((Sum.inl a:Key)=Sum.inr b)=false:=Jh (λ q=>nomatch q)
theorem qmT(a:Str)(b:Int):decide ((Sum.inr a:Key)=Sum.inl b)=false:=Jh (λ q=>nomatch q)
noncomputable def qu(prog:Program)(w:World):PySem.KeyKind prog w Key where
 is:=qcz
 hash:=qoZ w
 inj:=λ v a b ha hb=>by
  rcases zm ha with⟨i,t,rfl,rfl⟩|⟨x,t,rfl,rfl⟩
  ·rcases zm hb with⟨j,u,rfl,e⟩ | ⟨y,u,rfl,e⟩
   ·injection e with e1 _;rw[e1]
   ·exact nomatch e
  ·rcases zm hb with⟨j,u,rfl,e⟩ | ⟨y,u,rfl,e⟩
   ·exact nomatch e
   ·injection e with e1 _;rw[e1]
 byValue:=λ k v h=>by
  rcases zm h with⟨i,t,rfl,rfl⟩|⟨x,t,rfl,rfl⟩ <;> rfl
 pyHash:=λ hv h=>by
  rcases zm hv with⟨i,t,rfl,rfl⟩|⟨x,t,rfl,rfl⟩
  ·exact wpAny_pyHash_int h
  ·exact wpAny_pyHash_str h
 eqBool:=λ hu hv h=>by
  rcases zm hu with⟨i,t,rfl,rfl⟩|⟨x,t,rfl,rfl⟩
  ·rcases zm hv with⟨j,u,rfl,rfl⟩ | ⟨y,u,rfl,rfl⟩
   ·rw[qmQ] at h;exact wpAny_eqBool_int h
   ·rw[qmS] at h;exact SeqAt.EqAt.int_str i t y u _ _ _ _ h
  ·rcases zm hv with⟨j,u,rfl,rfl⟩ | ⟨y,u,rfl,rfl⟩
   ·rw[qmT] at h;exact SeqAt.EqAt.str_int x t j u _ _ _ _ h
   ·rw[qmR] at h;exact wpAny_eqBool_str h
 «strs»:=λ k x t v h=>by
  rcases zm h with⟨i,u,rfl,e⟩|⟨y,u,rfl,e⟩
  ·exact nomatch e
  ·injection e with e1 _
   subst e1;cases v <;> rfl
theorem qfh(prog:Program)(w:World)(i:Int)(t:Tok):(qu prog w).is (.inl i) (.int i t)=true:=qis i t
theorem zh(prog:Program)(w:World)(x:Str)(t:Tok):(qu prog w).is (.inr x) (.str x t)=true:=qit x t
inductive V where 
 |non|bl (b:Bool)|int (i:Int)|str (x:Str)|byt (b:Array UInt8)|flt (b:UInt64)|ref (a:Addr)|ty (n:String) deriving DecidableEq
def qT:V->Value->Prop
 |.non,u=>u=Value.none
 |.bl b,u=>u=Value.bool b
 |.int i,u=>∃ t,u=Value.int i t
 |.str x,u=>∃ t,u=Value.str x t
 |.byt b,u=>∃ t,u=Value.bytes b t
 |.flt b,u=>∃ t,u=Value.float b t
 |.ref a,u=>u=Value.ref a
 |.ty n,u=>u=Value.type n
abbrev qL:List V->List Value->Prop:=Paired qT
theorem qL.length(r:qL xs us):xs.length=us.length:=Paired.length r
theorem qL.get:∀{xs:List V}{us:List Value}{i:Nat}{x:V},qL xs us->xs[i]?=some x->∃ u,us[i]?=some u/\qT x u
 |_,_,_,_,.nil,e=>by simp at e
 |_,_,0,_,.cons r _,e=>by simp at e;subst e;exact⟨_,rfl,r⟩
 |_,_,i+1,x,.cons _ t,e=>by
  obtain⟨u,h1,h2⟩:=qL.get (i:=i) (x:=x) t (by simpa using e);exact⟨u,by simpa using h1,h2⟩
theorem qL.set(r:qT x u):∀{xs:List V}{us:List Value}(i:Nat),qL xs us->qL (xs.set i x) (us.set i u)
 |_,_,_,.nil=>.nil
 |_,_,0,.cons _ t=>.cons r t
 |_,_,i+1,.cons q t=>.cons q (qL.set r i t)
theorem qL.append:∀{xs ys:List V}{us ws:List Value},qL xs us->qL ys ws->qL (xs++ys) (us++ws)
 |_,_,_,_,.nil,s=>s
 |_,_,_,_,.cons r t,s=>.cons r (qL.append t s)
theorem qL.take:∀{xs:List V}{us:List Value}(n:Nat),qL xs us->qL (xs.take n) (us.take n)
 |_,_,0,_=>.nil
 |_,_,_+1,.nil=>.nil
 |_,_,n+1,.cons r t=>.cons r (qL.take n t)
theorem qL.drop:∀{xs:List V}{us:List Value}(n:Nat),qL xs us->qL (xs.drop n) (us.drop n)
 |_,_,0,r=>r
 |_,_,_+1,.nil=>.nil
 |_,_,n+1,.cons _ t=>qL.drop n t
def qap:Option V->Option Value->Prop
 |some v,some u=>qT v u
 |none,none=>True
 |_,_=>False
def KV{κ:Type}:List (κ×V)->List (κ×Value)->Prop:=Paired λ(p:κ×V)(q:κ×Value)=>p.1=q.1/\qT p.2 q.2
noncomputable def kV:Key->V
 |.inl i=>.int i
 |.inr x=>.str x
inductive HO where 
 
 |lst (xs:List V) 
 |tup (xs:List V) 
 |dK (kvs:List (Key×V))|dT (kvs:List (List Key×V)) 
 |set (S:Int->Bool) (n:Nat)
 
 |ins (C dx:Addr) (fs:List (Str×V))
 
 |own (x:Addr)
 
 |xd (fs:List (Str×V))
 
 |met (f x:Addr)
 
 |rng (lo hi:Int)
 
 |frz (o:Obj) (u:HO)
 
 |tbl (ps:Array Value)
 
 |ext (φ:Heap->Prop)
abbrev Hp:=Addr->Option HO
noncomputable def upd(H:Hp)(a:Addr)(o:HO):Hp:=λ b=>if b=a then some o else H b
theorem qe:upd H a o a=some o:=by unfold upd;rw[Vy rfl]
theorem qp(h:b≠a):upd H a o b=H b:=by unfold upd;rw[Vz h]
theorem qmC{H:Hp}(h:H a=some o)(h':H b=some u)(d:o≠u):a≠b:=by
 intro e;subst e;rw[h] at h';exact d (Option.some.inj h')
theorem zw{H:Hp}(h:H a=some o)(h':H b=none):a≠b:=by
 intro e;subst e;rw[h] at h';cases h'
section
variable (P:Program)(w:World)
def zp(H:Hp)(h:Heap)(a:Addr):HO->Prop
 | .lst xs=>xs.length<=sizeLine/\∃(its:List Value)(n:Nat),qL xs its/\h.get? a=some { cls:=.type "list",data:=.seq its.toArray n }
 |.tup xs=>xs.length<=sizeLine/\∃ its:List Value,qL xs its/\IsTup h a its.toArray
 |.dK kvs=>kvs.length<=sizeLine/\(a == sysModules)=false/\∃ vs,KV kvs vs/\h.DictOf (qu P w) a vs
 | .dT kvs=>kvs.length<=sizeLine/\(a == sysModules)=false/\∃ xs:List (List Key×Addr×Value),
   Paired (λ(p:List Key×V)(q:List Key×Addr×Value)=>p.1=q.1/\H q.2.1=some (.tup (p.1.map kV))/\qT p.2 q.2.2) kvs xs /\
   ∃ o es ep,h.get? a=some o/\o.ExactDict/\o.data=.dict es ep/\es.toList=xs.map (entryOfKey (tupleKind (qu P w)))/\(xs.map (·.1)).Nodup
 |.set S n=>h.SetOf (intKind P w) a S n
 | .ins C dx fs=>H dx=some (.own a)/\fs.length<=1000/\dx≠a/\h.get? a=some (W.instObj C dx) /\
   ∃ mA,h.Ns1 dx mA/\(∀ f,qap (fs.lookup f) (mA f))/\PySem.Within mA (fs.map (·.1))
 |.own _=>∃ o,h.get? a=some o
 |.xd fs=>∃ mA,h.Ns1 a mA/\∀ f,qap (fs.lookup f) (mA f)
 | .rng lo hi=>∃ t u v,h.get? a=some { cls:=.type "range",data:=.fields #[.int lo t,.int hi u,.int 1 v] }
 |.frz o u=>h.get? a=some o/\zp H h a u
 |.tbl ps=>h.get? a=some { cls:=.none,data:=.fields ps }
 |.met f x=>h.get? a=some (W.methodObj (.ref f) (.ref x))
 |.ext φ=>φ h/\(∃ o,h.get? a=some o)/\∀ h1 h2:Heap,φ h1->(∀ o,h1.get? a=some o->h2.get? a=some o)->φ h2
def HOk(H:Hp)(h:Heap):Prop:=∀ a o,H a=some o->zp P w H h a o
end
section
variable {P:Program}{w:World}{H H':Hp}{h h':Heap}{a:Addr}{o:HO}
theorem zp.lt(x:zp P w H h a o):a<h.objs.size:=by
 cases o with
 |lst xs=>obtain⟨_,_,_,_,e⟩:=x;exact Qo e
 |tup xs=>obtain⟨_,_,_,p⟩:=x;exact p.lt
 |dK kvs=>obtain⟨_,_,_,_,o,_,_,e,_⟩:=x;exact Qo e
 |dT kvs=>obtain⟨_,_,_,_,o,_,_,e,_⟩:=x;exact Qo e
 |set S n=>obtain⟨o,_,_,_,e,_⟩:=x;exact Qo e
 |ins C dx fs=>obtain⟨_,_,_,e,_⟩:=x;exact Qo e
 |own y=>obtain⟨_,e⟩:=x;exact Qo e
 |xd fs=>obtain⟨_,⟨_,_,_,e,_⟩,_⟩:=x;exact Qo e
 |rng lo hi=>obtain⟨_,_,_,e⟩:=x;exact Qo e
 |frz ob u=>obtain⟨e,_⟩:=x;exact Qo e
 |tbl ps=>exact Qo (show h.get? a=some _ from x)
 |met f y=>exact Qo (show h.get? a=some _ from x)
 |ext φ=>obtain⟨_,⟨_,e⟩,_⟩:=x;exact Qo e
theorem Paired.mapP:∀{l₁:List α}{l₂:List β},Paired F l₁ l₂->(∀ a b,F a b->G a b)->Paired G l₁ l₂
 |_,_,.nil,_=>.nil
 |_,_,.cons r t,f=>.cons (f _ _ r) (Paired.mapP t f)
theorem zp.stay(x:zp P w H h a o)(k:∀ b u,(b=a∨H b=some (.own a))->h.get? b=some u->h'.get? b=some u)(ho:∀ b,H b=some (.own a)->H' b=some (.own a))(ht:∀ b xs,H b=some (.tup xs)->H' b=some (.tup xs)):zp P w H' h' a o:=by
 induction o with
 |lst xs=>obtain⟨z,its,n,r,e⟩:=x;exact⟨z,its,n,r,k _ _ (.inl rfl) e⟩
 |tup xs=>obtain⟨z,its,r,ob,e,c⟩:=x;exact⟨z,its,r,ob,k _ _ (.inl rfl) e,c⟩
 |dK kvs=>obtain⟨z,y,vs,r,ob,es,ep,e,c⟩:=x;exact⟨z,y,vs,r,ob,es,ep,k _ _ (.inl rfl) e,c⟩
 |dT kvs =>
  obtain⟨z,y,xs,r,ob,es,ep,e,c⟩:=x;exact⟨z,y,xs,Paired.mapP r λ p q z=>⟨z.1,ht _ _ z.2.1,z.2.2⟩,ob,es,ep,k _ _ (.inl rfl) e,c⟩
 |set S n=>obtain⟨ob,es,ep,t,e,c⟩:=x;exact⟨ob,es,ep,t,k _ _ (.inl rfl) e,c⟩
 |ins C dx fs =>
  obtain⟨d,z,ne,e,mA,⟨od,es,ep,e2,c⟩,r⟩:=x;exact⟨ho _ d,z,ne,k _ _ (.inl rfl) e,mA,⟨od,es,ep,k _ _ (.inr d) e2,c⟩,r⟩
 |own y=>obtain⟨ob,e⟩:=x;exact⟨ob,k _ _ (.inl rfl) e⟩
 |xd fs=>obtain⟨mA,⟨od,es,ep,e,c⟩,r⟩:=x;exact⟨mA,⟨od,es,ep,k _ _ (.inl rfl) e,c⟩,r⟩
 |rng lo hi=>obtain⟨t,u,v,e⟩:=x;exact⟨t,u,v,k _ _ (.inl rfl) e⟩
 |frz ob u ih=>obtain⟨e,q⟩:=x;exact⟨k _ _ (.inl rfl) e,ih q⟩
 |tbl ps =>
  have e:h.get? a=some { cls:=.none,data:=.fields ps }:=x;show h'.get? a=some { cls:=.none,data:=.fields ps }
  exact k a _ (.inl rfl) e
 |met f y =>
  have e:h.get? a=some (W.methodObj (.ref f) (.ref y)):=x;show h'.get? a=some (W.methodObj (.ref f) (.ref y))
  exact k a _ (.inl rfl) e
 |ext φ=>obtain⟨p,⟨o,e⟩,st⟩:=x;exact⟨st _ _ p λ o q=>k _ _ (.inl rfl) q,⟨o,k _ _ (.inl rfl) e⟩,st⟩
theorem HOk.lt(x:HOk P w H h)(e:H a=some o):a<h.objs.size:=(x a o e).lt
theorem HOk.fresh(x:HOk P w H h)(e:h.objs.size<=a):H a=none:=by
 cases q:H a with
 |none=>rfl
 |some u=>exact absurd (Y8 (x.lt q) e) (Qa _)
theorem HOk.kept(x:HOk P w H h)(k:∀ b u,h.get? b=some u->h'.get? b=some u):HOk P w H h':=λ a o e =>
 (x a o e).stay (λ b u _ q=>k b u q) (λ _ q=>q) λ _ _ q=>q
theorem HOk.laid(x:HOk P w H h)(k:∀ b u,h.get? b=some u->h'.get? b=some u)(hp:h.objs.size<=a)(new:zp P w (upd H a o) h' a o):HOk P w (upd H a o) h':=λ b u e=>by
 have hn:=x.fresh hp;by_cases hb:b=a
 ·subst hb;rw[qe] at e;cases e;exact new
 ·rw[qp hb] at e;exact(x b u e).stay (λ c v _ q=>k c v q) (λ c q=>by rw[qp (zw q hn)];exact q) λ c xs q=>by rw[qp (zw q hn)];exact q
end
def Rd(H:Hp)(a:Addr)(u:HO):Prop:=H a=some u∨∃ o,H a=some (.frz o u)
theorem Rd.ok(r:Rd H a u)(x:HOk P w H h):zp P w H h a u:=by
 rcases r with r|⟨o,r⟩
 ·exact x a u r
 ·obtain⟨_,q⟩:=x a _ r;exact q
def Mut:Option HO->Prop
 |some (.lst _)=>True
 |some (.dK _)=>True
 |some (.dT _)=>True
 |some (.set _ _)=>True
 |some (.ins _ _ _)=>True
 |some (.ext _)=>True
 |_=>False
section
variable {P:Program}{w:World}{H:Hp}{h h':Heap}{x e:Addr}{o':HO}
theorem HOk.write(ok:HOk P w H h)(mu:Mut (H x))(he:e=x∨H e=some (.own x))(k:∀ b u,b≠e->h.get? b=some u->h'.get? b=some u)(cE:∃ u,h'.get? e=some u)(new:zp P w (upd H x o') h' x o'):HOk P w (upd H x o') h':=λ b u q=>by
 have rX:∀ c y,H c=some (.own y)->c≠x:=λ c y r z=>by subst z;rw[r] at mu;exact mu
 have ntup:∀ c xs,H c=some (.tup xs)->c≠x:=λ c xs r z=>by subst z;rw[r] at mu;exact mu
 by_cases hb:b=x
 ·subst hb;rw[qe] at q;cases q;exact new
 ·rw[qp hb] at q;by_cases hbe:b=e
  ·have q':H b=some (.own x):=by
    rcases he with z|z
    ·exact absurd (hbe.trans z) hb
    ·rw[hbe];exact z
   rw[q] at q';cases q';obtain⟨v,hv⟩:=cE;exact⟨v,by rw[hbe];exact hv⟩
  ·refine(ok b u q).stay (λ c v hc r=>k c v ?_ r) (λ c r=>by rw[qp (rX c b r)];exact r) λ c xs r=>by rw[qp (ntup c xs r)];exact r
   rcases hc with rfl|hc
   ·exact hbe
   ·rintro rfl;rcases he with z | z
    ·exact rX c b hc z
    ·rw[hc] at z;cases z;exact hb rfl
end
structure Un(fs ex:List Addr)(H H':Hp)(h h':Heap):Prop where
 keep:∀ b o,h.get? b=some o->H b=none->b∉fs->b∉ex->h'.get? b=some o
 slot:∀ b o,h.get? b=some o->H b=none->b∈fs->b∉ex->∃ sl,h'.get? b=some { o with slots:=sl }
 free:∀ b o,h.get? b=some o->H b=none->b∉ex->H' b=none
 there:∀ b o,h.get? b=some o->b∉ex->∃ o',h'.get? b=some o'
 tups:∀ b xs,H b=some (.tup xs)->H' b=some (.tup xs)
 frzs:∀ b o u,H b=some (.frz o u)->H' b=some (.frz o u)
 tbls:∀ b ps,H b=some (.tbl ps)->∃ more,H' b=some (.tbl (ps++more))
section
variable {fs aS ex ex':List Addr}{H H1 H2:Hp}{h h1 h2 h':Heap}{a x e:Addr}{o:HO}
theorem Un.any(u:Un fs ex H H1 h h1)(q:h.get? b=some ob)(n:H b=none)(hx:b∉ex):∃ sl,h1.get? b=some { ob with slots:=sl }:=by
 by_cases hb:b∈fs
 ·exact u.slot b ob q n hb hx
 ·exact⟨ob.slots,u.keep b ob q n hb hx⟩
theorem Un.kept(k:∀ b u,h.get? b=some u->h'.get? b=some u):Un fs ex H H h h':=
 ⟨λ b ob q _ _ _=>k b ob q,λ b ob q _ _ _=>⟨ob.slots,k b ob q⟩,λ _ _ _ n _=>n,λ b ob q _=>⟨ob,k b ob q⟩,λ _ _ q=>q,λ _ _ _ q=>q,λ _ ps q=>⟨#[],by rw[q];simp⟩⟩
theorem Un.refl:Un fs ex H H h h:=Un.kept λ _ _ q=>q
theorem Un.laid(k:∀ b u,h.get? b=some u->h'.get? b=some u)(hp:h.objs.size<=a)(hn:H a=none):Un fs ex H (upd H a o) h h' where
 keep:=λ b u q _ _ _=>k b u q
 slot:=λ b u q _ _ _=>⟨u.slots,k b u q⟩
 free:=λ b u q n _=>by rw[qp (Qp (Y8 (Qo q) hp))];exact n
 there:=λ b u q _=>⟨u,k b u q⟩
 tups:=λ b xs q=>by rw[qp (zw q hn)];exact q
 frzs:=λ b u xs q=>by rw[qp (zw q hn)];exact q
 tbls:=λ b ps q=>⟨#[],by rw[qp (zw q hn),q];simp⟩
theorem Un.write(mu:Mut (H x))(he:e=x∨H e=some (.own x))(k:∀ b u,b≠e->h.get? b=some u->h'.get? b=some u)(cE:∃ u,h'.get? e=some u):Un fs ex H (upd H x o) h h':=by
 have hx:∀ b,H b=none->b≠x:=λ b n z=>by subst z;rw[n] at mu;exact mu
 have hb:∀ b,H b=none->b≠e:=λ b n z=>by
  subst z;rcases he with r|r
  ·exact hx b n r
  ·rw[n] at r;cases r
 have hm:∀ b u,H b=some u->¬ Mut (some u)->b≠x:=λ b u q nm z=>by subst z;rw[q] at mu;exact nm mu
 refine⟨λ b u q n _ _=>k b u (hb b n) q,λ b u q n _ _=>⟨u.slots,k b u (hb b n) q⟩,λ b u q n _=>by rw[qp (hx b n)];exact n,λ b u q _=>?_,
  λ b xs q=>by rw[qp (hm b _ q λ z=>z)];exact q,λ b u xs q=>by rw[qp (hm b _ q λ z=>z)];exact q,λ b ps q=>⟨#[],by rw[qp (hm b _ q λ z=>z),q];simp⟩⟩
 by_cases hbe:b=e
 ·subst hbe;exact cE
 ·exact⟨u,k b u hbe q⟩
end
noncomputable def trk(h:Heap)(H:Hp):List Addr:=(List.range h.objs.size).filter λ a=>(H a).isSome
noncomputable def qes(h:Heap)(H:Hp):Heap:=W.hideAll h (trk h H)
theorem qiu(h:Heap)(H:Hp):(qes h H).objs.size=h.objs.size:=W.hideAll_size _ _
theorem qju(e:h.get? b=some o)(n:H b=none):(qes h H).get? b=some o:=
 W.hideAll_get _ e λ hm=>by
  have q:(H b).isSome=true:=(Ux.mp hm).2;rw[n] at q;simp at q
theorem qlo(e:(qes h H).get? b=some o):h.get? b=some o/\H b=none:=by
 have e':h.get? b=some o:=W.of_hideAll (trk h H) e;refine⟨e',?_⟩;cases q:H b with
 |none=>rfl
 |some x =>
  have hm:b∈trk h H:=Ux.mpr ⟨Jp.mpr (Qo e'),by simp[q]⟩;have z:(qes h H).get? b=none:=W.hideAll_none (trk h H) hm;rw[z] at e;cases e
noncomputable def qlp(g h:Heap)(L:Addr):List (Addr×Obj):=(List.range h.objs.size).filterMap λ a=>if a=L∨(g.get? a).isSome=true then none else(h.get? a).map λ o=>(a,o)
noncomputable def rest(g h:Heap)(L d:Addr):List (Addr×Obj):=(qlp g h L).filter λ p=>decide (p.1≠d)
structure Mod(K:W.Frag)(mg:Str->Option Value)(base:Heap):Prop where
 kin:K.In base
 glob:base.Ns mainGlobals mg
 blt:∃ mb,base.Ns builtinsNs mb/\∀ x:Str,x≠"__name__"->mb x=bootBuiltins x
 nolimit:base.NoLimit
structure Cx where 
 prog:Program
 w:World
 K:W.Frag
 mg:Str->Option Value
 base:Heap
 A:Around
 N:List Str
 s₀:Shared
 H₀:Hp
 env:Env
 outer:List Env
 stack:List Env
 ex:List Addr
 fn:Str->Bool
 calm:Bool
 pn:List (Addr×Obj)
 xe:Value->Shared->Prop
noncomputable def frs(l:List Env):List Addr:=l.filterMap (·.frame)
noncomputable abbrev Cx.fs(X:Cx):List Addr:=frs X.outer
def Vis(sc:Scope)(x:Str):Prop:=sc.names.lookup x=some .local∨sc.names.lookup x=some .cell∨sc.names.lookup x=some .free
def Loc(sc:Scope)(x:Str):Prop:=sc.names.lookup x=some .local∨sc.names.lookup x=some .cell
def qo0(env:Env)(h:Heap)(m:Str->Option Value)(x:Str)(u:Value):Prop:=
 (env.kindOf x=some .local/\m x=some u)∨((env.kindOf x=some .cell∨env.kindOf x=some .free)/\∃ c,env.cells.lookup x=some c/\h.IsCell c (some u))
structure Cx.Ok(X:Cx):Prop where
 mod:Mod X.K X.mg X.base
 kind:X.env.scope.kind=.function
 glob:X.env.globals=mainGlobals
 blt:X.env.builtins=builtinsNs
 above:X.s₀.heap.objs.size<=X.env.locals
 inj:∀ x y c,X.env.cells.lookup x=some c->X.env.cells.lookup y=some c->x=y
 has:∀ x,(X.env.kindOf x=some .cell∨X.env.kindOf x=some .free)->∃ c,X.env.cells.lookup x=some c
 cab:∀ x c,X.fn x=true->X.env.cells.lookup x=some c->X.s₀.heap.objs.size<=c
 hd:X.calm=true->X.A.handled=none
 frames:X.A.frames=some X.stack
 stk:X.stack=X.outer∨(X.stack=X.env::X.outer/\X.env.frame=some X.env.locals)
 exf:∀ b∈X.ex,b≠X.env.locals/\∀ x c,X.env.cells.lookup x=some c->c≠b
 bs:∀ b o,X.base.get? b=some o->X.s₀.heap.get? b=some o/\X.H₀ b=none
 bsz:X.base.objs.size<=X.s₀.heap.objs.size
 noex:∀ b o,X.base.get? b=some o->b∉X.ex
 exfs:∀ b∈X.ex,b∉X.fs
 funs:X.s₀.heap.FunFrames X.base X.outer
 frf:∀ b∈X.fs,X.H₀ b=none
structure Inv(X:Cx)(pins:List (Addr×Obj))(σ:List (Option V))(H:Hp)(s:Shared):Prop where
 ok:X.Ok
 os:s.os=X.s₀.os
 bare:AllBare s.gens
 base:Un X.fs X.ex X.H₀ H X.s₀.heap s.heap
 loc:∃ m,s.heap.Ns X.env.locals m/\∀(i:Nat)(x:Str)(v:V),X.N[i]?=some x->σ[i]?=some (some v)->Vis X.env.scope x->∃ u,qT v u/\qo0 X.env s.heap m x u
 cell:∀ x c,X.env.cells.lookup x=some c->∃ v,s.heap.IsCell c v
 free:H X.env.locals=none
 freeC:∀ x c,X.env.cells.lookup x=some c->H c=none
 pin:∀ p∈X.pn++pins,s.heap.get? p.1=some p.2/\H p.1=none/\p.1≠X.env.locals/\p.1∉X.fs/\∀ v,p.2.data≠.cell v
 hok:HOk X.prog X.w H s.heap
 len:σ.length=X.N.length
section
variable {X:Cx}{pins:List (Addr×Obj)}{σ:List (Option V)}{H H':Hp}{s:Shared}{h':Heap}
theorem Cx.Ok.nofr(ok:X.Ok)(e:X.base.get? b=some o):b∉X.fs:=λ hb=>by
 have:=(ok.funs.mem hb).1
 rw[e] at this;cases this
theorem Inv.bs(I:Inv X pins σ H s):∀ b o,X.base.get? b=some o->s.heap.get? b=some o/\H b=none:=λ b o e =>
 ⟨I.base.keep b o (I.ok.bs b o e).1 (I.ok.bs b o e).2 (I.ok.nofr e) (I.ok.noex b o e),I.base.free b o (I.ok.bs b o e).1 (I.ok.bs b o e).2 (I.ok.noex b o e)⟩
theorem Inv.bk(I:Inv X pins σ H s):∀ b o,X.base.get? b=some o->s.heap.get? b=some o:=λ b o e=>(I.bs b o e).1
theorem Inv.mod(I:Inv X pins σ H s):Mod X.K X.mg X.base:=I.ok.mod
theorem Inv.kIn(I:Inv X pins σ H s):X.K.In s.heap:=I.ok.mod.kin.keeps I.bk
theorem Inv.fr(I:Inv X pins σ H s):∃ m,Fr X.base X.env.locals s.heap m:=
 let ⟨m,hn,_⟩:=I.loc
 ⟨m,hn,I.bk,Qq I.ok.bsz I.ok.above⟩
theorem Inv.lt(I:Inv X pins σ H s):X.env.locals<s.heap.objs.size:=let ⟨_,hn,_⟩:=I.loc;hn.lt
theorem Inv.sz(I:Inv X pins σ H s):X.s₀.heap.objs.size<=s.heap.objs.size:=Qq I.ok.above (Qr I.lt)
theorem Inv.nofs(I:Inv X pins σ H s)(h:s.heap.objs.size<=a):a∉X.fs:=λ hb=>by
 obtain⟨_,o,ho,_⟩:=I.ok.funs.mem hb;exact absurd (Y8 (Qo ho) (Qq I.sz h)) (Qa _)
theorem Inv.cne(I:Inv X pins σ H s):∀ x c,X.env.cells.lookup x=some c->c≠X.env.locals:=λ x c e z=>by
 obtain⟨v,o,ho,hd⟩:=I.cell x c e;obtain⟨m,⟨o',es,ep,cC,fX,_⟩,_⟩:=I.loc;rw[z,cC] at ho;cases ho;rw[fX] at hd;cases hd
theorem Inv.funs(I:Inv X pins σ H s):s.heap.FunFrames X.base X.outer:=by
 have all:∀(l:List Env),(∀ b∈frs l,b∈X.fs)->X.s₀.heap.FunFrames X.base l->s.heap.FunFrames X.base l:=by
  intro l;induction l with
  |nil=>intro _ _;trivial
  |cons env r ih =>
   intro hs hl;obtain⟨hk,⟨L,o,hf,hn,ho,hd⟩,hr⟩:=hl;have hL:L∈X.fs:=hs L (by unfold frs;rw[Yr,hf];exact Y9);obtain⟨sl,e⟩:=I.base.slot L o ho (I.ok.frf L hL) hL λ z=>I.ok.exfs L z hL
   exact⟨hk,⟨L,_,hf,hn,e,hd⟩,ih (λ b hb=>hs b (by unfold frs;rw[Yr,hf];exact Yf _ hb)) hr⟩
 exact all X.outer (λ _ hb=>hb) I.ok.funs
theorem Inv.stack(I:Inv X pins σ H s):s.heap.FunFrames X.base X.stack:=by
 rcases I.ok.stk with e|⟨e,hf⟩
 ·rw[e];exact I.funs
 ·rw[e];obtain⟨m,hn,_⟩:=I.loc;refine .cons (by rw[I.ok.kind];decide) hf hn ?_ I.funs;exact Heap.get?_none_of_le (Qq I.ok.bsz I.ok.above)
theorem Inv.stkSub(I:Inv X pins σ H s):∀ b∈frs X.stack,b∈X.env.locals::X.fs:=λ b hb=>by
 rcases I.ok.stk with e|⟨e,hf⟩
 ·rw[e] at hb;exact Yf _ hb
 ·rw[e] at hb;unfold frs at hb;rw[Yr,hf] at hb;exact hb
theorem Inv.stkFree(I:Inv X pins σ H s):∀ b∈frs X.stack,H b=none:=λ b hb=>by
 rcases Qb.mp (I.stkSub b hb) with e|hb
 ·rw[e];exact I.free
 ·obtain⟨_,o,ho,_⟩:=I.ok.funs.mem hb;exact I.base.free b o ho (I.ok.frf b hb) λ z=>I.ok.exfs b z hb
theorem Inv.step{ch:List Addr}(I:Inv X pins σ H s)(fY:∀ b∈ch,(b∈X.ex∨X.s₀.heap.objs.size<=b)/\b≠X.env.locals/\(∀ x c,X.env.cells.lookup x=some c->c≠b)/\∀ p∈X.pn++pins,p.1≠b)(keep:∀ b o,b≠X.env.locals->b∉X.fs->b∉ch->s.heap.get? b=some o->H b=none->h'.get? b=some o)(slot:∀ b o,b≠X.env.locals->b∈X.fs->b∉ch->s.heap.get? b=some o->H b=none->∃ sl,h'.get? b=some { o with slots:=sl })(free:∀ b o,b∉ch->s.heap.get? b=some o->H b=none->H' b=none)(there:∀ b o,b∉ch->s.heap.get? b=some o->∃ o',h'.get? b=some o')(tups:∀ b xs,H b=some (.tup xs)->H' b=some (.tup xs))(frzs:∀ b o u,H b=some (.frz o u)->H' b=some (.frz o u))(tbls:∀ b ps,H b=some (.tbl ps)->∃ more,H' b=some (.tbl (ps++more)))(ns:∀ m,s.heap.Ns X.env.locals m->h'.Ns X.env.locals m)(hok:HOk X.prog X.w H' h')(hg:AllBare g'):
  Inv X pins σ H' { s with heap:=h',gens:=g',drawn:=d',toks:=t' }:=by
 have neL:∀ b o,X.s₀.heap.get? b=some o->b≠X.env.locals:=λ b o e=>Qp (Y8 (Qo e) I.ok.above)
 have xN:∀ b o,X.s₀.heap.get? b=some o->b∉X.ex->b∉ch:=λ b o e hx hb=>by
  rcases(fY b hb).1 with z|z
  ·exact hx z
  ·exact absurd (Y8 (Qo e) z) (Qa _)
 have nE:∀ x c,X.env.cells.lookup x=some c->∀ v,s.heap.IsCell c v->h'.IsCell c v:=λ x c e v ⟨o,ho,hd⟩=>by
  have rZ:c∉ch:=λ z=>(fY c z).2.2.1 x c e rfl
  by_cases hc:c∈X.fs
  ·obtain⟨sl,q⟩:=slot c o (I.cne x c e) hc rZ ho (I.freeC x c e);exact⟨_,q,hd⟩
  ·exact⟨o,keep c o (I.cne x c e) hc rZ ho (I.freeC x c e),hd⟩
 refine⟨I.ok,I.os,hg,⟨λ b o e n hb hx=>?_,λ b o e n hb hx=>?_,λ b o e n hx=>?_,λ b o e hx=>?_,λ b xs e=>tups b xs (I.base.tups b xs e),λ b o xs e=>frzs b o xs (I.base.frzs b o xs e),λ b ps e=>?_⟩,?_,λ x c e=>?_,?_,λ x c e=>?_,λ p hp=>?_,hok,I.len⟩
 ·exact keep b o (neL b o e) hb (xN b o e hx) (I.base.keep b o e n hb hx) (I.base.free b o e n hx)
 ·obtain⟨sl,e1⟩:=I.base.slot b o e n hb hx;obtain⟨sl',e2⟩:=slot b _ (neL b o e) hb (xN b o e hx) e1 (I.base.free b o e n hx);exact⟨sl',e2⟩
 ·obtain⟨o',e1⟩:=I.base.there b o e hx;exact free b o' (xN b o e hx) e1 (I.base.free b o e n hx)
 ·obtain⟨o',e1⟩:=I.base.there b o e hx;exact there b o' (xN b o e hx) e1
 ·obtain⟨m1,e1⟩:=I.base.tbls b ps e;obtain⟨m2,e2⟩:=tbls b _ e1;exact⟨m1++m2,by rw[e2,Array.append_assoc]⟩
 ·obtain⟨m,hn,hl⟩:=I.loc;refine⟨m,ns m hn,λ i x v e1 e2 e3=>?_⟩;obtain⟨u,r,l⟩:=hl i x v e1 e2 e3;refine⟨u,r,?_⟩;rcases l with l | ⟨k,c,e,z⟩
  ·exact .inl l
  ·exact .inr ⟨k,c,e,nE x c e _ z⟩
 ·obtain⟨v,z⟩:=I.cell x c e;exact⟨v,nE x c e v z⟩
 ·obtain⟨m,⟨o,_,_,ho,_⟩,_⟩:=I.loc;exact free _ o (λ z=>(fY _ z).2.1 rfl) ho I.free
 ·obtain⟨v,o,ho,hd⟩:=I.cell x c e;exact free c o (λ z=>(fY c z).2.2.1 x c e rfl) ho (I.freeC x c e)
 ·obtain⟨e,n,ne,nf,d⟩:=I.pin p hp;have rZ:p.1∉ch:=λ z=>(fY p.1 z).2.2.2 p hp rfl
  exact⟨keep p.1 p.2 ne nf rZ e n,free p.1 p.2 rZ e n,ne,nf,d⟩
theorem Inv.un(I:Inv X pins σ H s)(u:Un X.fs [] H H' s.heap h')(hok:HOk X.prog X.w H' h'):Inv X pins σ H' { s with heap:=h',toks:=t' }:=by
 obtain⟨m,⟨o,es,ep,ho,r⟩,_⟩:=id I.loc;obtain⟨sl,hL⟩:=u.any ho I.free (by simp);exact I.step (g':=s.gens) (d':=s.drawn) (ch:=[]) (λ _ z=>nomatch z) (λ b o _ hb _ e n=>u.keep b o e n hb (by simp)) (λ b o _ hb _ e n=>u.slot b o e n hb (by simp)) (λ b o _ e n=>u.free b o e n (by simp)) (λ b o _ e=>u.there b o e (by simp)) u.tups u.frzs u.tbls (λ m' hm=>by
  obtain⟨o',u0,ep',cC,r'⟩:=hm;rw[ho] at cC;cases cC;exact⟨_,u0,ep',hL,r'⟩) hok I.bare
theorem Inv.call(I:Inv X pins σ H s)(u:Un (frs X.stack) ch H H' s.heap h')(hok:HOk X.prog X.w H' h')(hg:AllBare g')(fY:∀ b∈ch,(b∈X.ex∨X.s₀.heap.objs.size<=b)/\b≠X.env.locals/\(∀ x c,X.env.cells.lookup x=some c->c≠b)/\∀ p∈X.pn++pins,p.1≠b):
  Inv X pins σ H' { s with heap:=h',gens:=g',drawn:=d',toks:=t' }:=by
 obtain⟨m,⟨o,es,ep,ho,r⟩,_⟩:=id I.loc;obtain⟨sl,hL⟩:=u.any ho I.free λ z=>(fY _ z).2.1 rfl
 exact I.step (ch:=ch) fY (λ b o hL hb hc e n=>u.keep b o e n (λ z=>(Qb.mp (I.stkSub b z)).elim hL hb) hc) (λ b o _ _ hc e n=>u.any e n hc) (λ b o hc e n=>u.free b o e n hc) (λ b o hc e=>u.there b o e hc) u.tups u.frzs u.tbls (λ m' hm=>by
  obtain⟨o',u0,ep',cC,r'⟩:=hm;rw[ho] at cC;cases cC;exact⟨_,u0,ep',hL,r'⟩) hok hg
theorem Inv.turned(I:Inv X pins σ H s)(k:∀ b o,b≠it->s.heap.get? b=some o->h'.get? b=some o)(hn:H it=none)(hL:it≠X.env.locals)(h1:it∈X.ex∨X.s₀.heap.objs.size<=it)(h2:∀ x c,X.env.cells.lookup x=some c->c≠it)(h3:∀ p∈X.pn++pins,p.1≠it):Inv X pins σ H { s with heap:=h',toks:=t' }:=by
 have nit:∀ b u,H b=some u->b≠it:=λ b u e z=>by rw[z,hn] at e;cases e
 refine I.step (g':=s.gens) (d':=s.drawn) (ch:=[it]) (λ b hb=>?_) (λ b o _ _ hc e _=>k b o (λ z=>hc (by simp[z])) e) (λ b o _ _ hc e _=>⟨o.slots,k b o (λ z=>hc (by simp[z])) e⟩) (λ _ _ _ _ n=>n)
  (λ b o hc e=>⟨o,k b o (λ z=>hc (by simp[z])) e⟩) (λ _ _ e=>e) (λ _ _ _ e=>e) (λ b ps e=>⟨#[],by rw[e];simp⟩) (λ m hm=>?_) (λ b u e=>?_) I.bare
 ·have e:b=it:=by simpa using hb
  subst e;exact⟨h1,hL,h2,h3⟩
 ·obtain⟨o,es,ep,ho,r⟩:=hm;exact⟨o,es,ep,k _ o (Vr hL) ho,r⟩
 ·refine(I.hok b u e).stay (λ c v hc q=>k c v ?_ q) (λ _ q=>q) λ _ _ q=>q
  rcases hc with z|z
  ·rw[z];exact nit b u e
  ·exact nit c _ z
theorem Inv.tok(I:Inv X pins σ H s)(t:Nat):Inv X pins σ H { s with toks:=t }:=I.un (h':=s.heap) (t':=t) Un.refl I.hok
theorem Inv.kept(I:Inv X pins σ H s)(k:∀ b u,s.heap.get? b=some u->h'.get? b=some u):Inv X pins σ H { s with heap:=h',toks:=t' }:=I.un (Un.kept k) (I.hok.kept k)
theorem Inv.laid(I:Inv X pins σ H s)(k:∀ b u,s.heap.get? b=some u->h'.get? b=some u)(hp:s.heap.objs.size<=a)(new:zp X.prog X.w (upd H a o) h' a o):
  Inv X pins σ (upd H a o) { s with heap:=h',toks:=t' }:=I.un (Un.laid k hp (I.hok.fresh hp)) (I.hok.laid k hp new)
theorem Inv.write(I:Inv X pins σ H s)(mu:Mut (H x))(he:e=x∨H e=some (.own x))(k:∀ b u,b≠e->s.heap.get? b=some u->h'.get? b=some u)(cE:∃ u,h'.get? e=some u)(new:zp X.prog X.w (upd H x o) h' x o):Inv X pins σ (upd H x o) { s with heap:=h',toks:=t' }:=I.un (Un.write mu he k cE) (I.hok.write mu he k cE new)
theorem Inv.weak(I:Inv X pins σ H s)(hl:σ'.length=σ.length)(w:∀(i:Nat) v,σ'[i]?=some (some v)->σ[i]?=some (some v)):Inv X pins σ' H s:=
 ⟨I.ok,I.os,I.bare,I.base,let ⟨m,hn,cD⟩:=I.loc;⟨m,hn,λ i x v e1 e2 e3=>cD i x v e1 (w i v e2) e3⟩,I.cell,I.free,I.freeC,I.pin,I.hok,hl.trans I.len⟩
theorem Inv.pins_of(I:Inv X pins σ H s)(h:∀ p∈lW,s.heap.get? p.1=some p.2/\H p.1=none/\p.1≠X.env.locals/\p.1∉X.fs/\∀ v,p.2.data≠.cell v):Inv X lW σ H s:=
 ⟨I.ok,I.os,I.bare,I.base,I.loc,I.cell,I.free,I.freeC,λ p hp=>(Uy.mp hp).elim (λ z=>I.pin p (Yg _ z)) (h p),I.hok,I.len⟩
theorem qfi{N:List Str}(hN:N.Nodup) {i:Nat}(a:N[i]?=some x)(b:N[j]?=some x):i=j:=by
 obtain⟨h1,e1⟩:=Xl.mp a;obtain⟨h2,e2⟩:=Xl.mp b;exact(List.getElem_inj hN).mp (e1.trans e2.symm)
theorem qdV(I:Inv X pins σ H s)(hN:X.N.Nodup)(hi:X.N[i]?=some x)(hx:Loc X.env.scope x)(r:qT v u)(h:∀ s',Inv X pins (σ.set i (some v)) H s'->(∃ a,Heap.SameBut a s.heap s'.heap/\(a=X.env.locals∨X.env.cells.lookup x=some a))->Q () s')(hf:X.fn x=true∨X.env.scope.names.lookup x=some .local:=by first|exact .inl rfl|exact .inr rfl|assumption):wpAny M A (storeName X.env x u) Q E s:=by
 obtain⟨m,hn,hl⟩:=id I.loc;have hcls:(X.env.scope.kind == .class || (X.env.scope.kind == .module && X.env.locals != X.env.globals))=false:=by rw[I.ok.kind];rfl
 have hiσ:i < σ.length:=by rw[I.len];exact(Xl.mp hi).1
 have cne:=I.cne;have aK:∀{a:Addr}{h':Heap},(∃ o,s.heap.get? a=some o/\H a=none)->Heap.SameBut a s.heap h'->HOk X.prog X.w H h':=λ{a h'} ha hs b ob e=>by
  obtain⟨_,_,A8⟩:=ha;refine(I.hok b ob e).stay (λ c w' hc q=>(hs.2 c ?_).trans q) (λ _ q=>q) λ _ _ q=>q
  rintro rfl;rcases hc with rfl|hc
  ·rw[A8] at e;cases e
  ·rw[A8] at hc;cases hc
 rcases hx with hk|hk
 ·refine wpAny_storeName_local hk hn (λ h' tN hs=>?_) hcls;obtain⟨oL,_,_,iM,_⟩:=id hn;refine h _ ⟨I.ok,I.os,I.bare,⟨λ b o e n hb hx=>?_,λ b o e n hb hx=>?_,I.base.free,λ b o e hx=>?_,I.base.tups,I.base.frzs,I.base.tbls⟩,⟨_,tN,λ j y v' e1 e2 e3=>?_⟩,λ y c e=>?_,I.free,I.freeC,λ p hp=>?_,aK ⟨oL,iM,I.free⟩ hs,by simpa using I.len⟩ ⟨_,hs,.inl rfl⟩
  ·exact(hs.2 b (Qp (Y8 (Qo e) I.ok.above))).trans (I.base.keep b o e n hb hx)
  ·obtain⟨sl,e1⟩:=I.base.slot b o e n hb hx;exact⟨sl,(hs.2 b (Qp (Y8 (Qo e) I.ok.above))).trans e1⟩
  ·obtain⟨o',e1⟩:=I.base.there b o e hx;exact⟨o',(hs.2 b (Qp (Y8 (Qo e) I.ok.above))).trans e1⟩
  ·by_cases hj:j=i
   ·subst hj;rw[hi] at e1;cases e1;rw[List.getElem?_set_self hiσ] at e2;cases e2
    exact⟨u,r,.inl ⟨hk,by simp⟩⟩
   ·rw[List.getElem?_set_ne (Vr hj)] at e2;obtain⟨u',r',q⟩:=hl j y v' e1 e2 e3;refine⟨u',r',?_⟩;rcases q with⟨k,e⟩ | ⟨k,c,e,z⟩
    ·refine .inl ⟨k,?_⟩
     have:y≠x:=λ e=>hj (qfi hN e1 (e ▸ hi))
     simp[this,e]
    ·exact .inr ⟨k,c,e,z.sameBut hs (cne y c e)⟩
  ·obtain⟨w',z⟩:=I.cell y c e;exact⟨w',z.sameBut hs (cne y c e)⟩
  ·obtain⟨e,n,ne,nf,d⟩:=I.pin p hp;exact⟨(hs.2 p.1 ne).trans e,n,ne,nf,d⟩
 ·have hfn:X.fn x=true:=by
   rcases hf with z|z
   ·exact z
   ·rw[z] at hk;cases hk
  obtain⟨c,hc⟩:=I.ok.has x (.inl hk);obtain⟨w',z⟩:=I.cell x c hc;refine wpAny_storeName_cell I.ok.kind hk hc z (λ h' I0 hs=>?_);obtain⟨oc,hoc,hocd⟩:=id z;refine h { s with heap:=h' } ⟨I.ok,I.os,I.bare,⟨λ b o e n hb hx=>?_,λ b o e n hb hx=>?_,I.base.free,λ b o e hx=>?_,I.base.tups,I.base.frzs,I.base.tbls⟩,⟨m,hn.sameBut hs (Vr (cne x c hc)),λ j y v' e1 e2 e3=>?_⟩,λ y c' e=>?_,I.free,I.freeC,λ p hp=>?_,aK ⟨oc,hoc,I.freeC x c hc⟩ hs,by simpa using I.len⟩ ⟨c,hs,.inr hc⟩
  ·exact(hs.2 b (Qp (Y8 (Qo e) (I.ok.cab x c hfn hc)))).trans (I.base.keep b o e n hb hx)
  ·obtain⟨sl,e1⟩:=I.base.slot b o e n hb hx;exact⟨sl,(hs.2 b (Qp (Y8 (Qo e) (I.ok.cab x c hfn hc)))).trans e1⟩
  ·obtain⟨o',e1⟩:=I.base.there b o e hx;exact⟨o',(hs.2 b (Qp (Y8 (Qo e) (I.ok.cab x c hfn hc)))).trans e1⟩
  ·by_cases hj:j=i
   ·subst hj;rw[hi] at e1;cases e1;rw[List.getElem?_set_self hiσ] at e2;cases e2
    exact⟨u,r,.inr ⟨.inl hk,c,hc,I0⟩⟩
   ·rw[List.getElem?_set_ne (Vr hj)] at e2;obtain⟨u',r',q⟩:=hl j y v' e1 e2 e3;refine⟨u',r',?_⟩;rcases q with q | ⟨k,c',e,z'⟩
    ·exact .inl q
    ·refine .inr ⟨k,c',e,z'.sameBut hs ?_⟩;rintro rfl;exact hj (qfi hN e1 (I.ok.inj _ _ _ e hc ▸ hi))
  ·by_cases c8:c'=c
   ·subst c8;exact⟨_,I0⟩
   ·obtain⟨w2,z2⟩:=I.cell y c' e;exact⟨w2,z2.sameBut hs c8⟩
  ·obtain⟨e,n,ne,nf,d⟩:=I.pin p hp;refine⟨(hs.2 p.1 ?_).trans e,n,ne,nf,d⟩;intro q;rw[q,hoc] at e;have q':oc=p.2:=Option.some.inj e;exact d w' (by rw[<- q'];exact hocd)
theorem qfj(I:Inv X pins σ H s)(hN:X.N.Nodup)(hi:X.N[i]?=some x)(hx:Loc X.env.scope x)(r:qT v u)(h:∀ s',Inv X pins (σ.set i (some v)) H s'->Q () s')(hf:X.fn x=true∨X.env.scope.names.lookup x=some .local:=by first | exact .inl rfl | exact .inr rfl | assumption):wpAny M A (storeName X.env x u) Q E s:=
 qdV I hN hi hx r (λ s' I' _=>h s' I') hf
theorem Inv.call'(I:Inv X pins σ H s)(ho:s'.os=s.os)(u:Un (frs X.stack) ch H H' s.heap s'.heap)(hok:HOk X.prog X.w H' s'.heap)(hg:AllBare s'.gens)(fY:∀ b∈ch,(b∈X.ex∨X.s₀.heap.objs.size<=b)/\b≠X.env.locals/\(∀ x c,X.env.cells.lookup x=some c->c≠b)/\∀ p∈X.pn++pins,p.1≠b):Inv X pins σ H' s':=by
 obtain⟨h',g',d',t',o'⟩:=s';have e:o'=s.os:=ho;subst e;exact I.call (g':=g') (t':=t') (d':=d') u hok hg fY
end
abbrev XK:=Value->Option Addr->Hp->Prop
abbrev St:=List (Option V)
abbrev VK:=V->Hp->Prop
abbrev TE:=St->Hp->VK->Prop
abbrev TT:=St->Hp->(Bool->Hp->Prop)->Prop
abbrev TA:=St->Hp->(List V->Hp->Prop)->Prop
structure Ends where 
 nx:St->Hp->Prop
 rt:VK
 bk:St->Hp->Prop:=λ _ _=>False
 ct:St->Hp->Prop:=λ _ _=>False
abbrev TS:=Ends->St->Hp->Prop
def EP(X:Cx)(pins:List (Addr×Obj))(σ:St)(Q:VK)(u:Value)(s':Shared):Prop:=∃ v H',Inv X pins σ H' s'/\qT v u/\Q v H'
def TP(X:Cx)(pins:List (Addr×Obj))(σ:St)(Q:Bool->Hp->Prop)(b:Bool)(s':Shared):Prop:=∃ H',Inv X pins σ H' s'/\Q b H'
def AP(X:Cx)(pins:List (Addr×Obj))(σ:St)(Q:List V->Hp->Prop)(us:List Value)(s':Shared):Prop:=∃ vs H',Inv X pins σ H' s'/\qL vs us/\Q vs H'
def SP(X:Cx)(pins:List (Addr×Obj))(D:Ends)(f:Flow)(s':Shared):Prop:=
 match f with
 |.next=>∃ σ' H',Inv X pins σ' H' s'/\D.nx σ' H'
 |.brk=>∃ σ' H',Inv X pins σ' H' s'/\D.bk σ' H'
 |.cont=>∃ σ' H',Inv X pins σ' H' s'/\D.ct σ' H'
 |.ret u=>∃ v σ' H',Inv X pins σ' H' s'/\qT v u/\D.rt v H'
def PE(X:Cx)(e:Expr)(t:TE):Prop:=
 ∀(pins:List (Addr×Obj))(s:Shared)(σ:St)(H:Hp)(Q:VK),Inv X pins σ H s->t σ H Q->wpAny (model X.prog X.w) X.A (eval e X.env) (EP X pins σ Q) X.xe s
def PT(X:Cx)(e:Expr)(t:TT):Prop:=
 ∀(pins:List (Addr×Obj))(s:Shared)(σ:St)(H:Hp)(Q:Bool->Hp->Prop),Inv X pins σ H s->t σ H Q->wpAny (model X.prog X.w) X.A (isTrue e X.env (eval e X.env)) (TP X pins σ Q) X.xe s
def PW(X:Cx)(e:Expr)(t:TT):Prop:=
 ∀(aJ:Sem Value)(pins:List (Addr×Obj))(s:Shared)(σ:St)(H:Hp)(Q:Bool->Hp->Prop),Inv X pins σ H s->t σ H Q->wpAny (model X.prog X.w) X.A (isTrue e X.env aJ) (TP X pins σ Q) X.xe s
theorem PW.pt(h:PW X e t):PT X e t:=h _
def PA(X:Cx)(es:List Expr)(t:TA):Prop:=
 ∀(pos:Pos)(pins:List (Addr×Obj))(s:Shared)(σ:St)(H:Hp)(Q:List V->Hp->Prop),Inv X pins σ H s->t σ H Q->wpAny (model X.prog X.w) X.A (spliced (backTo pos (starEach es X.env))) (AP X pins σ Q) X.xe s
def PS(X:Cx)(st:Stmt)(t:TS):Prop:=
 ∀(pins:List (Addr×Obj))(s:Shared)(σ:St)(H:Hp)(D:Ends),Inv X pins σ H s->t D σ H->wpAny (model X.prog X.w) X.A (exec st X.env) (SP X pins D) X.xe s
def PSs(X:Cx)(st:List Stmt)(t:TS):Prop:=
 ∀(pins:List (Addr×Obj))(s:Shared)(σ:St)(H:Hp)(D:Ends),Inv X pins σ H s->t D σ H->wpAny (model X.prog X.w) X.A (execs st X.env) (SP X pins D) X.xe s
theorem thn{t:Sem α}{Q Q':α->Shared->Prop}(h:wpAny M A t Q E s)(hQ:∀ a s,Q a s->Q' a s):wpAny M A t Q' E s:=Vd h hQ λ _ _ x=>x
section
variable {X:Cx}
theorem bin(ha:PE X a ta)(hb:PE X b tb){R:V->V->Hp->Prop}(I:Inv X pins σ H s)(h:ta σ H λ x H1=>tb σ H1 λ y H2=>R x y H2){Q:α->Shared->Prop}{f:Value->Value->Sem α}(hf:∀ v u s2 x y H2,Inv X pins σ H2 s2->qT x v->qT y u->R x y H2->wpAny (model X.prog X.w) X.A (f v u) Q X.xe s2):
  wpAny (model X.prog X.w) X.A (eval a X.env) (λ v s₁=>wpAny (model X.prog X.w) X.A (eval b X.env) (λ u s₂=>wpAny (model X.prog X.w) X.A (f v u) Q X.xe s₂) X.xe s₁) X.xe s:=by
 refine thn (ha pins s σ H _ I h) λ v s1 ⟨x,H1,I1,r1,q1⟩=>?_
 refine thn (hb pins s1 σ H1 _ I1 q1) λ u s2 ⟨y,H2,I2,r2,q2⟩=>?_
 exact hf v u s2 x y H2 I2 r1 r2 q2
def qet(i:Nat):TE:=λ σ H Q=>∃ v,σ[i]?=some (some v)/\Q v H
def tC(v:V):TE:=λ _ H Q=>Q v H
theorem qmU(hN:X.N[i]?=some x)(hv:Vis X.env.scope x)(hd:(x == ("__debug__":Str))=false:=by decide)(R7:(x == ("__classdict__":Str))=false:=by decide):PE X (.Name x pos) (qet i):=by
 intro pins s σ H Q I h;obtain⟨v,e,h⟩:=h;obtain⟨m,hn,hl⟩:=I.loc;obtain⟨u,r,l⟩:=hl i x v hN e hv;have fin:EP X pins σ Q u s:=⟨v,H,I,r,h⟩;rcases l with⟨hk,hm⟩|⟨hk,c,hc,S9⟩
 ·exact wpAny_Name (wpAny_loadName_local I.ok.kind hk hn hm fin) hd
 ·rcases hk with hk | hk
  ·exact wpAny_Name (wpAny_loadName_cell I.ok.kind hk hc S9 fin) hd
  ·exact wpAny_Name (wpAny_loadName_free I.ok.kind hk hc S9 fin R7) hd
theorem qg{i j pos}:PE X (.Constant (.int i) j pos) (tC (.int i)):=λ _ _ _ H _ I h=>wpAny_Constant_int ⟨.int i,H,I.tok _,⟨_,rfl⟩,h⟩
theorem qa3{b j pos}:PE X (.Constant (.bool b) j pos) (tC (.bl b)):=λ _ _ _ H _ I h=>Constant_bool ⟨.bl b,H,I,rfl,h⟩
theorem vF{j pos}:PE X (.Constant .none j pos) (tC .non):=λ _ _ _ H _ I h=>Constant_none ⟨.non,H,I,rfl,h⟩
theorem qm{x j pos}:PE X (.Constant (.str x) j pos) (tC (.str x)):=λ _ _ _ H _ I h=>Calls.Constant_str ⟨.str x,H,I.tok _,⟨_,rfl⟩,h⟩
def Gl(X:Cx)(x:Str):Prop:=X.env.kindOf x=some .globalImplicit
theorem qa4(I:Inv X pins σ H s)(hg:Gl X x)(hm:X.mg x=some u)(h:Q u s)(hd:(x == ("__debug__":Str))=false:=by decide):wpAny (model X.prog X.w) X.A (eval (.Name x pos) X.env) Q E s:=
 Calls.Name_function_global I.ok.kind hg (Calls.loadGlobal_global (by rw[I.ok.glob];exact I.mod.glob.keeps I.bk) hm h) hd
theorem qaA(I:Inv X pins σ H s)(hg:Gl X x)(hm:X.mg x=none)(hv:bootBuiltins x=some u)(h:Q u s)(hn:x≠"__name__":=by decide)(hd:(x == ("__debug__":Str))=false:=by decide):wpAny (model X.prog X.w) X.A (eval (.Name x pos) X.env) Q E s:=by
 obtain⟨mb,h1,h2⟩:=I.mod.blt;exact Calls.Name_function_global I.ok.kind hg (Calls.loadGlobal_builtin (by rw[I.ok.glob];exact I.mod.glob.keeps I.bk) hm (by rw[I.ok.blt];exact h1.keeps I.bk) ((h2 x hn).trans hv) h) hd
theorem zX(hg:Gl X x)(hm:X.mg x=some u)(r:qT v u)(hd:(x == ("__debug__":Str))=false:=by decide):PE X (.Name x pos) (tC v):=
 λ _ _ _ H _ I h=>qa4 I hg hm ⟨v,H,I,r,h⟩ hd
theorem qeu(hg:Gl X x)(hm:X.mg x=none)(hv:bootBuiltins x=some u)(r:qT v u)(hn:x≠"__name__":=by decide)(hd:(x == ("__debug__":Str))=false:=by decide):PE X (.Name x pos) (tC v):=
 λ _ _ _ H _ I h=>qaA I hg hm hv ⟨v,H,I,r,h⟩ hn hd
variable {a b:Expr}{ta tb:TE}{pos:Pos}
def PC(X:Cx)(op:CmpOp)(a b:Expr)(t:TE):Prop:=
 ∀(pins:List (Addr×Obj))(s:Shared)(σ:St)(H:Hp)(Q:VK),Inv X pins σ H s->t σ H Q ->
  wpAny (model X.prog X.w) X.A (eval a X.env) (λ v s₁=>wpAny (model X.prog X.w) X.A (eval b X.env) (λ u s₂=>wpAny (model X.prog X.w) X.A (compareOp op v u) (EP X pins σ Q) X.xe s₂) X.xe s₁) X.xe s
def tB(t:TE):TT:=λ σ H Q=>t σ H λ x H1=>∃ c,x=.bl c/\Q c H1
theorem qmV(h:PC X op a b t)(h1:behindInMarks op b=false:=by first|exact nobehind _ (by decide) (by decide)|rfl):PE X (.Compare a [op] [b] pos) t:=λ pins s σ H Q I hw=>wpAny_Compare1 (h pins s σ H Q I hw) h1
theorem jf(h:PE X e t)(he:∀ aJ,isTrue e X.env aJ=(do let v <- aJ;standAt e.pos;holding [v] (truthy v)):=by intro _;rfl):PT X e (tB t):=by
 intro pins s σ H Q I hw;refine isTrue_plain (thn (h pins s σ H _ I hw) λ v s1 ⟨x,H1,I1,r1,q1⟩=>?_) (he _);obtain⟨d,rfl,q⟩:=q1;cases r1
 exact Z1 ⟨H1,I1,q⟩
variable {tA xF:TT}{rest:List Expr}
def qo1(t u:TT):TT:=λ σ H Q=>t σ H λ c H1=>if c=true then u σ H1 Q else Q false H1
def tOr(t u:TT):TT:=λ σ H Q=>t σ H λ c H1=>if c=true then Q true H1 else u σ H1 Q
def qo2(t:TT):TT:=λ σ H Q=>t σ H λ c H1=>Q (!c) H1
theorem qev(ha:PT X a tA):PW X (.BoolOp .And [a] pos) tA:=by
 intro wh pins s σ H Q I h;refine isTrue_and (thn (ha pins s σ H Q I h) λ c s1 e=>?_);cases c with
 |true=>exact isTrue_and_nil e
 |false=>exact e
theorem qaB(ha:PT X a tA):PW X (.BoolOp .Or [a] pos) tA:=by
 intro wh pins s σ H Q I h;refine isTrue_or (thn (ha pins s σ H Q I h) λ c s1 e=>?_);cases c with
 |false=>exact isTrue_or_nil e
 |true=>exact e
theorem qgw(ha:PT X a tA)(hb:PW X (.BoolOp .And (b::rest) pos) xF):PW X (.BoolOp .And (a::b::rest) pos) (qo1 tA xF):=by
 intro wh pins s σ H Q I h;refine isTrue_and (thn (ha pins s σ H _ I h) λ c s1 ⟨H1,I1,q1⟩=>?_);cases c with
 |true=>exact hb wh pins s1 σ H1 Q I1 q1
 |false=>exact⟨H1,I1,q1⟩
theorem qcA(ha:PT X a tA)(hb:PW X (.BoolOp .Or (b::rest) pos) xF):PW X (.BoolOp .Or (a::b::rest) pos) (tOr tA xF):=by
 intro wh pins s σ H Q I h;refine isTrue_or (thn (ha pins s σ H _ I h) λ c s1 ⟨H1,I1,q1⟩=>?_);cases c with
 |true=>exact⟨H1,I1,q1⟩
 |false=>exact hb wh pins s1 σ H1 Q I1 q1
theorem qbL(ha:PT X a tA):PT X (.UnaryOp .Not a pos) (qo2 tA):=by
 intro pins s σ H Q I h;exact isTrue_not (ha pins s σ H (λ c H1=>Q (!c) H1) I h)
def qmD(ta tb:TE):TE:=λ σ H Q=>ta σ H λ x H1=>∃ c,x=.bl c/\if c=true then tb σ H1 Q else Q (.bl false) H1
def qnQ(ta tb:TE):TE:=λ σ H Q=>ta σ H λ x H1=>∃ c,x=.bl c/\if c=true then Q (.bl true) H1 else tb σ H1 Q
def qmE(ta:TE):TE:=λ σ H Q=>ta σ H λ x H1=>∃ c,x=.bl c/\Q (.bl (!c)) H1
theorem qgx{op}(h:PE X a t):PE X (.BoolOp op [a] pos) t:=λ pins s σ H Q I hw=>BoolOp_one (h pins s σ H Q I hw)
theorem qjv(ha:PE X a ta)(hb:PE X (.BoolOp .And (b::rest) pos) tb):PE X (.BoolOp .And (a::b::rest) pos) (qmD ta tb):=by
 intro pins s σ H Q I h;refine BoolOp_and (thn (ha pins s σ H _ I h) λ v s1 ⟨x,H1,I1,r1,q1⟩=>?_);obtain⟨c,rfl,q1⟩:=q1;cases r1
 refine Z1 ?_;cases c with
 |true=>exact hb pins s1 σ H1 Q I1 q1
 |false=>exact⟨.bl false,H1,I1,rfl,q1⟩
theorem qnR(ha:PE X a ta)(hb:PE X (.BoolOp .Or (b::rest) pos) tb):PE X (.BoolOp .Or (a::b::rest) pos) (qnQ ta tb):=by
 intro pins s σ H Q I h;refine BoolOp_or (thn (ha pins s σ H _ I h) λ v s1 ⟨x,H1,I1,r1,q1⟩=>?_);obtain⟨c,rfl,q1⟩:=q1;cases r1
 refine Z1 ?_;cases c with
 |false=>exact hb pins s1 σ H1 Q I1 q1
 |true=>exact⟨.bl true,H1,I1,rfl,q1⟩
theorem qgy(ha:PE X a ta):PE X (.UnaryOp .Not a pos) (qmE ta):=by
 intro pins s σ H Q I h;refine UnaryOp_ (thn (ha pins s σ H _ I h) λ v s1 ⟨x,H1,I1,r1,q1⟩=>?_);obtain⟨c,rfl,q1⟩:=q1;cases r1
 exact not_of (Z1 ⟨.bl (!c),H1,I1,rfl,q1⟩)
def tIf(t:TT)(ta tb:TE):TE:=λ σ H Q=>t σ H λ c H1=>if c=true then ta σ H1 Q else tb σ H1 Q
theorem qfk(hc:PT X c tA)(ha:PE X a ta)(hb:PE X b tb):PE X (.IfExp c a b pos) (tIf tA ta tb):=by
 intro pins s σ H Q I h;refine wpAny_IfExp (thn (hc pins s σ H _ I h) λ d s1 ⟨H1,I1,q1⟩=>?_);cases d with
 |true=>exact ha pins s1 σ H1 Q I1 q1
 |false=>exact hb pins s1 σ H1 Q I1 q1
end
def SqL(K:W.Frag)(H:Hp)(a:Addr)(xs:List V):Prop:=
 Rd H a (.lst xs) ∨
  ∃(o:Obj)(its:Array Value)(n:Nat),K.lookup a=some o/\o.cls=.type "list"/\o.dict=none/\o.data=.seq its n/\its.size<=sizeLine/\qL xs its.toList
def SqT(K:W.Frag)(H:Hp)(a:Addr)(xs:List V):Prop:=
 Rd H a (.tup xs) ∨
  ∃(o:Obj)(its:Array Value)(n:Nat),K.lookup a=some o/\o.cls=.type "tuple"/\o.data=.seq its n/\its.size<=sizeLine/\qL xs its.toList
noncomputable def qo3:Value->Option V
 |.none=>some .non
 |.bool b=>some (.bl b)
 |.int i _=>some (.int i)
 |.str x _=>some (.str x)
 |.bytes b _=>some (.byt b)
 |.float b _=>some (.flt b)
 |.ref a=>some (.ref a)
 |.type n=>some (.ty n)
 |_=>none
theorem qT.abs(r:qT x u):qo3 u=some x:=by
 cases x with
 |non=>cases r;rfl
 |bl _=>cases r;rfl
 |int _=>obtain⟨t,rfl⟩:=r;rfl
 |str _=>obtain⟨t,rfl⟩:=r;rfl
 |byt _=>obtain⟨t,rfl⟩:=r;rfl
 |flt _=>obtain⟨t,rfl⟩:=r;rfl
 |ref _=>cases r;rfl
 |ty _=>cases r;rfl
theorem qT.inj(r:qT x u)(q:qT y u):x=y:=Option.some.inj (r.abs.symm.trans q.abs)
theorem qL.inj:∀{xs ys:List V}{us:List Value},qL xs us->qL ys us->xs=ys
 |_,_,_,.nil,.nil=>rfl
 |_,_,_,.cons r t,.cons r' t'=>by rw[r.inj r',qL.inj t t']
section
variable {X:Cx}{pins:List (Addr×Obj)}{σ:St}{H:Hp}{s:Shared}{a:Addr}{xs ys:List V}
theorem SqL.of{K:W.Frag}(h:H a=some (.lst xs)):SqL K H a xs:=.inl (.inl h)
theorem SqT.of{K:W.Frag}(h:H a=some (.tup xs)):SqT K H a xs:=.inl (.inl h)
theorem Inv.list(I:Inv X pins σ H s)(h:SqL X.K H a xs):∃ its:List Value,qL xs its/\PlainL s.heap a its.toArray/\xs.length<=sizeLine:=by
 rcases h with h|⟨o,its,n,hk,hc,hd,hs,hz,r⟩
 ·obtain⟨z,its,n,r,e⟩:=h.ok I.hok;exact⟨its,r,⟨_,n,e,rfl,rfl,rfl⟩,z⟩
 ·refine⟨its.toList,r,⟨o,n,I.kIn a o hk,hc,hd,by simpa using hs⟩,?_⟩;have e:=r.length;simp only[Ys] at e;omega
theorem Inv.tuple(I:Inv X pins σ H s)(h:SqT X.K H a xs):∃ its:List Value,qL xs its/\IsTup s.heap a its.toArray/\xs.length<=sizeLine:=by
 rcases h with h|⟨o,its,n,hk,hc,hs,hz,r⟩
 ·obtain⟨z,its,r,p⟩:=h.ok I.hok;exact⟨its,r,p,z⟩
 ·refine⟨its.toList,r,⟨o,I.kIn a o hk,hc,n,by simpa using hs⟩,?_⟩;have e:=r.length;simp only[Ys] at e;omega
theorem Inv.list_inj(I:Inv X pins σ H s)(h:SqL X.K H a xs)(h':SqL X.K H a ys):xs=ys:=by
 obtain⟨its,r,⟨o,n,e,_,_,d⟩,_⟩:=I.list h;obtain⟨its',r',⟨o',n',e',_,_,d'⟩,_⟩:=I.list h';rw[e] at e';cases e';rw[d] at d';injection d' with d1 _
 have:its=its':=by simpa using congrArg Array.toList d1
 subst this;exact r.inj r'
theorem Inv.tuple_inj(I:Inv X pins σ H s)(h:SqT X.K H a xs)(h':SqT X.K H a ys):xs=ys:=by
 obtain⟨its,r,⟨o,e,_,n,d⟩,_⟩:=I.tuple h;obtain⟨its',r',⟨o',e',_,n',d'⟩,_⟩:=I.tuple h';rw[e] at e';cases e';rw[d] at d';injection d' with d1 _
 have:its=its':=by simpa using congrArg Array.toList d1
 subst this;exact r.inj r'
end
noncomputable abbrev Cx.wish(X:Cx)(E:Value->Shared->Prop):Cx:={ X with xe:=E }
noncomputable abbrev Cx.nox(X:Cx):Cx:=X.wish λ _ _=>False
theorem Cx.Ok.wish{X:Cx}(ok:X.Ok)(E:Value->Shared->Prop):(X.wish E).Ok:=
 ⟨ok.mod,ok.kind,ok.glob,ok.blt,ok.above,ok.inj,ok.has,ok.cab,ok.hd,ok.frames,ok.stk,ok.exf,ok.bs,ok.bsz,ok.noex,ok.exfs,ok.funs,ok.frf⟩
theorem Cx.Ok.unwish{X:Cx}(ok:(X.wish E).Ok):X.Ok:=
 ⟨ok.mod,ok.kind,ok.glob,ok.blt,ok.above,ok.inj,ok.has,ok.cab,ok.hd,ok.frames,ok.stk,ok.exf,ok.bs,ok.bsz,ok.noex,ok.exfs,ok.funs,ok.frf⟩
section
variable {X:Cx}{pins:List (Addr×Obj)}{σ:St}{H:Hp}{s:Shared}{E:Value->Shared->Prop}
theorem Inv.wish(I:Inv X pins σ H s)(E:Value->Shared->Prop):Inv (X.wish E) pins σ H s:=⟨I.ok.wish E,I.os,I.bare,I.base,I.loc,I.cell,I.free,I.freeC,I.pin,I.hok,I.len⟩
theorem Inv.unwish(I:Inv (X.wish E) pins σ H s):Inv X pins σ H s:=⟨I.ok.unwish,I.os,I.bare,I.base,I.loc,I.cell,I.free,I.freeC,I.pin,I.hok,I.len⟩
theorem SP.unwish(h:SP (X.wish E) pins D f s'):SP X pins D f s':=by
 cases f with
 |next=>obtain⟨σ',H',I,q⟩:=h;exact⟨σ',H',I.unwish,q⟩
 |brk=>obtain⟨σ',H',I,q⟩:=h;exact⟨σ',H',I.unwish,q⟩
 |cont=>obtain⟨σ',H',I,q⟩:=h;exact⟨σ',H',I.unwish,q⟩
 |ret u=>obtain⟨v,σ',H',I,r,q⟩:=h;exact⟨v,σ',H',I.unwish,r,q⟩
theorem PSs.nox{st:List Stmt}(h:PSs X.nox st t):PSs X st t:=λ pins s σ H D I hw =>
 Vd (h pins s σ H D (I.wish _) hw) (λ _ _ q=>q.unwish) λ _ _ z=>False.elim z
end
section
variable {X:Cx}{st:Stmt}{rest:List Stmt}{t u:TS}{e:Expr}{te:TE}{pos:Pos}
def qnS:TS:=λ D σ H=>D.nx σ H
def qo4(t u:TS):TS:=λ D σ H=>t { D with nx:=u D } σ H
theorem qC:PSs X [] qnS:=λ _ _ σ H _ I h=>Ji ⟨σ,H,I,h⟩
theorem qc(h1:PS X st t)(h2:PSs X rest u):PSs X (st::rest) (qo4 t u):=by
 intro pins s σ H D I h;refine wpAny_execs_cons (thn (h1 pins s σ H { D with nx:=u D } I h) λ f s1 q=>?_);cases f with
 |next =>
  obtain⟨σ',H',I',q⟩:=q;exact h2 pins s1 σ' H' D I' q
 |ret v=>exact q
 |brk=>exact q
 |cont=>exact q
theorem qd(h1:PS X st t):PSs X [st] t:=by
 intro pins s σ H D I h;refine wpAny_execs_cons (thn (h1 pins s σ H D I h) λ f s1 q=>?_);cases f with
 |next=>exact Ji q
 |ret v=>exact q
 |brk=>exact q
 |cont=>exact q
theorem Inv.quiet(I:Inv X pins σ H s):interactive X.env=false:=by simp[interactive,I.ok.kind]
def qnT(te:TE):TS:=λ D σ H=>te σ H λ _ H1=>D.nx σ H1
theorem yt(he:PE X e te)(hs:swapsWith e none pos.line X.env=pure false:=by rfl):PS X (.Expr e pos) (qnT te):=by
 intro pins s σ H D I h;exact wpAny_Expr_any (thn (he pins s σ H _ I h) λ v s1 ⟨x,H1,I1,r1,q1⟩=>⟨σ,H1,I1,q1⟩) I.quiet hs
def qlq(te:TE):TS:=λ D σ H=>te σ H D.rt
theorem ql(he:PE X e te):PS X (.Return (some e) pos) (qlq te):=by
 intro pins s σ H D I h;exact wpAny_Return_some (thn (he pins s σ H _ I h) λ v s1 ⟨x,H1,I1,r1,q1⟩=>⟨x,σ,H1,I1,r1,q1⟩)
def qnU(c:TT)(t u:TS):TS:=λ D σ H=>c σ H λ b H1=>if b=true then t D σ H1 else u D σ H1
theorem qY(hc:PT X c tc)(ha:PSs X a t)(hb:PSs X b u):PS X (.If c a b pos) (qnU tc t u):=by
 intro pins s σ H D I h;refine wpAny_If (thn (hc pins s σ H _ I h) λ d s1 ⟨H1,I1,q1⟩=>?_);cases d with
 |true=>exact ha pins s1 σ H1 D I1 q1
 |false=>exact hb pins s1 σ H1 D I1 q1
def qmW:TS:=λ _ _ _=>False
theorem jg:PS X st qmW:=λ _ _ _ _ _ _ h=>h.elim
end
abbrev TG:=V->St->Hp->(St->Hp->Prop)->Prop
abbrev TGs:=List V->St->Hp->(St->Hp->Prop)->Prop
def PG(X:Cx)(G1:Expr)(t:TG):Prop:=
 ∀(pins:List (Addr×Obj))(s:Shared)(σ:St)(H:Hp)(v:V)(u:Value)(Q:St->Hp->Prop),Inv X pins σ H s->qT v u->t v σ H Q ->
  wpAny (model X.prog X.w) X.A (assign G1 X.env u) (λ _ s'=>∃ σ' H',Inv X pins σ' H' s'/\Q σ' H') X.xe s
def PGs(X:Cx)(ts:List Expr)(t:TGs):Prop:=
 ∀(pins:List (Addr×Obj))(s:Shared)(σ:St)(H:Hp)(vs:List V)(us:List Value)(Q:St->Hp->Prop),Inv X pins σ H s->qL vs us->t vs σ H Q ->
  wpAny (model X.prog X.w) X.A (assignInOrder ((assignEach ts X.env).map (·.2)) us) (λ _ s'=>∃ σ' H',Inv X pins σ' H' s'/\Q σ' H') X.xe s
abbrev qmX:=V->V->V->Hp->(Hp->Prop)->Prop
def qnV(X:Cx)(t:qmX):Prop:=
 ∀(pins:List (Addr×Obj))(s:Shared)(σ:St)(H:Hp)(o i v:V)(ov iv u:Value)(Q:Hp->Prop),Inv X pins σ H s->qT o ov->qT i iv->qT v u->t o i v H Q ->
  wpAny (model X.prog X.w) X.A (setItem ov iv u) (λ _ s'=>∃ H',Inv X pins σ H' s'/\Q H') X.xe s
section
variable {X:Cx}{pos:Pos}
def vG(i:Nat):TG:=λ v σ H Q=>Q (σ.set i (some v)) H
theorem qo(hN:X.N.Nodup)(hi:X.N[i]?=some x)(hx:Loc X.env.scope x)(hf:X.fn x=true∨X.env.scope.names.lookup x=some .local:=by first|exact .inl rfl|exact .inr rfl|assumption):PG X (.Name x pos) (vG i):=by
 intro pins s σ H v u Q I r h;exact wpAny_assign_Name (qfj I hN hi hx r (λ s' I'=>⟨_,H,I',h⟩) hf)
def qlr:TGs:=λ vs σ H Q=>vs=[]/\Q σ H
def qcB(t:TG)(u:TGs):TGs:=λ vs σ H Q=>∃ v r,vs=v::r/\t v σ H λ σ' H'=>u r σ' H' Q
theorem zL:PGs X [] qlr:=by
 intro pins s σ H vs us Q I r h;obtain⟨e,h⟩:=h;subst e;cases r
 exact assignInOrder_nil ⟨σ,H,I,h⟩
theorem qH(h1:PG X e t)(h2:PGs X es u)(hs:(assignEach (e::es) X.env).map (·.2)=assign e X.env::(assignEach es X.env).map (·.2):=by rfl):PGs X (e::es) (qcB t u):=by
 intro pins s σ H vs us Q I r h;obtain⟨v,vr,e1,h⟩:=h;subst e1;cases r with
 |cons r rr =>
  rw[hs];refine assignInOrder_cons (thn (h1 pins s σ H _ _ _ I r h) λ _ s1 ⟨σ1,H1,I1,q1⟩=>?_);exact h2 pins s1 σ1 H1 _ _ Q I1 rr q1
def qls(K:W.Frag)(n:Nat)(t:TGs):TG:=λ v σ H Q=>∃ a xs,v=.ref a/\SqT K H a xs/\xs.length=n/\t xs σ H Q
theorem qcC(hc:X.calm=true)(h:PGs X es t)(hn:(assignEach es X.env).length=n:=by rfl)(M8:(assignEach es X.env).findIdx? (·.1)=none:=by rfl):PG X (.Tuple es k pos) (qls X.K n t):=by
 intro pins s σ H v u Q I r hw;obtain⟨a,xs,e1,hq,hl,hw⟩:=hw;subst e1;cases r
 obtain⟨its,rv,ht,hz⟩:=I.tuple hq;refine assign_Tuple_tuple (I.ok.hd hc) ht (by simp[hn,<- hl,rv.length]) M8 λ h' hx=>?_
 have I1:Inv X pins σ H { s with heap:=h' }:=I.kept (t':=s.toks) λ b o e=>hx b o (Qp (Qo e)) e
 exact h pins _ σ H xs _ Q I1 (by simpa using rv) hw
def qo5(to ti:TE)(t:qmX):TG:=λ v σ H Q=>to σ H λ o H1=>ti σ H1 λ i H2=>t o i v H2 λ H3=>Q σ H3
theorem qew(ho:PE X o to)(hi:PE X i ti)(hs:qnV X t)(ha:∀ v,assign (.Subscript o i pos) X.env v=(do
   let ov <- holding [v] (eval o X.env)
   let iv <- holding [v,ov] (eval i X.env)
   standAt pos
   holding [v,ov,iv] (setItem ov iv v)
   release [v,ov,iv] []):=by intro _;rfl):PG X (.Subscript o i pos) (qo5 to ti t):=by
 intro pins s σ H v u Q I r h;rw[ha];refine Ve (Qk (thn (ho pins s σ H _ I h) λ ov s1 ⟨x,H1,I1,r1,q1⟩=>?_));refine Ve (Qk (thn (hi pins s1 σ H1 _ I1 q1) λ iv s2 ⟨y,H2,I2,r2,q2⟩=>?_));refine Ve (wpAny_standAt (Ve (Qk (thn (hs pins s2 σ H2 x y v ov iv u _ I2 r1 r2 r q2) λ _ s3 ⟨H3,I3,q3⟩=>?_))));exact wpAny_release ⟨σ,H3,I3,q3⟩
def qlt(te:TE)(g:TG):TS:=λ D σ H=>te σ H λ x H1=>g x σ H1 D.nx
theorem qcD(he:PE X e te)(hg:PG X tg g)(hs:swapsWithSole [tg] e pos.line X.env=pure false:=by rfl)(hw:swappedStores [tg] e X.env=pure none:=by rfl)(h1:(assignEach [tg] X.env).map (·.2)=[assign tg X.env]:=by rfl):PS X (.Assign [tg] e pos) (qlt te g):=by
 intro pins s σ H D I h;refine wpAny_Assign_stores (thn (he pins s σ H _ I h) λ v s1 ⟨x,H1,I1,r1,q1⟩=>?_) hs hw;rw[h1];exact thn (hg pins s1 σ H1 x v _ I1 r1 q1) λ _ s2 q=>q
theorem qx(hN:X.N.Nodup)(hi:X.N[i]?=some x)(hx:Loc X.env.scope x)(he:PE X e te)(hs:swapsWith e (some (.Name x C5)) pos.line X.env=pure false:=by rfl)(hf:X.fn x=true∨X.env.scope.names.lookup x=some .local:=by first | exact .inl rfl | exact .inr rfl | assumption):
  PS X (.Assign [.Name x C5] e pos) (qlt te (vG i)):=by
 intro pins s σ H D I h;refine wpAny_Assign_Name (thn (he pins s σ H _ I h) λ v s1 ⟨y,H1,I1,r1,q1⟩=>?_) hs;exact qfj I1 hN hi hx r1 (λ s2 I2=>⟨_,H1,I2,q1⟩) hf
def qmY(c:TT)(tb:TS):TS:=λ D σ H=>∃ W:Nat->St->Hp->Prop,(∃ m,W m σ H)/\∀ m σ H,W m σ H ->
 c σ H λ b H1=>if b=true then ∃ N:St->Hp->Prop,(∀ σ' H',N σ' H'->∃ m',m'<m/\W m' σ' H')/\tb { D with nx:=N,ct:=N,bk:=D.nx } σ H1 else D.nx σ H1
theorem qfl(hp:PassesOwn (model X.prog X.w) X.A X.env X.xe)(hc:PT X c tc)(hb:PSs X body tb):PS X (.While c body [] pos) (qmY tc tb):=by
 intro pins s σ H D I h;obtain⟨W,⟨m0,w0⟩,turn⟩:=h;refine wpAny_While (codeAny_whileLoop (λ n s'=>∃ σ' H',Inv X pins σ' H' s'/\W n σ' H') ?_ m0 ⟨σ,H,I,w0⟩);rintro n s1 ⟨σ1,H1,I1,w1⟩;refine Jj hp (thn (hc pins s1 σ1 H1 _ I1 (turn n σ1 H1 w1)) λ b s2 ⟨H2,I2,q2⟩=>?_);cases b with
 |true =>
  obtain⟨N,hN,q2⟩:=q2;rw[Vy rfl];refine Jj hp (thn (hb pins s2 σ1 H2 _ I2 q2) λ f s3 q3=>?_);cases f with
  |next =>
   obtain⟨σ3,H3,I3,n3⟩:=q3;obtain⟨m',hm,w3⟩:=hN σ3 H3 n3;exact⟨m',hm,σ3,H3,I3,w3⟩
  |cont =>
   obtain⟨σ3,H3,I3,n3⟩:=q3;obtain⟨m',hm,w3⟩:=hN σ3 H3 n3;exact⟨m',hm,σ3,H3,I3,w3⟩
  |brk=>exact q3
  |ret v=>exact q3
 |false =>
  rw[Vz Za];exact Ji ⟨σ1,H2,I2,q2⟩
end
structure It where 
 go:Nat->Hp->Prop
 yld:Nat->Hp->V->Hp->Prop
 stop:Nat->Hp->Prop
def yY(X:Cx)(pins:List (Addr×Obj))(H:Hp)(b:Addr):Prop:=
 H b=none/\b≠X.env.locals/\b∉X.fs/\(b∈X.ex∨X.s₀.heap.objs.size<=b)/\(∀ x c,X.env.cells.lookup x=some c->c≠b)/\∀ p∈X.pn++pins,p.1≠b
theorem Inv.fpOk(I:Inv X pins σ H s)(hb:s.heap.objs.size<=b)(hn:H' b=none):yY X pins H' b:=by
 refine⟨hn,Qs (Y8 I.lt hb),I.nofs hb,.inr (Qq I.sz hb),λ x c e z=>?_,λ p hp z=>?_⟩
 ·obtain⟨v,q⟩:=I.cell x c e;exact absurd (Y8 q.lt (by rw[z];exact hb)) (Qa _)
 ·exact absurd (Y8 (Qo (I.pin p hp).1) (by rw[z];exact hb)) (Qa _)
structure Turn(P:Program)(w:World)(K:W.Frag)(tg:Expr)(J:It)(fp:List Addr)(it:Addr)(tn:Nat->Heap->Prop):Prop where
 mem:it∈fp
 obj:∀ i h,tn i h->∀ b∈fp,∃ o,h.get? b=some o/\∀ v,o.data≠.cell v
 keep:∀ i h h',tn i h->(∀ b∈fp,∀ o,h.get? b=some o->h'.get? b=some o)->tn i h'
 item:∀(X:Cx),X.prog=P->X.w=w->X.K=K->X.calm=true->∀(i:Nat)(pins:List (Addr×Obj))(s:Shared)(σ:St)(H:Hp)(E:Value->Shared->Prop),Inv X pins σ H s->(∀ b∈fp,yY X pins H b)->tn i s.heap->J.go i H ->
  wpAny (model P w) X.A (pyNext (.ref it)) (λ r s1=>∃ u,r=some u /\
   wpAny (model P w) X.A (letOwnedTupleGo tg (.ref it) u) (λ _ s2=>∃ x H',Inv X pins σ H' s2/\qT x u/\J.yld i H x H'/\tn (i+1) s2.heap/\∀ b∈fp,H' b=none) E s1) E s
 done:∀(X:Cx),X.prog=P->X.w=w->X.K=K->X.calm=true->∀(i:Nat)(pins:List (Addr×Obj))(s:Shared)(σ:St)(H:Hp)(E:Value->Shared->Prop),Inv X pins σ H s->(∀ b∈fp,yY X pins H b)->tn i s.heap->J.stop i H ->
  wpAny (model P w) X.A (pyNext (.ref it)) (λ r s1=>r=none/\Inv X pins σ H s1) E s
 self:∀(A:Around)(i:Nat)(s:Shared)(Q:Value->Shared->Prop)(E:Value->Shared->Prop),tn i s.heap->Q (.ref it) s->wpAny (model P w) A (pyIter (.ref it)) Q E s
abbrev TI:=St->Hp->(It->Hp->Prop)->Prop
def PIE(X:Cx)(pins:List (Addr×Obj))(σ:St)(tg:Expr)(R:It->Hp->Prop)(hW:Value)(s2:Shared):Prop:=
 ∃(it:Addr)(fp:List Addr)(tn:Nat->Heap->Prop)(J:It)(H':Hp),hW=.ref it/\Inv X pins σ H' s2/\Turn X.prog X.w X.K tg J fp it tn/\tn 0 s2.heap/\(∀ b∈fp,yY X pins H' b)/\R J H'
def PI(X:Cx)(tg iter:Expr)(wi:TI):Prop:=
 ∀(pins:List (Addr×Obj))(s:Shared)(σ:St)(H:Hp)(R:It->Hp->Prop),Inv X pins σ H s->wi σ H R ->
  wpAny (model X.prog X.w) X.A (eval iter X.env) (λ v s1=>wpAny (model X.prog X.w) X.A (pyIter v) (PIE X pins σ tg R) X.xe s1) X.xe s
theorem qhK(ho:s.heap.get? it=some o)(hc:o.cls=.type n)(hd:o.data=.fields vs)(hn:["enumerate","zip","dict_itemiterator","dict_reverseitemiterator","odict_iterator","itertools.zip_longest","itertools.pairwise"].contains n=false)(hQ:Q () s):wpAny M A (letOwnedTupleGo tg (.ref it) u) Q E s:=by
 unfold letOwnedTupleGo;cases tg <;> first
  |exact Vg hQ
  | (cases u <;> first
    |exact Vg hQ
    | (refine Ve (wpAny_load ho ?_)
       rw[hc,hd];show wpAny M A (if (["enumerate","zip","dict_itemiterator","dict_reverseitemiterator","odict_iterator","itertools.zip_longest","itertools.pairwise"].contains n && vs[0]? == some (rawInt _))=true then _ else _) Q E s
       rw[Vz (by intro h;rw[hn,Jq] at h;cases h)];exact Vg hQ))
noncomputable def Itl(K:W.Frag)(a:Addr):It:=
 ⟨λ i H=>∃ xs x,SqL K H a xs/\xs[i]?=some x,λ i H x H'=>H'=H/\∀ xs,SqL K H a xs->xs[i]?=some x,λ i H=>∃ xs,SqL K H a xs/\xs.length<=i⟩
noncomputable def Itt(K:W.Frag)(a:Addr):It:=
 ⟨λ i H=>∃ xs x,SqT K H a xs/\xs[i]?=some x,λ i H x H'=>H'=H/\∀ xs,SqT K H a xs->xs[i]?=some x,λ i H=>∃ xs,SqT K H a xs/\xs.length<=i⟩
noncomputable def Itr(lo:Int)(n:Nat):It:=⟨λ i _=>i<n,λ i H x H'=>H'=H/\x=.int (lo+i),λ i _=>n<=i⟩
theorem qiv{K:W.Frag}(a it:Addr):Turn P w K tg (Itl K a) [it] it (λ i h=>h.IsListIter it a i) where
 mem:=by simp
 obj:=λ i h st b hb=>by
  have e:b=it:=by simpa using hb
  subst e;obtain⟨o,e,c,d⟩:=st;exact⟨o,e,λ v z=>by rw[d] at z;cases z⟩
 keep:=λ i h h' st k=>st.at λ o e=>k it (by simp) o e
 item:=by
  intro X hP hw hK hc i pins s σ H E I hf st hg;subst hP hw hK;obtain⟨xs,x,hq,hx⟩:=hg;obtain⟨its,rv,p,hz⟩:=I.list hq;obtain⟨u,hu,ru⟩:=rv.get hx;obtain⟨f0,f1,f2,f3,f4,f5⟩:=hf it (by simp);refine wpAny_pyNext_list_item st p.isList (x:=u) (by simpa using hu) λ h' b0 sb=>?_
  have I1:Inv X pins σ H { s with heap:=h' }:=I.turned (t':=s.toks) (λ b o hb e=>(sb.2 b hb).trans e) f0 f1 f3 f4 f5;obtain⟨o,e,c,d⟩:=id b0;exact⟨u,rfl,qhK (s:={ s with heap:=h' }) e c d (by decide) ⟨x,H,I1,ru,⟨rfl,λ ys hy=>by rw[I.list_inj hy hq];exact hx⟩,b0,λ b hb=>(hf b hb).1⟩⟩
 done:=by
  intro X hP hw hK hc i pins s σ H E I hf st hg;subst hP hw hK;obtain⟨xs,hq,hx⟩:=hg;obtain⟨its,rv,p,hz⟩:=I.list hq;obtain⟨f0,f1,f2,f3,f4,f5⟩:=hf it (by simp);have hl:=rv.length;exact wpAny_pyNext_list_end (I.ok.hd hc) st p.isList (by simp;omega) λ h' eb=>⟨rfl,I.turned (t':=s.toks) (λ b o hb e=>eb b o hb e) f0 f1 f3 f4 f5⟩
 self:=λ _ _ _ _ _ st h=>wpAny_pyIter_listiter st h
theorem qgz{K:W.Frag}(a it:Addr):Turn P w K tg (Itt K a) [it] it (λ i h=>h.IsTupleIter it a i) where
 mem:=by simp
 obj:=λ i h st b hb=>by
  have e:b=it:=by simpa using hb
  subst e;obtain⟨o,e,c,d⟩:=st;exact⟨o,e,λ v z=>by rw[d] at z;cases z⟩
 keep:=λ i h h' st k=>st.at λ o e=>k it (by simp) o e
 item:=by
  intro X hP hw hK hc i pins s σ H E I hf st hg;subst hP hw hK;obtain⟨xs,x,hq,hx⟩:=hg;obtain⟨its,rv,p,hz⟩:=I.tuple hq;obtain⟨u,hu,ru⟩:=rv.get hx;obtain⟨f0,f1,f2,f3,f4,f5⟩:=hf it (by simp);refine wpAny_pyNext_tuple_item st (show s.heap.IsTuple a its.toArray from p) (x:=u) (by simpa using hu) λ h' b0 sb=>?_
  have I1:Inv X pins σ H { s with heap:=h' }:=I.turned (t':=s.toks) (λ b o hb e=>(sb.2 b hb).trans e) f0 f1 f3 f4 f5;obtain⟨o,e,c,d⟩:=id b0;exact⟨u,rfl,qhK (s:={ s with heap:=h' }) e c d (by decide) ⟨x,H,I1,ru,⟨rfl,λ ys hy=>by rw[I.tuple_inj hy hq];exact hx⟩,b0,λ b hb=>(hf b hb).1⟩⟩
 done:=by
  intro X hP hw hK hc i pins s σ H E I hf st hg;subst hP hw hK;obtain⟨xs,hq,hx⟩:=hg;obtain⟨its,rv,p,hz⟩:=I.tuple hq;obtain⟨f0,f1,f2,f3,f4,f5⟩:=hf it (by simp);have hl:=rv.length;exact wpAny_pyNext_tuple_end (I.ok.hd hc) st (show s.heap.IsTuple a its.toArray from p) (by simp;omega) λ h' eb=>⟨rfl,I.turned (t':=s.toks) (λ b o hb e=>eb b o hb e) f0 f1 f3 f4 f5⟩
 self:=λ _ _ _ _ _ st h=>wpAny_pyIter_tupleiter st h
theorem qgA{K:W.Frag}(it:Addr)(lo:Int)(n:Nat):Turn P w K tg (Itr lo n) [it] it (λ i h=>IsRangeIter h it (lo+(i:Nat)*1) ((n:Int)-(i:Nat)) 1) where
 mem:=by simp
 obj:=λ i h st b hb=>by
  have e:b=it:=by simpa using hb
  subst e;exact⟨_,st,λ v z=>by
   have z':Data.fields _=Data.cell v:=z;cases z'⟩
 keep:=λ i h h' st k=>k it (by simp) _ st
 item:=by
  intro X hP hw hK hc i pins s σ H E I hf st hg;subst hP hw hK;obtain⟨f0,f1,f2,f3,f4,f5⟩:=hf it (by simp);have W:=Walks.range (prog:=X.prog) (w:=X.w) (I.ok.hd hc) it lo 1 n;refine W.item i s _ _ hg st λ v h' tk hv b0 kk=>?_
  obtain⟨t,rfl⟩:=hv;have I1:Inv X pins σ H { s with heap:=h',toks:=tk }:=I.turned (λ b o hb e=>kk b o (by simpa using hb) e) f0 f1 f3 f4 f5;refine⟨_,rfl,qhK (s:={ s with heap:=h',toks:=tk }) (n:="range_iterator") b0 rfl rfl (by decide) ⟨.int (lo+i),H,I1,⟨t,?_⟩,⟨rfl,rfl⟩,b0,λ b hb=>(hf b hb).1⟩⟩;rw[Int.mul_one]
 done:=by
  intro X hP hw hK hc i pins s σ H E I hf st hg;subst hP hw hK;obtain⟨f0,f1,f2,f3,f4,f5⟩:=hf it (by simp);exact wpAny_pyNext_range_end (I.ok.hd hc) st (by have:n<=i:=hg;omega) λ h' eb=>⟨rfl,I.turned (t':=s.toks) (λ b o hb e=>eb b o hb e) f0 f1 f3 f4 f5⟩
 self:=λ _ _ _ _ _ st h=>wpAny_pyIter_rangeiter st h
section
variable {X:Cx}{tg:Expr}
def qmF(K:W.Frag)(tl:TE):TI:=λ σ H R=>tl σ H λ x H1=>∃ a,x=.ref a/\(∃ xs,SqL K H1 a xs)/\R (Itl K a) H1
def qo6(K:W.Frag)(tl:TE):TI:=λ σ H R=>tl σ H λ x H1=>∃ a,x=.ref a/\(∃ xs,SqT K H1 a xs)/\R (Itt K a) H1
theorem zF(hl:PE X l tl):PI X tg l (qmF X.K tl):=by
 intro pins s σ H R I h;refine thn (hl pins s σ H _ I h) λ v s1 ⟨x,H1,I1,r1,q1⟩=>?_
 obtain⟨a,e,⟨xs,hq⟩,q⟩:=q1;subst e;cases r1
 obtain⟨its,rv,p,hz⟩:=I1.list hq;refine Z2 p.isList ?_;refine⟨s1.heap.objs.size,[s1.heap.objs.size],_,_,H1,rfl,I1.kept (t':=s1.toks) λ b o e=>XB _ e,qiv a _,⟨_,Yt _ rfl,rfl,rfl⟩,λ b hb=>?_,q⟩;have e:b=s1.heap.objs.size:=by simpa using hb
 subst e;exact I1.fpOk (Q5 _) (I1.hok.fresh (Q5 _))
theorem qcE(hl:PE X l tl):PI X tg l (qo6 X.K tl):=by
 intro pins s σ H R I h;refine thn (hl pins s σ H _ I h) λ v s1 ⟨x,H1,I1,r1,q1⟩=>?_
 obtain⟨a,e,⟨xs,hq⟩,q⟩:=q1;subst e;cases r1
 obtain⟨its,rv,p,hz⟩:=I1.tuple hq;refine wpAny_pyIter_tuple (show s1.heap.IsTuple a its.toArray from p) ?_;refine⟨s1.heap.objs.size,[s1.heap.objs.size],_,_,H1,rfl,I1.kept (t':=s1.toks) λ b o e=>XB _ e,qgz a _,⟨_,Yt _ rfl,rfl,rfl⟩,λ b hb=>?_,q⟩;have e:b=s1.heap.objs.size:=by simpa using hb
 subst e;exact I1.fpOk (Q5 _) (I1.hok.fresh (Q5 _))
theorem qjw {lo:Int}(I:Inv X pins σ H s)(h1:-(2^62)<=lo)(h2:lo<2^62)(h3:-(2^62)<=hi)(h4:hi<2^62)(q:R (Itr lo (hi-lo).toNat) H):wpAny (model X.prog X.w) X.A (pyIter (.ref s.heap.objs.size)) (PIE X pins σ tg R) E { s with heap:=s.heap.push { cls:=.type "range",data:=.fields #[.int lo t,.int hi u,.int 1 v] },toks:=tk }:=by
 refine wpAny_pyIter_range (IsRange.new ..) (small_one h1 h2 h3 h4) ?_;have I1:Inv X pins σ H { s with heap:=s.heap.push { cls:=.type "range",data:=.fields #[.int lo t,.int hi u,.int 1 v] },toks:=tk }:=I.kept λ b o e=>XB _ e
 refine⟨(s.heap.push { cls:=.type "range",data:=.fields #[.int lo t,.int hi u,.int 1 v] }).objs.size,[(s.heap.push { cls:=.type "range",data:=.fields #[.int lo t,.int hi u,.int 1 v] }).objs.size],_,_,H,rfl,
  I1.kept (t':=tk) λ b o e=>XB _ e,qgA _ lo (hi-lo).toNat,?_,λ b hb=>?_,q⟩
 ·have e1:lo+((0:Nat):Int)*1=lo:=by simp
  have e2:(((hi-lo).toNat:Nat):Int)-((0:Nat):Int)=Builtin.Range.rangeSize lo hi 1:=by rw[rangeSize_one];split <;> omega
  show IsRangeIter _ _ (lo+((0:Nat):Int)*1) ((((hi-lo).toNat:Nat):Int)-((0:Nat):Int)) 1
  rw[e1,e2];exact Yt _ rfl
 ·have e:b=(s.heap.push { cls:=.type "range",data:=.fields #[.int lo t,.int hi u,.int 1 v] }).objs.size:=by simpa using hb
  subst e;exact I1.fpOk (Q5 _) (I1.hok.fresh (Q5 _))
def qnW(ta:TA):TI:=λ σ H R=>ta σ H λ vs H1=>∃ j:Int,vs=[.int j]/\-(2^62)<=j/\j<2^62/\R (Itr 0 j.toNat) H1
theorem ya(hg:Gl X "range")(hm:X.mg "range"=none)(ha:PA X [a] ta)(hs:starEach [a] X.env=[(false,eval a X.env)]:=by rfl):PI X tg (.Call (.Name "range" p) [a] [] pos) (qnW ta):=by
 intro pins s σ H R I h;refine Call_ (qaA I hg hm boot_range (Xe (thn (ha pos pins s σ H _ I h) λ us s1 ⟨vs,H1,I1,r1,q1⟩=>?_) hs rfl));obtain⟨j,e,q1,q2,q⟩:=q1;subst e;cases r1 with
 |cons r rr =>
  cases rr
  obtain⟨t,rfl⟩:=r;exact call_range_1 (qjw I1 (by omega) (by omega) q1 q2 (by simpa using q))
def qo7(wi:TI)(g:TG)(tb:TS):TS:=λ D σ H=>wi σ H λ J H1=>∃ W:Nat->Nat->St->Hp->Prop,(∃ m,W 0 m σ H1)/\∀ i m σ H,W i m σ H ->
 (J.stop i H/\D.nx σ H)∨(J.go i H/\∃ N:St->Hp->Prop,(∀ σ' H',N σ' H'->∃ m',m'<m/\W (i+1) m' σ' H')/\∀ x H',J.yld i H x H'->g x σ H' λ σ2 H2=>tb { D with nx:=N,ct:=N,bk:=D.nx } σ2 H2)
noncomputable def vH(fp:List Addr)(h:Heap):List (Addr×Obj):=fp.filterMap λ b=>(h.get? b).map λ o=>(b,o)
theorem ym(hb:b∈fp)(e:h.get? b=some o):(b,o)∈vH fp h:=List.mem_filterMap.mpr ⟨b,hb,by rw[e];rfl⟩
theorem qiw(hp:p∈vH fp h):p.1∈fp/\h.get? p.1=some p.2:=by
 obtain⟨b,hb,e⟩:=List.mem_filterMap.mp hp;cases q:h.get? b with
 |none=>rw[q] at e;cases e
 |some o =>
  rw[q] at e;have e':(b,o)=p:=Option.some.inj e;subst e';exact⟨hb,q⟩
theorem Inv.pinned(I:Inv X pins σ H s)(hf:∀ b∈fp,yY X pins H b)(ho:∀ b∈fp,∃ o,s.heap.get? b=some o/\∀ v,o.data≠.cell v):Inv X (pins++vH fp s.heap) σ H s:=
 I.pins_of λ p hp=>(Uy.mp hp).elim (λ z=>I.pin p (XN _ z)) λ z=>by
  obtain⟨hb,e⟩:=qiw z;obtain⟨f0,f1,f2,_⟩:=hf p.1 hb;obtain⟨o,e',d⟩:=ho p.1 hb;rw[e] at e';cases e';exact⟨e,f0,f1,f2,d⟩
theorem Inv.unpinned(I:Inv X (pins++pl) σ H s):Inv X pins σ H s:=I.pins_of λ p hp=>I.pin p (XN _ (Yg _ hp))
theorem yn(hp:PassesOwn (model X.prog X.w) X.A X.env X.xe)(hc:X.calm=true)(hi:PI X tg iter wi)(hg:PG X tg g)(hb:PSs X body tb)(hs:∀ x,foldedSetIterable iter X.env x=pure x:=by intro _;rfl):PS X (.For tg iter body [] pos) (qo7 wi g tb):=by
 intro pins s σ H D I h;refine wpAny_For (thn (hi pins s σ H _ I h) λ v s1 h1=>thn h1 λ hW s2 h2=>?_) hs;obtain⟨it,fp,tn,J,H2,e,I2,T,l0,f2,W,⟨m0,w0⟩,turn⟩:=h2;subst e;have T9:∀{H':Hp},(∀ b∈fp,H' b=none)->∀ b∈fp,yY X pins H' b:=λ hn b hb=>⟨hn b hb,(f2 b hb).2⟩
 refine codeAny_forLoop_any (λ n s'=>∃ i σ' H',Inv X pins σ' H' s'/\tn i s'.heap/\(∀ b∈fp,H' b=none)/\W i n σ' H') ?_ m0 ⟨0,σ,H2,I2,l0,λ b hb=>(f2 b hb).1,w0⟩;rintro n s3 ⟨i,σ3,H3,I3,G5,aT,w3⟩;rcases turn i n σ3 H3 w3 with⟨stop,qn⟩|⟨go,N,hN,step⟩
 ·refine Jj hp (thn (T.done X rfl rfl rfl hc i pins s3 σ3 H3 X.xe I3 (T9 aT) G5 stop) λ r s4 ⟨hr,I4⟩=>?_);subst hr;exact Ji ⟨σ3,H3,I4,qn⟩
 ·refine Jj hp (thn (T.item X rfl rfl rfl hc i pins s3 σ3 H3 X.xe I3 (T9 aT) G5 go) λ r s4 ⟨u,hr,h4⟩=>?_);subst hr;refine Jj hp (thn h4 λ _ s5 ⟨x,H5,I5,r5,y5,V0,oV⟩=>?_);have I5':=I5.pinned (T9 oV) (T.obj _ _ V0);refine Jj hp (thn (hg _ s5 σ3 H5 x u _ I5' r5 (step x H5 y5)) λ _ s6 ⟨σ6,H6,I6,q6⟩=>?_);refine Jj hp (thn (hb _ s6 σ6 H6 _ I6 q6) λ f s7 q7=>?_);have again:∀{σ7:St}{H7:Hp},Inv X (pins++vH fp s5.heap) σ7 H7 s7->N σ7 H7->∃ m,m<n/\∃ i σ' H',Inv X pins σ' H' s7/\tn i s7.heap/\(∀ b∈fp,H' b=none)/\W i m σ' H':=λ{σ7 H7} I7 n7=>by
   obtain⟨m',hm,w7⟩:=hN σ7 H7 n7;refine⟨m',hm,i+1,σ7,H7,I7.unpinned,T.keep _ _ _ V0 λ b hb o e=>(I7.pin (b,o) (XN _ (XN _ (ym hb e)))).1,λ b hb=>?_,w7⟩;obtain⟨o,e,d⟩:=T.obj _ _ V0 b hb;exact(I7.pin (b,o) (XN _ (XN _ (ym hb e)))).2.1
  cases f with
  |next=>obtain⟨σ7,H7,I7,n7⟩:=q7;exact again I7 n7
  |cont=>obtain⟨σ7,H7,I7,n7⟩:=q7;exact again I7 n7
  |brk=>obtain⟨σ7,H7,I7,q7⟩:=q7;exact⟨σ7,H7,I7.unpinned,q7⟩
  |ret v=>obtain⟨x7,σ7,H7,I7,r7,q7⟩:=q7;exact⟨x7,σ7,H7,I7.unpinned,r7,q7⟩
end
theorem vI{K:W.Frag}{g:TG}{tb:TS}{D:Ends}(Pv:Nat->St->Hp->Prop)(h0:Pv 0 σ H)(hl:∀ i σ H,i<=xs.length->Pv i σ H->SqL K H a xs)(hs:∀ i x σ H,xs[i]?=some x->Pv i σ H->g x σ H λ σ2 H2=>tb { D with nx:=Pv (i+1),ct:=Pv (i+1),bk:=D.nx } σ2 H2)(hd:∀ σ H,Pv xs.length σ H->D.nx σ H):
  ∃ W:Nat->Nat->St->Hp->Prop,(∃ m,W 0 m σ H)/\∀ i m σ H,W i m σ H ->
   ((Itl K a).stop i H/\D.nx σ H)∨((Itl K a).go i H/\∃ N:St->Hp->Prop,(∀ σ' H',N σ' H'->∃ m',m'<m/\W (i+1) m' σ' H')/\∀ x H',(Itl K a).yld i H x H'->g x σ H' λ σ2 H2=>tb { D with nx:=N,ct:=N,bk:=D.nx } σ2 H2):=by
 refine⟨λ i m σ H=>m=xs.length-i/\i<=xs.length/\Pv i σ H,⟨xs.length,by simp,Q6 _,h0⟩,?_⟩;rintro i m σ H ⟨rfl,hi,p⟩;have q:=hl i σ H hi p;by_cases i7:i<xs.length
 ·refine .inr ⟨⟨xs,xs[i],q,by simp[i7]⟩,Pv (i+1),λ σ' H' p'=>⟨xs.length-(i+1),by omega,rfl,i7,p'⟩,λ x H' y=>?_⟩;obtain⟨e,y⟩:=y;subst e;exact hs i x σ _ (y xs q) p
 ·have e:i=xs.length:=by omega
  subst e;exact .inl ⟨⟨xs,q,Q5 _⟩,hd σ H p⟩
theorem qhL{K:W.Frag}{g:TG}{tb:TS}{D:Ends}(Pv:Nat->St->Hp->Prop)(h0:Pv 0 σ H)(hl:∀ i σ H,i<=xs.length->Pv i σ H->SqT K H a xs)(hs:∀ i x σ H,xs[i]?=some x->Pv i σ H->g x σ H λ σ2 H2=>tb { D with nx:=Pv (i+1),ct:=Pv (i+1),bk:=D.nx } σ2 H2)(hd:∀ σ H,Pv xs.length σ H->D.nx σ H):
  ∃ W:Nat->Nat->St->Hp->Prop,(∃ m,W 0 m σ H)/\∀ i m σ H,W i m σ H ->
   ((Itt K a).stop i H/\D.nx σ H)∨((Itt K a).go i H/\∃ N:St->Hp->Prop,(∀ σ' H',N σ' H'->∃ m',m'<m/\W (i+1) m' σ' H')/\∀ x H',(Itt K a).yld i H x H'->g x σ H' λ σ2 H2=>tb { D with nx:=N,ct:=N,bk:=D.nx } σ2 H2):=by
 refine⟨λ i m σ H=>m=xs.length-i/\i<=xs.length/\Pv i σ H,⟨xs.length,by simp,Q6 _,h0⟩,?_⟩;rintro i m σ H ⟨rfl,hi,p⟩;have q:=hl i σ H hi p;by_cases i7:i<xs.length
 ·refine .inr ⟨⟨xs,xs[i],q,by simp[i7]⟩,Pv (i+1),λ σ' H' p'=>⟨xs.length-(i+1),by omega,rfl,i7,p'⟩,λ x H' y=>?_⟩;obtain⟨e,y⟩:=y;subst e;exact hs i x σ _ (y xs q) p
 ·have e:i=xs.length:=by omega
  subst e;exact .inl ⟨⟨xs,q,Q5 _⟩,hd σ H p⟩
theorem k5{lo:Int}{g:TG}{tb:TS}{D:Ends}(Pv:Nat->St->Hp->Prop)(h0:Pv 0 σ H)(hs:∀ i σ H,i<n->Pv i σ H->g (.int (lo+i)) σ H λ σ2 H2=>tb { D with nx:=Pv (i+1),ct:=Pv (i+1),bk:=D.nx } σ2 H2)(hd:∀ σ H,Pv n σ H->D.nx σ H):
  ∃ W:Nat->Nat->St->Hp->Prop,(∃ m,W 0 m σ H)/\∀ i m σ H,W i m σ H ->
   ((Itr lo n).stop i H/\D.nx σ H)∨((Itr lo n).go i H/\∃ N:St->Hp->Prop,(∀ σ' H',N σ' H'->∃ m',m'<m/\W (i+1) m' σ' H')/\∀ x H',(Itr lo n).yld i H x H'->g x σ H' λ σ2 H2=>tb { D with nx:=N,ct:=N,bk:=D.nx } σ2 H2):=by
 refine⟨λ i m σ H=>m=n-i/\i<=n/\Pv i σ H,⟨n,by simp,Q6 _,h0⟩,?_⟩;rintro i m σ H ⟨rfl,hi,p⟩;by_cases i7:i<n
 ·refine .inr ⟨i7,Pv (i+1),λ σ' H' p'=>⟨n-(i+1),by omega,rfl,i7,p'⟩,λ x H' y=>?_⟩;obtain⟨e,y⟩:=y;subst e y;exact hs i σ _ i7 p
 ·have e:i=n:=by omega
  subst e;exact .inl ⟨Q5 _,hd σ H p⟩
abbrev R2:=V->V->Hp->VK->Prop
def OpR(X:Cx)(f:Value->Value->Sem Value)(r:R2):Prop:=
 ∀(pins:List (Addr×Obj))(s:Shared)(σ:St)(H:Hp)(x y:V)(v u:Value)(Q:VK),Inv X pins σ H s->qT x v->qT y u->r x y H Q ->
  wpAny (model X.prog X.w) X.A (f v u) (EP X pins σ Q) X.xe s
def UnR(X:Cx)(f:Value->Sem Value)(r:V->Hp->VK->Prop):Prop:=
 ∀(pins:List (Addr×Obj))(s:Shared)(σ:St)(H:Hp)(x:V)(v:Value)(Q:VK),Inv X pins σ H s->qT x v->r x H Q ->
  wpAny (model X.prog X.w) X.A (f v) (EP X pins σ Q) X.xe s
def yG(X:Cx)(f:Value)(r:List V->Hp->VK->Prop):Prop:=
 ∀(pins:List (Addr×Obj))(s:Shared)(σ:St)(H:Hp)(xs:List V)(us:List Value)(Q:VK),Inv X pins σ H s->qL xs us->r xs H Q ->
  wpAny (model X.prog X.w) X.A (call f us) (EP X pins σ Q) X.xe s
def tOp(r:R2)(ta tb:TE):TE:=λ σ H Q=>ta σ H λ x H1=>tb σ H1 λ y H2=>r x y H2 Q
def tUn(r:V->Hp->VK->Prop)(ta:TE):TE:=λ σ H Q=>ta σ H λ x H1=>r x H1 Q
def rI(C:Int->Int->Prop)(g:Int->Int->V):R2:=λ x y H Q=>∃ i j,x=.int i/\y=.int j/\C i j/\Q (g i j) H
def rI0(g:Int->Int->V):R2:=λ x y H Q=>∃ i j,x=.int i/\y=.int j/\Q (g i j) H
def rU(g:Int->V):V->Hp->VK->Prop:=λ x H Q=>∃ i,x=.int i/\Q (g i) H
section
variable {X:Cx}{a b c:Expr}{ta tb tc:TE}{pos:Pos}
theorem qmZ(ha:PE X a ta)(hb:PE X b tb){R:V->V->Hp->Prop}(I:Inv X pins σ H s)(h:ta σ H λ x H1=>tb σ H1 λ y H2=>R x y H2){f:Value->Value->Sem Value}(hf:∀ v u s2 x y H2,Inv X pins σ H2 s2->qT x v->qT y u->R x y H2->wpAny (model X.prog X.w) X.A (f v u) Q X.xe s2):
  wpAny (model X.prog X.w) X.A (eval a X.env) (λ v s₁=>wpAny (model X.prog X.w) X.A (eval b X.env) (λ u s₂=>wpAny (model X.prog X.w) X.A (f v u) Q X.xe s₂) X.xe s₁) X.xe s:=by
 refine thn (ha pins s σ H _ I h) λ v s1 ⟨x,H1,I1,r1,q1⟩=>?_
 refine thn (hb pins s1 σ H1 _ I1 q1) λ u s2 ⟨y,H2,I2,r2,q2⟩=>?_
 exact hf v u s2 x y H2 I2 r1 r2 q2
theorem qr(ho:OpR X (binaryOp op) r)(ha:PE X a ta)(hb:PE X b tb):PE X (.BinOp a op b pos) (tOp r ta tb):=by
 intro pins s σ H Q I h;exact wpAny_BinOp (qmZ ha hb I h λ v u s2 x y H2 I2 rx ry q=>ho pins s2 σ H2 x y v u Q I2 rx ry q)
theorem qa5(ho:UnR X (unaryOp op) r)(ha:PE X a ta):PE X (.UnaryOp op a pos) (tUn r ta):=by
 intro pins s σ H Q I h;exact UnaryOp_ (thn (ha pins s σ H _ I h) λ v s1 ⟨x,H1,I1,r1,q1⟩=>ho pins s1 σ H1 x v Q I1 r1 q1)
theorem opI{g:Int->Int->Int}(rule:∀(i j:Int)(t u:Tok)(s:Shared)(Q:Value->Shared->Prop)(E:Value->Shared->Prop),C i j->Q (.int (g i j) s.toks) { s with toks:=s.toks+1 }->wpAny (model X.prog X.w) X.A (f (.int i t) (.int j u)) Q E s):
  OpR X f (rI C λ i j=>.int (g i j)):=by
 intro pins s σ H x y v u Q I rx ry h;obtain⟨i,j,rfl,rfl,hc,q⟩:=h;obtain⟨t,rfl⟩:=rx;obtain⟨t',rfl⟩:=ry;exact rule i j t t' s _ _ hc ⟨.int (g i j),H,I.tok _,⟨_,rfl⟩,q⟩
theorem qnX{g:Int->Int->Int}(rule:∀(i j:Int)(t u:Tok)(s:Shared)(Q:Value->Shared->Prop)(E:Value->Shared->Prop),Q (.int (g i j) s.toks) { s with toks:=s.toks+1 }->wpAny (model X.prog X.w) X.A (f (.int i t) (.int j u)) Q E s):
  OpR X f (rI0 λ i j=>.int (g i j)):=by
 intro pins s σ H x y v u Q I rx ry h;obtain⟨i,j,rfl,rfl,q⟩:=h;obtain⟨t,rfl⟩:=rx;obtain⟨t',rfl⟩:=ry;exact rule i j t t' s _ _ ⟨.int (g i j),H,I.tok _,⟨_,rfl⟩,q⟩
theorem qnY{g:Int->Int->Bool}(rule:∀(i j:Int)(t u:Tok)(s:Shared)(Q:Value->Shared->Prop)(E:Value->Shared->Prop),Q (.bool (g i j)) s->wpAny (model X.prog X.w) X.A (f (.int i t) (.int j u)) Q E s):
  OpR X f (rI0 λ i j=>.bl (g i j)):=by
 intro pins s σ H x y v u Q I rx ry h;obtain⟨i,j,rfl,rfl,q⟩:=h;obtain⟨t,rfl⟩:=rx;obtain⟨t',rfl⟩:=ry;exact rule i j t t' s _ _ ⟨.bl (g i j),H,I,rfl,q⟩
def qnZ(i j:Int):Prop:=0<j/\j<1073741824
def qm0(i j:Int):Prop:=(-(2^64)<i/\i<2^64)∨(-(2^64)<j/\j<2^64)
theorem qm0.ok(h:qm0 i j):IntMulOk i j:=by
 rcases h with⟨h1,h2⟩|⟨h1,h2⟩
 ·exact .of_left (intBits_le_64 h1 h2)
 ·exact .of_right (intBits_le_64 h1 h2)
theorem qgB(k:Nat):(0:Int)<=2^k:=by
 rw[two_pow_cast];exact Int.natCast_nonneg _
theorem ye:OpR X (binaryOp .Add) (rI0 λ i j=>.int (i+j)):=qnX λ _ _ _ _ _ _ _ q=>add_int q
theorem qex:OpR X (binaryOp .Sub) (rI0 λ i j=>.int (i-j)):=qnX λ _ _ _ _ _ _ _ q=>sub_int q
theorem qbM:OpR X (binaryOp .Mult) (rI qm0 λ i j=>.int (i*j)):=opI λ _ _ _ _ _ _ _ hc q=>mul_int q hc.ok
theorem yZ:OpR X (binaryOp .FloorDiv) (rI qnZ λ i j=>.int (i / j)):=opI λ i j _ _ _ _ _ hc q=>by
 have h1:(0:Int)<j:=hc.1;have h2:j<1073741824:=hc.2;exact floordiv_int (by omega) (by rw[Int.fdiv_eq_ediv_of_nonneg i (by omega)];exact q) (.inl (PyProof.noPylong_small (by omega)))
theorem zx:OpR X (binaryOp .Mod) (rI (λ _ j=>0<j) λ i j=>.int (i % j)):=opI λ i j _ _ _ _ _ hc q=>by
 have h1:(0:Int)<j:=hc;exact mod_int' (by omega) (by rw[Int.fmod_eq_emod_of_nonneg i (by omega)];exact q)
theorem qm1:OpR X (binaryOp .RShift) (rI (λ _ j=>0<=j) λ i j=>.int (i / 2^j.toNat)):=opI λ i j _ _ _ _ _ hc q =>
 rshift_int hc (by rw[Int.fdiv_eq_ediv_of_nonneg i (qgB _)];exact q)
theorem unI{g:Int->Int}(rule:∀(i:Int)(t:Tok)(s:Shared)(Q:Value->Shared->Prop)(E:Value->Shared->Prop),Q (.int (g i) s.toks) { s with toks:=s.toks+1 }->wpAny (model X.prog X.w) X.A (f (.int i t)) Q E s):
  UnR X f (rU λ i=>.int (g i)):=by
 intro pins s σ H x v Q I rx h;obtain⟨i,rfl,q⟩:=h;obtain⟨t,rfl⟩:=rx;exact rule i t s _ _ ⟨.int (g i),H,I.tok _,⟨_,rfl⟩,q⟩
theorem jU:UnR X (unaryOp .USub) (rU λ i=>.int (-i)):=unI λ _ _ _ _ _ q=>neg_int q
end
noncomputable def qn0:V->V->Bool
 |.non,.non=>true|.non,.int _=>true|.int _,.non=>true|.non,.bl _=>true|.bl _,.non=>true|.non,.str _=>true|.str _,.non=>true
 |.int _,.int _=>true|.bl _,.bl _=>true|.str _,.str _=>true|.byt _,.byt _=>true
 |.int _,.str _=>true|.str _,.int _=>true|.bl _,.str _=>true|.str _,.bl _=>true
 |_,_=>false
def rEq:R2:=λ x y H Q=>qn0 x y=true/\Q (.bl (decide (x=y))) H
def rNe:R2:=λ x y H Q=>qn0 x y=true/\Q (.bl (!decide (x=y))) H
theorem qhM:decide (V.int i=V.int j)=(i == j):=by
 rw[Uz];simp
theorem qjx:decide (V.bl i=V.bl j)=(i == j):=by
 rw[Uz];simp
theorem qhN:decide (V.str i=V.str j)=(i == j):=by
 rw[Uz];simp
theorem qhO:decide (V.byt i=V.byt j)=(i.toList == j.toList):=by
 rw[Uz];cases i
 cases j
 simp
section
variable {X:Cx}{a b c:Expr}{ta tb tc:TE}{pos:Pos}
theorem qW(I:Inv X pins σ H s)(q:Q (.bl k) H)(e:k=k'):EP X pins σ Q (.bool k') s:=by
 subst e;exact⟨.bl k,H,I,rfl,q⟩
theorem zq:OpR X (compareOp .Eq) rEq:=by
 intro pins s σ H x y v u Q I rx ry h;obtain⟨hs,q⟩:=h;cases x with
 |non =>
  cases rx
  cases y with
  |non=>cases ry;exact PySem.EqNone.eq_none_none (qW I q (by simp))
  |bl j=>cases ry;exact PySem.EqNone.eq_none_bool (qW I q (by simp))
  |int j=>obtain⟨t',rfl⟩:=ry;exact PySem.EqNone.eq_none_int (qW I q (by simp))
  |str j=>obtain⟨t',rfl⟩:=ry;exact PySem.EqNone.eq_none_str (qW I q (by simp))
  |_=>exact absurd (show false=true from hs) Za
 |bl i =>
  cases rx
  cases y with
  |non=>cases ry;exact PySem.EqNone.eq_bool_none (qW I q (by simp))
  |bl j=>cases ry;exact eq_bool (qW I q qjx)
  |str j=>obtain⟨t',rfl⟩:=ry;exact PySem.EqMixed.eq_bool_str (qW I q (by simp))
  |_=>exact absurd (show false=true from hs) Za
 |int i =>
  obtain⟨t,rfl⟩:=rx;cases y with
  |non=>cases ry;exact PySem.EqNone.eq_int_none (qW I q (by simp))
  |int j=>obtain⟨t',rfl⟩:=ry;exact eq_int (qW I q qhM)
  |str j=>obtain⟨t',rfl⟩:=ry;exact PySem.EqMixed.eq_int_str (qW I q (by simp))
  |_=>exact absurd (show false=true from hs) Za
 |str i =>
  obtain⟨t,rfl⟩:=rx;cases y with
  |non=>cases ry;exact PySem.EqNone.eq_str_none (qW I q (by simp))
  |bl j=>cases ry;exact PySem.EqMixed.eq_str_bool (qW I q (by simp))
  |int j=>obtain⟨t',rfl⟩:=ry;exact PySem.EqMixed.eq_str_int (qW I q (by simp))
  |str j=>obtain⟨t',rfl⟩:=ry;exact eq_str (qW I q qhN)
  |_=>exact absurd (show false=true from hs) Za
 |byt i =>
  obtain⟨t,rfl⟩:=rx;cases y with
  |byt j=>obtain⟨t',rfl⟩:=ry;exact W.eq_bytes (qW I q qhO)
  |_=>exact absurd (show false=true from hs) Za
 |_=>cases y <;> exact absurd (show false=true from hs) Za
theorem qfm:OpR X (compareOp .NotEq) rNe:=by
 intro pins s σ H x y v u Q I rx ry h;obtain⟨hs,q⟩:=h;cases x with
 |non =>
  cases rx
  cases y with
  |non=>cases ry;exact PySem.EqNone.ne_none_none (qW I q (by simp))
  |bl j=>cases ry;exact PySem.EqNone.ne_none_bool (qW I q (by simp))
  |int j=>obtain⟨t',rfl⟩:=ry;exact PySem.EqNone.ne_none_int (qW I q (by simp))
  |str j=>obtain⟨t',rfl⟩:=ry;exact PySem.EqNone.ne_none_str (qW I q (by simp))
  |_=>exact absurd (show false=true from hs) Za
 |bl i =>
  cases rx
  cases y with
  |non=>cases ry;exact PySem.EqNone.ne_bool_none (qW I q (by simp))
  |bl j=>cases ry;exact ne_bool (qW I q (congrArg not qjx))
  |str j=>obtain⟨t',rfl⟩:=ry;exact PySem.EqMixed.ne_bool_str (qW I q (by simp))
  |_=>exact absurd (show false=true from hs) Za
 |int i =>
  obtain⟨t,rfl⟩:=rx;cases y with
  |non=>cases ry;exact PySem.EqNone.ne_int_none (qW I q (by simp))
  |int j=>obtain⟨t',rfl⟩:=ry;exact ne_int (qW I q (congrArg not qhM))
  |str j=>obtain⟨t',rfl⟩:=ry;exact PySem.EqMixed.ne_int_str (qW I q (by simp))
  |_=>exact absurd (show false=true from hs) Za
 |str i =>
  obtain⟨t,rfl⟩:=rx;cases y with
  |non=>cases ry;exact PySem.EqNone.ne_str_none (qW I q (by simp))
  |bl j=>cases ry;exact PySem.EqMixed.ne_str_bool (qW I q (by simp))
  |int j=>obtain⟨t',rfl⟩:=ry;exact PySem.EqMixed.ne_str_int (qW I q (by simp))
  |str j=>obtain⟨t',rfl⟩:=ry;exact ne_str (qW I q (congrArg not qhN))
  |_=>exact absurd (show false=true from hs) Za
 |byt i =>
  obtain⟨t,rfl⟩:=rx;cases y with
  |byt j=>obtain⟨t',rfl⟩:=ry;exact W.ne_bytes (qW I q (congrArg not qhO))
  |_=>exact absurd (show false=true from hs) Za
 |_=>cases y <;> exact absurd (show false=true from hs) Za
theorem qn1:OpR X (compareOp .Lt) (rI0 λ i j=>.bl (decide (i<j))):=qnY λ _ _ _ _ _ _ _ q=>lt_int q
theorem qat:OpR X (compareOp .Gt) (rI0 λ i j=>.bl (decide (j<i))):=qnY λ _ _ _ _ _ _ _ q=>gt_int q
theorem qix:OpR X (compareOp .In) (λ x y H Q=>∃ i j,x=.str i/\y=.str j/\Q (.bl (!(Builtin.Str.occurrences j i 0 j.length 1).isEmpty)) H):=by
 intro pins s σ H x y v u Q I rx ry h;obtain⟨i,j,rfl,rfl,q⟩:=h;obtain⟨t,rfl⟩:=rx;obtain⟨t',rfl⟩:=ry;exact in_str (qW I q rfl)
theorem qgC:OpR X (compareOp .Is) (λ x y H Q=>y=.non/\Q (.bl (decide (x=.non))) H):=by
 intro pins s σ H x y v u Q I rx ry h;obtain⟨rfl,q⟩:=h;cases ry
 refine is_none_gen (qW I q ?_);cases x <;> first
  |(cases rx;rfl)
  |(obtain⟨t,rfl⟩:=rx;rfl)
theorem qB(b:Expr)(h:op≠.In:=by decide)(h2:op≠.NotIn:=by decide):behindInMarks op b=false:=by
 have e1:(op == CmpOp.In)=false:=by cases op <;> first|rfl|exact absurd rfl h
 have e2:(op == CmpOp.NotIn)=false:=by cases op <;> first|rfl|exact absurd rfl h2
 cases b <;> simp[behindInMarks,e1,e2]
theorem yf(ho:OpR X (compareOp op) r)(ha:PE X a ta)(hb:PE X b tb)(hm:behindInMarks op b=false):PE X (.Compare a [op] [b] pos) (tOp r ta tb):=by
 intro pins s σ H Q I h;exact wpAny_Compare1 (qmZ ha hb I h λ v u s2 x y H2 I2 rx ry q=>ho pins s2 σ H2 x y v u Q I2 rx ry q) hm
def qjy(t:TE):TT:=λ σ H Q=>t σ H λ x H'=>∃ k,x=.bl k/\Q k H'
theorem qt(ho:OpR X (compareOp op) r)(ha:PE X a ta)(hb:PE X b tb)(hm:behindInMarks op b=false):PT X (.Compare a [op] [b] pos) (qjy (tOp r ta tb)):=by
 intro pins s σ H Q I h;refine wpAny_isTrue_Compare1 (thn (ha pins s σ H _ I h) λ v s1 ⟨x,H1,I1,r1,q1⟩=>thn (hb pins s1 σ H1 _ I1 q1) λ u s2 ⟨y,H2,I2,r2,q2⟩ =>
  thn (ho pins s2 σ H2 x y v u _ I2 r1 r2 q2) λ c s3 ⟨z,H3,I3,r3,k,e,q3⟩=>?_) hm
 subst e;cases r3
 exact Z1 ⟨H3,I3,q3⟩
theorem vJ:(sizeLine:Nat)<2^63:=by rw[Q9];decide
theorem qcF:OpR X (binaryOp .Add) (λ x y H Q=>∃ i j,x=.str i/\y=.str j/\i.length+j.length<=sizeLine/\Q (.str (i++j)) H):=by
 intro pins s σ H x y v u Q I rx ry h;obtain⟨i,j,rfl,rfl,hz,q⟩:=h;obtain⟨t,rfl⟩:=rx;obtain⟨t',rfl⟩:=ry;exact add_str (λ t' tk=>⟨.str (i++j),H,I.tok _,⟨_,rfl⟩,q⟩) hz
theorem zT(r:qL [x] us):∃ u,us=[u]/\qT x u:=by
 cases r with
 |cons r1 r2=>cases r2;exact⟨_,rfl,r1⟩
theorem qfn(r:qL [x,y] us):∃ u w',us=[u,w']/\qT x u/\qT y w':=by
 cases r with
 |cons r1 r2 =>
  cases r2 with
  |cons r3 r4=>cases r4;exact⟨_,_,rfl,r1,r3⟩
theorem qiy(hc:X.calm=true):yG X (.builtin "min") (λ xs H Q=>∃ i j,xs=[.int i,.int j]/\Q (.int (if j<i then j else i)) H):=by
 intro pins s σ H xs us Q I r h;obtain⟨i,j,rfl,q⟩:=h;obtain⟨u,w',rfl,⟨t,rfl⟩,⟨t',rfl⟩⟩:=qfn r;refine min_two_ints (I.ok.hd hc) λ h' tk k=>⟨_,H,I.kept k,?_,q⟩
 by_cases hj:j<i
 ·rw[Vy hj,Vy hj];exact⟨_,rfl⟩
 ·rw[Vz hj,Vz hj];exact⟨_,rfl⟩
theorem qiz:yG X (.type "int") (λ xs H Q=>(∃ i,xs=[.int i]/\Q (.int i) H)∨∃ k,xs=[.bl k]/\Q (.int (if k then 1 else 0)) H):=by
 intro pins s σ H xs us Q I r h;rcases h with⟨i,rfl,q⟩|⟨k,rfl,q⟩
 ·obtain⟨u,rfl,t,rfl⟩:=zT r;exact call_int_int ⟨.int i,H,I,⟨_,rfl⟩,q⟩
 ·obtain⟨u,rfl,r1⟩:=zT r;cases r1
  exact call_int_bool ⟨.int (if k then 1 else 0),H,I.tok _,⟨_,rfl⟩,q⟩
end
structure ObjM(h:Heap)(x dx C:Addr)(mA:Str->Option Value):Prop where
 obj:h.get? x=some (W.instObj C dx)
 ns:h.Ns1 dx mA
 ne:dx≠x
theorem qiA{h:Heap}(n:h.Ns1 dx mA):∃ od,h.get? dx=some od/\∀ name,W.lookIn name od=some (mA name):=by
 obtain⟨o,es,ep,ho,hd,hk,_,hm⟩:=n;refine⟨o,ho,λ name=>?_⟩;have e:=hm name;unfold nsFind findBy at e;rw[<- Array.find?_toList] at e;unfold W.lookIn;rw[hd];dsimp only;split
 ·rename_i y q;rw[q] at e;exact congrArg some e
 ·rename_i q;rw[q] at e;have a:es.toList.any (·.refKey)=false:=by
   rw[List.any_eq_false];intro y hy;obtain⟨z,t,G9⟩:=hk y (Array.mem_toList_iff.mp hy);simp[DictEntry.refKey,G9]
  have a':¬ es.toList.any (·.refKey)=true:=by rw[a];exact Za
  rw[Vz a'];exact congrArg some e
theorem ObjM.look(I:ObjM h x dx C mA):∃ od,PySem.W.InstAt h x (W.instObj C dx) C (some od)/\∀ name,W.lookIn name od=some (mA name):=
 let ⟨od,ho,hl⟩:=qiA I.ns
 ⟨od,⟨I.obj,rfl,rfl,ho⟩,hl⟩
section
variable {prog:Program}{w:World}{A:Around}{E:Value->Shared->Prop}{s:Shared}{K:W.Frag}{x dx C f:Addr}{mA:Str->Option Value}{name:Str}{v:Value}
theorem qlu(X:K.In s.heap)(I:ObjM s.heap x dx C mA)(hg:W.plainGet K C name=true)(hh:W.hasDictIn K C=true)(ha:W.findIn K (.ref C) name=some none)(hv:mA name=some v)(bK:W.handedIn v=true)(h:Q v { s with toks:=s.toks+1 }):
  wpAny (model prog w) A (getAttr (.ref x) name expr) Q E s:=by
 obtain⟨od,J,hl⟩:=I.look;exact W.get_value X J (W.plainGet_of hg).1 (W.findObj_own hh ha rfl (by rw[hl,hv])) bK h
theorem qjz(X:K.In s.heap)(I:ObjM s.heap x dx C mA)(hg:W.plainGet K C name=true)(hf:W.findIn K (.ref C) name=some (some (.ref f)))(ht:W.isFn K (.ref f)=true)(hv:mA name=none)(h:Q (.ref f,[.ref x]) s):
  wpAny (model prog w) A (getMethod (.ref x) name pl) Q E s:=by
 obtain⟨od,J,hl⟩:=I.look;exact W.method_fn X J (W.plainGet_of hg).1 (W.plainGet_of hg).2 hf (Vh.mp ht) (by show(W.lookIn name od).map (·.isSome)=some false;rw[hl,hv];rfl) h
theorem qlv(X:K.In s.heap)(I:ObjM s.heap x dx C mA)(hs:W.findIn K (.ref C) "__setattr__"=some (some (.builtin "object.__setattr__")))(hp:W.plainOver K C=true)(ht:W.takerIn K C name=some none)(hh:W.hasDictIn K C=true)(hw:PySem.Within mA ns)(hsz:ns.length<=sizeLine)(h:∀ h',ObjM h' x dx C (λ y=>if y=name then some v else mA y)->Heap.SameBut dx s.heap h'->Q () { s with heap:=h',toks:=s.toks+2 }):
  wpAny (model prog w) A (setAttr (.ref x) name v) Q E s:=by
 obtain⟨od,J,hl⟩:=I.look;refine W.set_plain X J hs (W.osa_open (s:={ s with toks:=s.toks+1 }) (r:=none) X J hp ht λ b=>?_);obtain⟨cd,hc,fX⟩:=W.any_some hh;have hx:s.heap.get? x=some ⟨.ref C,some dx,.plain,#[]⟩:=I.obj;refine Ve (Vg (Ve (Ve (wpAny_loadPart hx (Ve (PySem.W.Looks.here (s:={ s with toks:=s.toks+1 }) (W.looks_clsIn X hc) ?_))))));rw[fX];refine Vg (a:=some dx) (Ve (Vg (Ve ?_)));refine wpAny_nsSet1 (s:={ s with toks:=s.toks+1 }) I.ns λ h' dI o6=>?_
 obtain⟨oD,esD,epD,hoD,hdD,hcD⟩:=dI.count (PySem.Within.cons name v hw);refine Ve (wpAny_lookBehind hoD (by rw[hdD];exact pastItsLine_dict (Qq hcD (by rw[Uc];omega))) ?_);exact Vg (h _ ⟨(o6.2 _ (Vr I.ne)).trans I.obj,dI,I.ne⟩ o6)
theorem qjA(X:K.In s.heap)(hm:W.makesIn K C=true)(hi:W.findIn K (.ref C) "__init__"=some (some (.ref f)))(hf:W.typeIn K (.ref f)=some (.type "function"))(h:codeAny (model prog w) (A.under (.builtin "type.__call__" ⟨.ref C::vs,kw⟩)) (.call (.ref f) ⟨.ref (s.heap.objs.size+1)::vs,kw⟩) (PySem.W.InitBack (s.heap.objs.size+1) R)
   { s with heap:=(s.heap.push W.emptyDict).push (W.instObj C s.heap.objs.size) }):
  codeAny (model prog w) A (.call (.ref C) ⟨vs,kw⟩) R s:=by
 obtain⟨hh,g,d,t,os⟩:=s;exact W.make_core (W.makes_of X hm) (W.looks_findIn X hi) (λ self=>W.bind_fn X self hf) (.inl rfl) h
theorem qiB(X:K.In s.heap)(hm:W.makesIn K C=true)(hi:W.findIn K (.ref C) "__init__"=some (some (.builtin "object.__init__")))(hb:∀ self,PySem.W.Looks (model prog w) s.heap (bindSpecial (.builtin "object.__init__") self) (.builtin "object.__init__",[self]))(h:codeAny (model prog w) (A.under (.builtin "type.__call__" ⟨[.ref C],[]⟩)) (.call (.builtin "object.__init__") ⟨[.ref (s.heap.objs.size+1)],[]⟩) (PySem.W.InitBack (s.heap.objs.size+1) R)
   { s with heap:=(s.heap.push W.emptyDict).push (W.instObj C s.heap.objs.size) }):
  codeAny (model prog w) A (.call (.ref C) ⟨[],[]⟩) R s:=by
 obtain⟨hh,g,d,t,os⟩:=s;exact W.make_core (W.makes_of X hm) (W.looks_findIn X hi) hb (.inr ⟨rfl,rfl⟩) h
end
noncomputable def qaq(f:Str)(v:V):List (Str×V)->List (Str×V)
 | []=>[(f,v)]
 |(g,x)::r=>if g=f then(g,v)::r else(g,x)::qaq f v r
theorem qb6(f g:Str)(v:V):∀ fs:List (Str×V),(qaq f v fs).lookup g=if g=f then some v else fs.lookup g
 | []=>by
  show List.lookup g [(f,v)]=_
  by_cases h:g=f
  ·have hb:(g == f)=true:=Vh.mpr h;simp only[List.lookup,hb,Vy h]
  ·have hb:(g == f)=false:=Y6.mpr h;simp only[List.lookup,hb,Vz h]
 |(k,x)::r=>by
  have ih:=qb6 f g v r;rw[show qaq f v ((k,x)::r)=(if k=f then(k,v)::r else(k,x)::qaq f v r) from rfl];by_cases hk:k=f
  ·rw[Vy hk];by_cases h:g=k
   ·have hb:(g == k)=true:=Vh.mpr h;simp only[List.lookup,hb,Vy (h.trans hk)]
   ·have hb:(g == k)=false:=Y6.mpr h;simp only[List.lookup,hb,Vz (λ e:g=f=>h (e.trans hk.symm))]
  ·rw[Vz hk];by_cases h:g=k
   ·have hb:(g == k)=true:=Vh.mpr h;simp only[List.lookup,hb,Vz (λ e:g=f=>hk (h.symm.trans e))]
   ·have hb:(g == k)=false:=Y6.mpr h;simp only[List.lookup,hb];exact ih
theorem qbN(f:Str)(v:V):∀ fs:List (Str×V),f∈(qaq f v fs).map (·.1)/\∀ g,g∈fs.map (·.1)->g∈(qaq f v fs).map (·.1)
 | []=>⟨by simp[qaq],λ g h=>by simp at h⟩
 |(k,x)::r=>by
  obtain⟨i1,i2⟩:=qbN f v r;rw[show qaq f v ((k,x)::r)=(if k=f then(k,v)::r else(k,x)::qaq f v r) from rfl];by_cases hk:k=f
  ·rw[Vy hk];subst hk;exact⟨by simp,λ g h=>by simpa using h⟩
  ·rw[Vz hk];refine⟨?_,λ g h=>?_⟩
   ·rw[Qc];exact Yf _ i1
   ·rw[Qc] at h ⊢;rcases Qb.mp h with e | e
    ·exact Qb.mpr (.inl e)
    ·exact Yf _ (i2 g e)
theorem qb7(f:Str)(v:V):∀ fs:List (Str×V),(qaq f v fs).length<=fs.length+1
 | []=>by simp[qaq]
 |(k,x)::r=>by
  have ih:=qb7 f v r;rw[show qaq f v ((k,x)::r)=(if k=f then(k,v)::r else(k,x)::qaq f v r) from rfl];by_cases hk:k=f
  ·rw[Vy hk,Uc,Uc];omega
  ·rw[Vz hk,Uc,Uc];omega
theorem qap.some_of(r:qap (some v) o):∃ u,o=some u/\qT v u:=by
 cases o with
 |none=>exact(show False from r).elim
 |some u=>exact⟨u,rfl,r⟩
theorem qap.none_of(r:qap none o):o=none:=by
 cases o with
 |none=>rfl
 |some u=>exact(show False from r).elim
theorem qiC(r:qT v u):W.handedIn u=true:=by
 cases v with
 |non=>cases(show u=Value.none from r);rfl
 |bl b=>cases(show u=Value.bool b from r);rfl
 |int i=>obtain⟨t,e⟩:=(show ∃ t,u=Value.int i t from r);cases e;rfl
 |str x=>obtain⟨t,e⟩:=(show ∃ t,u=Value.str x t from r);cases e;rfl
 |byt b=>obtain⟨t,e⟩:=(show ∃ t,u=Value.bytes b t from r);cases e;rfl
 |flt b=>obtain⟨t,e⟩:=(show ∃ t,u=Value.float b t from r);cases e;rfl
 |ref a=>cases(show u=Value.ref a from r);rfl
 |ty n=>cases(show u=Value.type n from r);rfl
section
variable {P:Program}{w:World}{H H':Hp}{h h':Heap}{a C dx:Addr}{fs aS:List (Str×V)}
theorem qcl(hok:HOk P w H h)(e:H a=some (.ins C dx fs)):∃ mA,ObjM h a dx C mA/\(∀ f,qap (fs.lookup f) (mA f))/\PySem.Within mA (fs.map (·.1))/\fs.length<=1000/\H dx=some (.own a):=by
 obtain⟨d,z,ne,ob,mA,n,r,q⟩:=(show zp P w H h a (.ins C dx fs) from hok a _ e);exact⟨mA,⟨ob,n,ne⟩,r,q,z,d⟩
end
structure Cls(K:W.Frag)(C:Addr):Prop where
 pg:W.plainGet K C Str.empty=true
 hd:W.hasDictIn K C=true
 po:W.plainOver K C=true
 sa:W.findIn K (.ref C) "__setattr__"=some (some (.builtin "object.__setattr__"))
theorem Cls.get{K:W.Frag}(c:Cls K C)(f:Str):W.plainGet K C f=true:=c.pg
def NoAttr(K:W.Frag)(C:Addr)(f:Str):Prop:=W.findIn K (.ref C) f=some none
theorem NoAttr.taker{K:W.Frag}(n:NoAttr K C f):W.takerIn K C f=some none:=by
 unfold W.takerIn;rw[show W.findIn K (.ref C) f=some none from n];rfl
structure Meth(K:W.Frag)(C:Addr)(m:Str)(f:Addr):Prop where
 at_:W.findIn K (.ref C) m=some (some (.ref f))
 fn:W.isFn K (.ref f)=true
 kp:W.keepIn K (.ref f)=true
section
variable {X:Cx}{pins:List (Addr×Obj)}{σ:St}{H:Hp}{s:Shared}{a C dx:Addr}{fs:List (Str×V)}{f:Str}{v:V}{A:Around}{E:Value->Shared->Prop}
theorem qgD(I:Inv X pins σ H s)(e:H a=some (.ins C dx fs))(c:Cls X.K C)(n:NoAttr X.K C f)(l:fs.lookup f=some v)(h:∀ u s',Inv X pins σ H s'->qT v u->Q u s'):wpAny (model X.prog X.w) A (getAttr (.ref a) f b) Q E s:=by
 obtain⟨mA,O,r,_,_,_⟩:=qcl I.hok e;obtain⟨u,hu,ru⟩:=qap.some_of (v:=v) (o:=mA f) (by rw[<- l];exact r f);exact qlu I.kIn O (c.get f) c.hd n hu (qiC ru) (h u _ (I.tok _) ru)
theorem qcG(I:Inv X pins σ H s)(e:H a=some (.ins C dx fs))(c:Cls X.K C)(k:Meth X.K C m g)(l:fs.lookup m=none)(h:Q (.ref g,[.ref a]) s):wpAny (model X.prog X.w) A (getMethod (.ref a) m pl) Q E s:=by
 obtain⟨mA,O,r,_,_,_⟩:=qcl I.hok e;have hn:mA m=none:=qap.none_of (by rw[<- l];exact r m);exact qjz I.kIn O (c.get m) k.at_ k.fn hn h
theorem qgE(I:Inv X pins σ H s)(e:H a=some (.ins C dx fs))(c:Cls X.K C)(n:NoAttr X.K C f)(hl:fs.length<1000)(ry:qT y u)(h:∀ s',Inv X pins σ (upd H a (.ins C dx (qaq f y fs))) s'->Q () s'):wpAny (model X.prog X.w) A (setAttr (.ref a) f u) Q E s:=by
 obtain⟨mA,O,r,wi,_,ho⟩:=qcl I.hok e;have hz:(fs.map (·.1)).length<=sizeLine:=by rw[U0,Q9];omega
 refine qlv I.kIn O c.sa c.po n.taker c.hd wi hz λ h' O' sb=>h _ ?_
 have hd:∃ o,h'.get? dx=some o:=let ⟨o,_,_,e',_⟩:=O'.ns;⟨o,e'⟩;refine I.write (x:=a) (e:=dx) (by rw[e];exact True.intro) (.inr ho) (λ b q hb z=>(sb.2 b hb).trans z) hd ?_;refine⟨by rw[qp O.ne];exact ho,?_,O.ne,O'.obj,_,O'.ns,λ g=>?_,λ g hg=>?_⟩
 ·have:=qb7 f y fs;omega
 ·show qap ((qaq f y fs).lookup g) (if g=f then some u else mA g)
  rw[qb6];by_cases q:g=f
  ·rw[Vy q,Vy q];exact ry
  ·rw[Vz q,Vz q];exact r g
 ·by_cases q:g=f
  ·rw[q];exact(qbN f y fs).1
  ·refine(qbN f y fs).2 g (wi g λ z=>hg ?_);show(if g=f then some u else mA g)=none
   rw[Vz q];exact z
theorem Inv.made(I:Inv X pins σ H s):Inv X pins σ (upd (upd H s.heap.objs.size (.own (s.heap.objs.size+1))) (s.heap.objs.size+1) (.ins C s.heap.objs.size []))
  { s with heap:=(s.heap.push W.emptyDict).push (W.instObj C s.heap.objs.size) }:=by
 have e1:(s.heap.push W.emptyDict).get? s.heap.objs.size=some W.emptyDict:=Yt s.heap rfl;have e2:((s.heap.push W.emptyDict).push (W.instObj C s.heap.objs.size)).get? (s.heap.objs.size+1)=some (W.instObj C s.heap.objs.size):=by
  have:=Yt (s.heap.push W.emptyDict) (o:=W.instObj C s.heap.objs.size) rfl
  rwa [Jr] at this
 have e3:(s.heap.push W.emptyDict).Ns s.heap.objs.size (λ _=>none):=⟨W.emptyDict,#[],_,e1,rfl,(λ e he=>absurd he (by simp)),λ _=>rfl⟩;have I1:=I.laid (a:=s.heap.objs.size) (o:=.own (s.heap.objs.size+1)) (h':=s.heap.push W.emptyDict) (t':=s.toks) (λ b u q=>XB _ q) (Q5 _) ⟨_,e1⟩;refine I1.laid (a:=s.heap.objs.size+1) (o:=.ins C s.heap.objs.size []) (t':=s.toks) (λ b u q=>XB _ q) (Nat.le_of_eq (Jr _ _)) ?_;have ne:s.heap.objs.size≠s.heap.objs.size+1:=Qp (Ud _);refine⟨by rw[qp ne,qe],Q6 _,ne,e2,λ _=>none,(Heap.Ns1.of_empty e3).at λ o q=>XB _ q,λ _=>True.intro,λ y hy=>absurd rfl hy⟩
theorem qlw(hb:attributeBase e f env (eval e env)=eval e env)(h:wpAny (model prog w) A (eval e env) (λ o s₁=>wpAny (model prog w) A (getAttr o f true) Q E s₁) E s):wpAny (model prog w) A (eval (.Attribute e f pos) env) Q E s:=
 Attribute_any_ h (by rw[arm_eval_Attribute,hb])
end
def qn2(K:W.Frag)(ta:TE)(f:Str):TE:=λ σ H Q=>ta σ H λ x H1=>∃ a C dx fs v,x=.ref a/\H1 a=some (.ins C dx fs)/\Cls K C/\NoAttr K C f/\fs.lookup f=some v/\Q v H1
def qo8(K:W.Frag)(ta tv:TE)(f:Str):TS:=λ D σ H=>tv σ H λ y H1=>ta σ H1 λ x H2=>∃ a C dx fs,x=.ref a/\H2 a=some (.ins C dx fs)/\Cls K C/\NoAttr K C f/\fs.length<1000 /\
 D.nx σ (upd H2 a (.ins C dx (qaq f y fs)))
section
variable {X:Cx}{o e value:Expr}{f:Str}{pos C5 B0:Pos}{ta tv:TE}
theorem zf(he:PE X e ta)(hb:attributeBase e f X.env (eval e X.env)=eval e X.env):PE X (.Attribute e f pos) (qn2 X.K ta f):=by
 intro pins s σ H Q I h;refine qlw hb (thn (he pins s σ H _ I h) λ u s1 ⟨x,H1,I1,rx,a,C,dx,fs,v,ex,ea,c,n,l,q⟩=>?_);subst ex;obtain rfl:u=Value.ref a:=rx;exact qgD I1 ea c n l λ u' s2 I2 ru=>⟨v,H1,I2,ru,q⟩
theorem jV(ha:PE X o ta)(hv:PE X value tv)(hs:swapsWith value (some (.Attribute o f C5)) pos.line X.env=pure false):PS X (.Assign [.Attribute o f C5] value pos) (qo8 X.K ta tv f):=by
 intro pins s σ H D I h;refine plainObj_wpAny_Assign_Attribute (thn (hv pins s σ H _ I h) λ u s1 ⟨y,H1,I1,ry,q⟩=>thn (ha pins s1 σ H1 _ I1 q) λ ov s2 ⟨x,H2,I2,rx,a,C,dx,fs,ex,ea,c,n,l,q2⟩=>?_) hs;subst ex;obtain rfl:ov=Value.ref a:=rx;exact qgE I2 ea c n l ry λ s3 I3=>⟨σ,_,I3,q2⟩
end
section
variable {X:Cx}{pins:List (Addr×Obj)}{σ:St}{H:Hp}{s:Shared}{A:Around}{E:Value->Shared->Prop}{Q:Value->Shared->Prop}{c:Value}{b:Bool}
inductive TyOf(K:W.Frag)(H:Hp):V->Value->Prop where
 | non:TyOf K H .non (.type "NoneType")
 | bl (x:Bool):TyOf K H (.bl x) (.type "bool")
 | int (i:Int):TyOf K H (.int i) (.type "int")
 | str (x:Str):TyOf K H (.str x) (.type "str")
 | flt (x:UInt64):TyOf K H (.flt x) (.type "float")
 | lst {a:Addr} {xs:List V} (e:H a=some (.lst xs)):TyOf K H (.ref a) (.type "list")
 | frz {a:Addr} {o:Obj} {xs:List V} (e:H a=some (.frz o (.lst xs))):TyOf K H (.ref a) (.type "list")
 | tup {a:Addr} {xs:List V} (e:H a=some (.tup xs)):TyOf K H (.ref a) (.type "tuple")
 | dK {a:Addr} {kvs:List (Key×V)} (e:H a=some (.dK kvs)):TyOf K H (.ref a) (.type "dict")
 | dT {a:Addr} {kvs:List (List Key×V)} (e:H a=some (.dT kvs)):TyOf K H (.ref a) (.type "dict")
 | ins {a C dx:Addr} {fs:List (Str×V)} (e:H a=some (.ins C dx fs)) (cl:Cls K C) (ha:W.findIn K (.ref C) "__class__"=some (some (.builtin "object.__class__")))
   (hn:W.specialIn K (.builtin "object.__class__") "__get__"=some (some (.builtin "getset_descriptor.__get__"))) (htk:W.takesIn K (.builtin "object.__class__")=some true)
   (hm:W.mroIn K C (.type "object")=some true):TyOf K H (.ref a) (.ref C)
theorem qiD(I:Inv X pins σ H s)(rx:qT x u)(ty:TyOf X.K H x t)(e:W.kitOne X.K t c=some b)(h:∀ tk,Q (.bool b) { s with toks:=tk }):
  wpAny (model X.prog X.w) A (call (.builtin "isinstance") [u,c]) Q E s:=by
 cases ty with
 |non=>cases(show u=Value.none from rx);exact Vm W.kitx_none I.kIn True.intro e (λ z=>nomatch z) h
 |bl y=>cases(show u=Value.bool y from rx);exact Vm W.kitx_bool I.kIn True.intro e (λ z=>nomatch z) h
 |int i=>obtain⟨t,q⟩:=(show ∃ t,u=Value.int i t from rx);cases q;exact Vm W.kitx_int I.kIn True.intro e (λ z=>nomatch z) h
 |str y=>obtain⟨t,q⟩:=(show ∃ t,u=Value.str y t from rx);cases q;exact Vm W.kitx_str I.kIn True.intro e (λ z=>nomatch z) h
 |flt y=>obtain⟨t,q⟩:=(show ∃ t,u=Value.float y t from rx);cases q;exact Vm W.kitx_float I.kIn True.intro e (λ z=>nomatch z) h
 | @lst a xs ea =>
  cases(show u=Value.ref a from rx)
  obtain⟨_,_,n,_,h1⟩:=(show zp X.prog X.w H s.heap a (.lst xs) from I.hok a _ ea);exact Vm W.kitx_list I.kIn ⟨_,h1,rfl⟩ e (λ z=>nomatch z) h
 | @frz a ob xs ea =>
  cases(show u=Value.ref a from rx)
  obtain⟨_,_,_,n,_,h1⟩:=(show zp X.prog X.w H s.heap a (.frz ob (.lst xs)) from I.hok a _ ea);exact Vm W.kitx_list I.kIn ⟨_,h1,rfl⟩ e (λ z=>nomatch z) h
 | @tup a xs ea =>
  cases(show u=Value.ref a from rx)
  obtain⟨_,_,_,p⟩:=(show zp X.prog X.w H s.heap a (.tup xs) from I.hok a _ ea);obtain⟨o,h1,h2,_⟩:=p;exact Vm W.kitx_tuple I.kIn ⟨o,h1,h2⟩ e (λ z=>nomatch z) h
 | @dK a kvs ea =>
  cases(show u=Value.ref a from rx)
  obtain⟨_,_,vs,_,p⟩:=(show zp X.prog X.w H s.heap a (.dK kvs) from I.hok a _ ea);obtain⟨o,es,ep,h1,h2,_⟩:=p;exact Vm W.kitx_dict I.kIn ⟨o,h1,h2.1⟩ e (λ z=>nomatch z) h
 | @dT a kvs ea =>
  cases(show u=Value.ref a from rx)
  obtain⟨_,_,xs,_,o,es,ep,h1,h2,_⟩:=(show zp X.prog X.w H s.heap a (.dT kvs) from I.hok a _ ea);exact Vm W.kitx_dict I.kIn ⟨o,h1,h2.1⟩ e (λ z=>nomatch z) h
 | @ins a C dx fs ea cl ha hn htk hm =>
  cases(show u=Value.ref a from rx)
  obtain⟨mA,O,_⟩:=qcl I.hok ea;obtain⟨od,J,_⟩:=O.look;exact Vm (W.kitx_own (cl.get _) cl.hd ha hn htk hm) I.kIn J e (λ z=>nomatch z) h
end
structure Room(k:Nat)(A:Around):Prop where
 hd:A.handled=none
 dp:A.depth+3*k+5<recursionLimit
 un:A.units+16*k+200<cLine
theorem Room.mono(r:Room k A)(h:j<=k):Room j A:=⟨r.hd,by have:=r.dp;omega,by have:=r.un;omega⟩
theorem Room.deeper(r:Room (k+1) A)(env:Env):Room k (A.deeper env):=
 ⟨r.hd,by have:=r.dp;show A.depth+1+3*k+5<_;omega,by have:=r.un;show A.units+3+16*k+200<_;omega⟩
theorem qgF{A:Around}:(A.under (.builtin "type.__call__" ⟨.ref C::us,kw⟩)).depth=A.depth+1:=by
 first|rfl|simp[Around.under,Code.weight,Code.isCreation,Code.isGuard,Code.isCaller,Code.frames,Code.isFrame,guardIds]
theorem qgG{A:Around}:(A.under (.builtin "type.__call__" ⟨.ref C::us,kw⟩)).units=A.units+1:=by
 first|rfl|simp[Around.under,Code.cUnits,Code.frames,Code.isFrame]
theorem Room.make(r:Room (k+1) A)(C:Addr)(us:List Value)(kw:List (Str×Value)):Room k (A.under (.builtin "type.__call__" ⟨.ref C::us,kw⟩)):=
 ⟨r.hd,by have:=r.dp;rw[qgF];omega,by have:=r.un;rw[qgG];omega⟩
theorem Room.depth(r:Room k A):A.depth<recursionLimit:=by have:=r.dp;omega
theorem Room.units(r:Room k A):A.units+64<cLine:=by have:=r.un;omega
def yH:TA:=λ _ H Q=>Q [] H
def vC(ta:TE)(tr:TA):TA:=λ σ H Q=>ta σ H λ x H1=>tr σ H1 λ xs H2=>Q (x::xs) H2
section
variable {X:Cx}{e:Expr}{es:List Expr}{te:TE}{t:TA}{pos:Pos}
theorem qb:PA X [] yH:=λ _ _ _ _ H Q I h=>Calls.spliced_nil ⟨[],H,I,.nil,h⟩
theorem qa(ha:PE X e te)(hr:PA X es t)(hs:starEach (e::es) X.env=(false,eval e X.env)::starEach es X.env:=by rfl):PA X (e::es) (vC te t):=by
 intro pos pins s σ H Q I h;rw[hs];show wpAny _ _ (spliced ((false,eval e X.env)::backTo pos (starEach es X.env))) _ _ s
 refine Calls.spliced_cons (thn (ha pins s σ H _ I h) λ u s1 ⟨x,H1,I1,r1,q1⟩=>?_);exact thn (hr pos pins s1 σ H1 _ I1 q1) λ us s2 ⟨xs,H2,I2,r2,q2⟩=>⟨x::xs,H2,I2,.cons r1 r2,q2⟩
def qn3(t:TA):TE:=λ σ H Q=>t σ H λ xs H1=>xs.length<=sizeLine/\∀ p,H1 p=none->Q (.ref p) (upd H1 p (.tup xs))
def qo9(t:TA):TE:=λ σ H Q=>t σ H λ xs H1=>xs.length<=sizeLine/\∀ p,H1 p=none->Q (.ref p) (upd H1 p (.lst xs))
theorem zM{x1}(h:PA X es t):PE X (.Tuple es x1 pos) (qn3 t):=by
 intro pins s σ H Q I hq;refine wpAny_Tuple_spliced (thn (h pos pins s σ H _ I hq) λ us s1 ⟨xs,H1,I1,r,z,q⟩=>⟨by rw[<- r.length];exact z,?_⟩);have hf:H1 s1.heap.objs.size=none:=I1.hok.fresh (Q5 _);refine⟨.ref s1.heap.objs.size,upd H1 s1.heap.objs.size (.tup xs),I1.laid (t':=s1.toks) (λ b u e=>XB _ e) (Q5 _) ?_,rfl,q _ hf⟩;exact⟨z,us,r,⟨_,Yt _ rfl,rfl,_,rfl⟩⟩
theorem zY(h:PA X es t):PE X (.List es pos) (qo9 t):=by
 intro pins s σ H Q I hq;refine wpAny_List_spliced (thn (h pos pins s σ H _ I hq) λ us s1 ⟨xs,H1,I1,r,z,q⟩=>⟨by rw[<- r.length];exact z,?_⟩);have hf:H1 s1.heap.objs.size=none:=I1.hok.fresh (Q5 _);refine⟨.ref s1.heap.objs.size,upd H1 s1.heap.objs.size (.lst xs),I1.laid (t':=s1.toks) (λ b u e=>XB _ e) (Q5 _) ?_,rfl,q _ hf⟩;exact⟨z,us,0,r,Yt _ rfl⟩
end
abbrev Sp:=List V->Hp->VK->XK->Prop
abbrev CXT:=List Env->Hp->Shared->XK->Value->Shared->Prop
structure Env0(P:Program)(w:World)(K:W.Frag)(mg:Str->Option Value)(base:Heap)(A:Around)(outer:List Env)(s:Shared)(H:Hp):Prop where
 frames:A.frames=some outer
 mod:Mod K mg base
 bs:∀ b o,base.get? b=some o->s.heap.get? b=some o/\H b=none
 bsz:base.objs.size<=s.heap.objs.size
 funs:s.heap.FunFrames base outer
 frf:∀ b∈frs outer,H b=none
 hok:HOk P w H s.heap
 bare:AllBare s.gens
def CE(outer:List Env)(P:Program)(w:World)(H:Hp)(s:Shared)(Q:VK)(u:Value)(s':Shared):Prop:=
 ∃ v H',s'.os=s.os/\AllBare s'.gens/\Un (frs outer) [] H H' s.heap s'.heap/\HOk P w H' s'.heap/\qT v u/\Q v H'
def CR(CX:CXT)(outer:List Env)(P:Program)(w:World)(H:Hp)(s:Shared)(Q:VK)(E:XK)(r:Result)(s':Shared):Prop:=
 match r with
 |.ok (.ret u)=>CE outer P w H s Q u s'
 |.ok _=>False
 |.error e=>CX outer H s E e s'
structure FnOk(P:Program)(w:World)(K:W.Frag)(mg:Str->Option Value)(base:Heap)(CX:CXT)(k:Nat)(f:Addr)(fd:FuncData)(ps:List Str)(sp:Sp):Prop where
 len:∀ vs H Q E,sp vs H Q E->vs.length=ps.length
 run:∀(A:Around)(outer:List Env)(s:Shared)(H:Hp)(args:Args)(us:List Value)(vs:List V)(Q:VK)(E:XK),Room k A->Env0 P w K mg base A outer s H->BindsTo s fd args (ps.zip us)->qL vs us->sp vs H Q E ->
  codeAny (model P w) A (.call (.ref f) args) (CR CX outer P w H s Q E) s
theorem Env0.make{K:W.Frag}(e:Env0 P w K mg base A outer s H)(C:Addr)(us:List Value)(kw:List (Str×Value)):
  Env0 P w K mg base (A.under (.builtin "type.__call__" ⟨.ref C::us,kw⟩)) outer s H:=⟨by first | exact e.frames | (simpa [Around.under,Code.envs,Code.isFrame,pushEnvs] using e.frames),e.mod,e.bs,e.bsz,e.funs,e.frf,e.hok,e.bare⟩
section
variable {X:Cx}{pins:List (Addr×Obj)}{σ:St}{H:Hp}{s s':Shared}
theorem Inv.env0(I:Inv X pins σ H s):Env0 X.prog X.w X.K X.mg X.base X.A X.stack s H:=
 ⟨I.ok.frames,I.ok.mod,I.bs,Qq I.ok.bsz I.sz,I.stack,I.stkFree,I.hok,I.bare⟩
theorem Inv.after(I:Inv X pins σ H s)(h:CE X.stack X.prog X.w H s Q u s'):EP X pins σ Q u s':=by
 obtain⟨v,H',os,bare,un,hok,r,q⟩:=h;obtain⟨hh,g,d,t,nP⟩:=s';obtain rfl:nP=s.os:=os;exact⟨v,H',I.call (h':=hh) (g':=g) (d':=d) (t':=t) (ch:=[]) un hok bare (λ b z=>absurd z (by simp)),r,q⟩
end
def qb8(sp:Sp)(N2:List V)(E:XK)(t:TA):TE:=λ σ H Q=>t σ H λ vs H1=>sp (vs++N2) H1 Q E
def yl(C:Addr)(m:Str)(sp:Sp)(N2:List V)(E:XK)(ta:TE)(t:TA):TE:=λ σ H Q=>ta σ H λ x H1=>∃ a dx fs,x=.ref a/\H1 a=some (.ins C dx fs)/\fs.lookup m=none /\
 t σ H1 λ vs H2=>sp (x::(vs++N2)) H2 Q E
def qn4(C:Addr)(sp:Sp)(N2:List V)(E:XK)(t:TA):TE:=λ σ H Q=>t σ H λ vs H1=>∀ x dx,H1 x=none->H1 dx=none->dx≠x ->
 sp (.ref x::(vs++N2)) (upd (upd H1 dx (.own x)) x (.ins C dx [])) (λ v H2=>v=.non/\Q (.ref x) H2) E
def qh(K:W.Frag)(fd:FuncData)(ps:List Str)(ds:List Value):Prop:=
 ∀(s:Shared)(us:List Value),K.In s.heap->(us++ds).length=ps.length->BindsTo s fd ⟨us,[]⟩ (ps.zip (us++ds))
theorem qh.all{K:W.Frag}(h:∀ us:List Value,us.length=ps.length->bindArgs fd ⟨us,[]⟩=pure (ps.zip us)):qh K fd ps []:=λ s us _ hl=>by
 rw[U1] at hl ⊢;exact .of_eq (h us hl)
def qaC(CX:CXT)(X:Cx)(E:XK):Prop:=∀(pins:List (Addr×Obj))(σ:St)(H:Hp)(s:Shared)(e:Value)(s':Shared),Inv X pins σ H s->CX X.stack H s E e s'->X.xe e s'
section
variable {X:Cx}{CX:CXT}{k:Nat}{f C:Addr}{fd:FuncData}{ps:List Str}{sp:Sp}{N2:List V}{ds:List Value}{E:XK}{x m:Str}{p pos w5:Pos}{e o:Expr}{es:List Expr}{ta:TE}{t:TA}
theorem qgH(F:FnOk X.prog X.w X.K X.mg X.base CX k f fd ps sp)(hr:Room k X.A)(hb:qh X.K fd ps ds)(hd:qL N2 ds)(hx:qaC CX X E)(I:Inv X pins σ H s)(r:qL vs us)(h:sp (vs++N2) H Q E):wpAny (model X.prog X.w) X.A (call (.ref f) us) (EP X pins σ Q) X.xe s:=by
 have r2:qL (vs++N2) (us++ds):=r.append hd;have hl:(us++ds).length=ps.length:=by rw[<- r2.length];exact F.len _ _ _ _ h
 refine wpAny_call (Q2 (F.run X.A X.stack s H ⟨us,[]⟩ (us++ds) (vs++N2) Q E hr I.env0 (hb s us I.kIn hl) r2 h) λ r s' hq=>?_);cases r with
 |error e=>exact hx pins σ H s e s' I hq
 |ok fl =>
  cases fl with
  |ret u=>exact I.after hq
  |next=>exact False.elim hq
  |brk=>exact False.elim hq
  |cont=>exact False.elim hq
theorem zk(F:FnOk X.prog X.w X.K X.mg X.base CX k f fd ps sp)(hr:Room k X.A)(hg:Gl X x)(hm:X.mg x=some (.ref f))(hk:W.keepIn X.K (.ref f)=true)(hb:qh X.K fd ps ds)(hd:qL N2 ds)(hx:qaC CX X E)(ha:PA X (e::es) t)(bQ:(x == ("__debug__":Str))=false:=by decide)(he:starEach (e::es) X.env=(false,eval e X.env)::starEach es X.env:=by rfl)(w6:(backTo pos (starEach es X.env)).any (·.1)=false:=by rfl):
  PE X (.Call (.Name x p) (e::es) [] pos) (qb8 sp N2 E t):=by
 intro pins s σ H Q I h;refine Zj (qa4 I hg hm ?_ bQ);refine W.callWith_K (h₀:=X.base) I.ok.mod.kin hk (thn (ha pos pins s σ H _ I h) λ us s1 ⟨vs,H1,I1,r,q⟩=>⟨I1.kIn,?_⟩) he w6;exact qgH F hr hb hd hx I1 r q
theorem qhP(he:PE X o ta)(c:Cls X.K C)(hm:Meth X.K C m f)(F:FnOk X.prog X.w X.K X.mg X.base CX k f fd ps sp)(hr:Room k X.A)(hb:qh X.K fd ps ds)(hd:qL N2 ds)(hx:qaC CX X E)(ha:PA X (e::es) t)(M8:starEach (e::es) X.env=(false,eval e X.env)::starEach es X.env:=by rfl)(w6:(backTo pos (starEach es X.env)).any (·.1)=false:=by rfl)(ht:eval (.Call (.Attribute o m w5) (e::es) [] pos) X.env=(do
   let ov <- eval o X.env
   standAt w5.atName
   let (f,first) <- holding [ov] (getMethod ov m pl)
   callWith pos f first (backTo pos (starEach (e::es) X.env)) (backToKw pos (keywordEach [] X.env))):=by rfl):
  PE X (.Call (.Attribute o m w5) (e::es) [] pos) (yl C m sp N2 E ta t):=by
 intro pins s σ H Q I h;refine W.methodCall_KW (pl:=pl) (thn (he pins s σ H _ I h) λ u s1 ⟨x,H1,I1,rx,a,dx,fs,ex,ea,l,q⟩=>?_) ht;subst ex;obtain rfl:u=Value.ref a:=rx;refine qcG I1 ea c hm l ?_;refine W.callWith_K (first:=[.ref a]) (h₀:=X.base) I.ok.mod.kin hm.kp (thn (ha pos pins s1 σ H1 _ I1 q) λ us s2 ⟨vs,H2,I2,r,q2⟩=>⟨I2.kIn,?_⟩) M8 w6;exact qgH (us:=.ref a::us) (vs:=.ref a::vs) F hr hb hd hx I2 (.cons rfl r) q2
theorem qD(he:PE X o ta)(c:Cls X.K C)(hm:Meth X.K C m f)(F:FnOk X.prog X.w X.K X.mg X.base CX k f fd ps sp)(hr:Room k X.A)(hb:qh X.K fd ps ds)(hd:qL N2 ds)(hx:qaC CX X E)(ht:eval (.Call (.Attribute o m w5) [] [] pos) X.env=(do
   let ov <- eval o X.env
   standAt w5.atName
   let (f,first) <- holding [ov] (getMethod ov m pl)
   callWith pos f first (backTo pos (starEach [] X.env)) (backToKw pos (keywordEach [] X.env))):=by rfl):
  PE X (.Call (.Attribute o m w5) [] [] pos) (yl C m sp N2 E ta yH):=by
 intro pins s σ H Q I h;refine W.methodCall_KW (pl:=pl) (thn (he pins s σ H _ I h) λ u s1 ⟨x,H1,I1,rx,a,dx,fs,ex,ea,l,q⟩=>?_) ht;subst ex;obtain rfl:u=Value.ref a:=rx;refine qcG I1 ea c hm l ?_;exact W.callWith_K0 (first:=[.ref a]) I1.kIn hm.kp (qgH (us:=[.ref a]) (vs:=[.ref a]) F hr hb hd hx I1 (.cons rfl .nil) q)
structure Mk(K:W.Frag)(C f:Addr):Prop where
 makes:W.makesIn K C=true
 init:W.findIn K (.ref C) "__init__"=some (some (.ref f))
 fn:W.isFn K (.ref f)=true
 kp:W.keepIn K (.ref C)=true
theorem qjB(M:Mk X.K C f)(F:FnOk X.prog X.w X.K X.mg X.base CX k f fd ps sp)(hr:Room (k+1) X.A)(hb:qh X.K fd ps ds)(hd:qL N2 ds)(hx:qaC CX X E)(I:Inv X pins σ H s)(r:qL vs us)(h:∀ x dx,H x=none->H dx=none->dx≠x->sp (.ref x::(vs++N2)) (upd (upd H dx (.own x)) x (.ins C dx [])) (λ v H2=>v=.non/\Q (.ref x) H2) E):
  wpAny (model X.prog X.w) X.A (call (.ref C) us) (EP X pins σ Q) X.xe s:=by
 have hq:=h (s.heap.objs.size+1) s.heap.objs.size (I.hok.fresh (Q7 _)) (I.hok.fresh (Q5 _)) (Qp (Ud _));have I2:=Inv.made (C:=C) I;have r2:qL (V.ref (s.heap.objs.size+1)::(vs++N2)) (Value.ref (s.heap.objs.size+1)::(us++ds)):=.cons rfl (r.append hd);have hl:(Value.ref (s.heap.objs.size+1)::us++ds).length=ps.length:=by
  have e:=r2.length;rw[F.len _ _ _ _ hq] at e;exact e.symm
 refine wpAny_call (qjA (f:=f) I.kIn M.makes M.init (Vh.mp M.fn) (Q2 (F.run _ X.stack _ _ ⟨Value.ref (s.heap.objs.size+1)::us,[]⟩ (Value.ref (s.heap.objs.size+1)::(us++ds)) _ _ E (hr.make C us [])
  (I2.env0.make C us []) (hb _ (Value.ref (s.heap.objs.size+1)::us) I2.kIn hl) r2 hq) λ r s' tH=>?_))
 cases r with
 |error e=>exact hx pins σ _ _ e s' I2 tH
 |ok fl =>
  cases fl with
  |ret u =>
   obtain⟨v,H',I3,rv,ev,q3⟩:=I2.after tH;subst ev;exact⟨rv,⟨V.ref (s.heap.objs.size+1),H',I3,rfl,q3⟩⟩
  |next=>exact False.elim tH
  |brk=>exact False.elim tH
  |cont=>exact False.elim tH
theorem k6(M:Mk X.K C f)(F:FnOk X.prog X.w X.K X.mg X.base CX k f fd ps sp)(hr:Room (k+1) X.A)(hg:Gl X x)(hm:X.mg x=some (.ref C))(hb:qh X.K fd ps ds)(hd:qL N2 ds)(hx:qaC CX X E)(ha:PA X (e::es) t)(bQ:(x == ("__debug__":Str))=false:=by decide)(he:starEach (e::es) X.env=(false,eval e X.env)::starEach es X.env:=by rfl)(w6:(backTo pos (starEach es X.env)).any (·.1)=false:=by rfl):
  PE X (.Call (.Name x p) (e::es) [] pos) (qn4 C sp N2 E t):=by
 intro pins s σ H Q I h;refine Zj (qa4 I hg hm ?_ bQ);refine W.callWith_K (h₀:=X.base) I.ok.mod.kin M.kp (thn (ha pos pins s σ H _ I h) λ us s1 ⟨vs,H1,I1,r,q⟩=>⟨I1.kIn,?_⟩) he w6;exact qjB M F hr hb hd hx I1 r q
end
structure FnScope(N P:List Str)(sc:Scope):Prop where
 kind:sc.kind=.function
 co:sc.isCoroutine=false
 gen:sc.isGenerator=false
 nd:N.Nodup
 pre:N.take P.length=P
 par:∀ x∈P,sc.names.lookup x=some .local∨sc.names.lookup x=some .cell
 nofree:∀ y∈sc.names,y.2≠.free
theorem scF(a:sc.kind=.function:=by rfl)(b:sc.isCoroutine=false:=by rfl)(c:sc.isGenerator=false:=by rfl)(d:N.take P.length=P:=by rfl)(h:N.Nodup ∧ (∀ x∈P,sc.names.lookup x=some .local∨sc.names.lookup x=some .cell) ∧ ∀ y∈sc.names,y.2≠.free:=by decide +kernel):FnScope N P sc:=⟨a,b,c,h.1,d,h.2.1,h.2.2⟩
theorem qdW{kindOf:Str->Option NameKind}:∀{binds:List (Str×Value)}{m:Str->Option Value},(∀ v,(x,v)∉binds)->bindL kindOf binds m x=m x
 | [],_,_=>rfl
 |(n,v)::r,m,h=>by
  unfold bindL;rw[qdW λ w hw=>h w (Yf _ hw)];split
  ·have:x≠n:=by rintro rfl;exact h v Y9
   simp[this]
  ·rfl
theorem qdX{kindOf:Str->Option NameKind}:∀{binds:List (Str×Value)}{m:Str->Option Value},(∀ v,(x,v)∉binds)->bindC kindOf binds m x=m x
 | [],_,_=>rfl
 |(n,v)::r,m,h=>by
  unfold bindC;rw[qdX λ w hw=>h w (Yf _ hw)];split
  ·rfl
  ·have:x≠n:=by rintro rfl;exact h v Y9
   simp[this]
theorem qdY{kindOf:Str->Option NameKind}:∀{P:List Str}{vs:List Value}{i:Nat}{m:Str->Option Value},P.Nodup->P[i]?=some x->vs[i]?=some v->kindOf x=some .local ->
  bindL kindOf (P.zip vs) m x=some v
 | [],_,_,_,_,h,_,_=>by simp at h
 |_::_,[],_,_,_,_,h,_=>by simp at h
 |p::P,w::vs,0,m,nd,h1,h2,hk=>by
  simp at h1 h2;subst h1;subst h2;show bindL kindOf ((p,w)::P.zip vs) m p=_
  unfold bindL;rw[qdW λ v hv=>(U2.mp nd).1 (U3 hv).1,Vy hk];simp
 |p::P,w::vs,i+1,m,nd,h1,h2,hk=>by
  show bindL kindOf ((p,w)::P.zip vs) m x=_
  unfold bindL;exact qdY (i:=i) (U2.mp nd).2 (by simpa using h1) (by simpa using h2) hk
theorem qdZ{kindOf:Str->Option NameKind}:∀{P:List Str}{vs:List Value}{i:Nat}{m:Str->Option Value},P.Nodup->P[i]?=some x->vs[i]?=some v->kindOf x≠some .local ->
  bindC kindOf (P.zip vs) m x=some v
 | [],_,_,_,_,h,_,_=>by simp at h
 |_::_,[],_,_,_,_,h,_=>by simp at h
 |p::P,w::vs,0,m,nd,h1,h2,hk=>by
  simp at h1 h2;subst h1;subst h2;show bindC kindOf ((p,w)::P.zip vs) m p=_
  unfold bindC;rw[qdX λ v hv=>(U2.mp nd).1 (U3 hv).1,Vz hk];simp
 |p::P,w::vs,i+1,m,nd,h1,h2,hk=>by
  show bindC kindOf ((p,w)::P.zip vs) m x=_
  unfold bindC;exact qdZ (i:=i) (U2.mp nd).2 (by simpa using h1) (by simpa using h2) hk
noncomputable def qa6(N:List Str)(vs:List V):St:=vs.map some++List.replicate (N.length-vs.length) none
noncomputable def qgI(CX:CXT)(P:Program)(w:World)(K:W.Frag)(mg:Str->Option Value)(base:Heap)(N:List Str)(qual:Str)(scope:Scope)(f:Addr)(cd:Value)(A:Around)(outer:List Env)(s:Shared)(H:Hp)(E:XK):Cx where
 prog:=P
 w:=w
 K:=K
 mg:=mg
 base:=base
 A:=A.deeper (envOfC qual scope s.heap.objs.size f cd)
 N:=N
 s₀:=s
 H₀:=H
 env:=envOfC qual scope s.heap.objs.size f cd
 outer:=outer
 stack:=envOfC qual scope s.heap.objs.size f cd::outer
 ex:=[]
 calm:=true
 fn:=λ _=>true
 pn:=[]
 xe:=λ e s'=>wpAny (model P w) (A.deeper (envOfC qual scope s.heap.objs.size f cd)) (leaving (envOfC qual scope s.heap.objs.size f cd) e) (λ _ V2=>CX outer H s E e V2) (λ e' V2=>CX outer H s E e' V2) s'
theorem qfo{sc:Scope}(h:sc.names.lookup x=some .cell):∃ c,(cellsFrom n sc.names []).lookup x=some c:=by
 have q:=W.cellsFrom_some sc.names n [] (.inl h);exact Xs.mp q
theorem qiE{K:W.Frag}(S:FnScope N ps scope)(hd:A.handled=none)(e0:Env0 P w K mg base A outer s H)(hl:vs.length=ps.length)(r:qL vs us)(x:InCallC s s.heap.objs.size (bindL (envOfC qual scope s.heap.objs.size f cd).kindOf (ps.zip us) λ _=>none) (cellsFrom (s.heap.objs.size+1) scope.names []) (bindC (envOfC qual scope s.heap.objs.size f cd).kindOf (ps.zip us) λ _=>none) s1):
  Inv (qgI CX P w K mg base N qual scope f cd A outer s H E) [] (qa6 N vs) H s1:=by
 have w6:ps.length<=N.length:=by have:=congrArg List.length S.pre;rw[Ue] at this;omega
 obtain⟨h1,tk,rfl,hk⟩:=x.done;have rY:∀ b:Addr,b∉(qgI CX P w K mg base N qual scope f cd A outer s H E).ex:=λ b z=>absurd (show b∈([]:List Addr) from z) (by simp)
 refine⟨⟨e0.mod,S.kind,rfl,rfl,Q5 _,λ y z c h1 h2=>?_,λ y hy=>?_,λ y c _ h=>?_,λ _=>hd,Around.frames_deeper e0.frames,.inr ⟨rfl,rfl⟩,λ b z=>absurd z (rY b),e0.bs,e0.bsz,λ b _ _=>rY b,λ b z=>absurd z (rY b),e0.funs,e0.frf⟩,
  rfl,e0.bare,Un.kept hk,⟨_,x.toInCall.ns,λ i y v h1 h2 h3=>?_⟩,λ y c h=>⟨_,x.cell y c h⟩,e0.hok.fresh (Q5 _),λ y c h=>?_,λ p hp=>absurd (show p∈([]:List (Addr×Obj)) from hp) (by simp),e0.hok.kept hk,?_⟩
 ·exact name_of_addr x.apart (Yu h1) (Yu h2)
 ·have hy:scope.names.lookup y=some .cell∨scope.names.lookup y=some .free:=hy;rcases hy with hy | hy
  ·exact qfo hy
  ·exact absurd rfl (S.nofree _ (Yu hy))
 ·exact Qr (x.above y c (Yu h))
 ·have hi:i<vs.length:=by
   unfold qa6 at h2;by_cases hi:i<vs.length
   ·exact hi
   ·rw[Xh (by simpa using hi)] at h2;rw[X1] at h2;split at h2 <;> cases h2
  have ha:vs[i]?=some v:=by
   unfold qa6 at h2;rw[Xm (by simpa using hi),Zn] at h2;cases e:vs[i]? with
   |none=>rw[e] at h2;cases h2
   |some a=>rw[e] at h2;cases h2;rfl
  obtain⟨u,hu,rv⟩:=r.get ha;have hp:ps[i]?=some y:=by
   rw[<- S.pre,Xt (by omega)];exact h1
  have ndP:ps.Nodup:=by rw[<- S.pre];exact S.nd.sublist (List.take_sublist _ _)
  refine⟨u,rv,?_⟩;rcases S.par y (Yh hp) with k|k
  ·exact .inl ⟨k,qdY ndP hp hu k⟩
  ·obtain⟨c,e⟩:=qfo (n:=s.heap.objs.size+1) k;refine .inr ⟨.inl k,c,e,?_⟩;have q:=x.cell y c e;rw[qdZ ndP hp hu (by show scope.names.lookup y≠_;rw[k];decide)] at q;exact q
 ·exact e0.hok.fresh (Qr (x.above y c (Yu h)))
 ·unfold qa6;show _=N.length
  rw[Zb,U0,XO];omega
theorem qn5{K:W.Frag} {kV:Value}(lk:K.lookup f=some ⟨oc,od,.func (W.fnOf name qual params body scope dV kV doc pm an cdv ct),osl⟩)(R7:W.codeIn K cdv qual=true)(S:FnScope N ps scope)(len:∀ vs H Q E,sp vs H Q E->vs.length=ps.length)(T0:∀(A:Around)(outer:List Env)(s:Shared)(H:Hp)(vs:List V)(Q:VK)(E:XK),Room k (A.deeper (envOfC qual scope s.heap.objs.size f cdv))->sp vs H Q E ->
   ∃ t,PSs (qgI CX P w K mg base N qual scope f cdv A outer s H E) body t/\t { nx:=λ _ H'=>Q .non H',rt:=Q } (qa6 N vs) H):
  FnOk P w K mg base CX (k+1) f (W.fnOf name qual params body scope dV kV doc pm an cdv ct) ps sp:=by
 refine⟨len,λ A outer s H args us vs Q E hr e0 hb r aM=>?_⟩;have hl:=len _ _ _ _ aM;have KX:K.In s.heap:=e0.mod.kin.keeps λ b o e=>(e0.bs b o e).1
 have lim:s.heap.NoLimit:=e0.mod.nolimit.keeps λ b o e=>(e0.bs b o e).1
 have tS:∀ y∈ps.zip us,scope.names.lookup y.1=some .local∨(scope.names.lookup y.1=some .cell/\((cellsFrom (s.heap.objs.size+1) scope.names []).lookup y.1).isSome=true):=λ ⟨n,v⟩ hy=>by
  rcases S.par n (U3 hy).1 with q|q
  ·exact .inl q
  ·exact .inr ⟨q,W.cellsFrom_some _ _ _ (.inl q)⟩
 refine codeAny_call_function hr.depth (KX _ _ lk) rfl S.co S.gen rfl (W.codeRec_of KX R7) (hb _ _ _ _ ?_);refine wpAny_newFunctionEnv_cells S.kind tS λ env he s1 x=>?_
 subst he;refine⟨lim.keeps x.toInCall.keep,codeAny_func ?_⟩;obtain⟨t,ht,hq⟩:=T0 A outer s H vs Q E (hr.deeper _) aM;have I:Inv (qgI CX P w K mg base N qual scope f cdv A outer s H E) [] (qa6 N vs) H s1:=qiE S hr.hd e0 hl r x;refine Vd (ht [] s1 (qa6 N vs) H _ I hq) (λ fl s' hs=>?_) λ e s' hs=>hs
 have fin:∀{σ':St}{H':Hp}{v:V}{u:Value},Inv (qgI CX P w K mg base N qual scope f cdv A outer s H E) [] σ' H' s'->qT v u->Q v H'->CE outer P w H s Q u s':=
  λ{σ' H' v u} J rv q=>⟨v,H',J.os,J.bare,J.base,J.hok,rv,q⟩
 cases fl with
 |ret u =>
  obtain⟨v,σ',H',J,rv,q⟩:=hs;exact fin J rv q
 |next =>
  obtain⟨σ',H',J,q⟩:=hs;exact fin (v:=V.non) (u:=Value.none) J rfl q
 |brk =>
  obtain⟨_,_,_,q⟩:=hs;exact False.elim q
 |cont =>
  obtain⟨_,_,_,q⟩:=hs;exact False.elim q
section
variable {X:Cx}{x:Str}{p pos:Pos}{e:Expr}{es:List Expr}{t:TA}{id T:String}{r:List V->Hp->VK->Prop}
def tCB(r:List V->Hp->VK->Prop)(t:TA):TE:=λ σ H Q=>t σ H λ vs H1=>r vs H1 Q
theorem qv(hc:yG X (.builtin id) r)(hg:Gl X x)(hm:X.mg x=none)(hv:bootBuiltins x=some (.builtin id))(ha:PA X (e::es) t)(hn:x≠"__name__":=by decide)(bQ:(x == ("__debug__":Str))=false:=by decide)(he:starEach (e::es) X.env=(false,eval e X.env)::starEach es X.env:=by rfl)(w6:(backTo pos (starEach es X.env)).any (·.1)=false:=by rfl):PE X (.Call (.Name x p) (e::es) [] pos) (tCB r t):=by
 intro pins s σ H Q I h;refine Zj (qaA I hg hm hv ?_ hn bQ);exact PyProof.Rows.callWith_builtin1 (thn (ha pos pins s σ H _ I h) λ us s1 ⟨vs,H1,I1,r1,q1⟩=>hc pins s1 σ H1 vs us Q I1 r1 q1) he w6
theorem zu(hc:yG X (.type T) r)(hg:Gl X x)(hm:X.mg x=none)(hv:bootBuiltins x=some (.type T))(ha:PA X (e::es) t)(hn:x≠"__name__":=by decide)(bQ:(x == ("__debug__":Str))=false:=by decide)(he:starEach (e::es) X.env=(false,eval e X.env)::starEach es X.env:=by rfl)(w6:(backTo pos (starEach es X.env)).any (·.1)=false:=by rfl):PE X (.Call (.Name x p) (e::es) [] pos) (tCB r t):=by
 intro pins s σ H Q I h;refine Zj (qaA I hg hm hv ?_ hn bQ);exact Xe (thn (ha pos pins s σ H _ I h) λ us s1 ⟨vs,H1,I1,r1,q1⟩=>hc pins s1 σ H1 vs us Q I1 r1 q1) he w6
end
section
variable {κ:Type}[DecidableEq κ]
noncomputable def zU(kvs:List (κ×V))(k:κ):Option V:=(kvs.find? λ kv=>decide (kv.1=k)).map (·.2)
noncomputable def y3(kvs:List (κ×V))(k:κ)(v:V):List (κ×V):=
 if (kvs.any λ kv=>decide (kv.1=k))=true then kvs.map (λ kv=>if kv.1=k then(kv.1,v) else kv) else kvs++[(k,v)]
theorem qcH{p:κ×V}{r:List (κ×V)}{k:κ}(e:p.1=k):zU (p::r) k=some p.2:=by simp[zU,U4,e]
theorem qcI{p:κ×V}{r:List (κ×V)}{k:κ}(e:¬ p.1=k):zU (p::r) k=zU r k:=by simp[zU,U4,e]
theorem vK(k:κ):∀ kvs:List (κ×V),(kvs.any λ kv=>decide (kv.1=k))=(zU kvs k).isSome
 | []=>rfl
 |p::r=>by
  rw[Qd];by_cases e:p.1=k
  ·simp only[qcH e,J4 e,Bool.true_or,Option.isSome_some]
  ·rw[qcI e,Jh e,Qe];exact vK k r
theorem yI(kvs:List (κ×V))(k:κ)(v:V):(y3 kvs k v).length<=kvs.length+1:=by
 unfold y3;split
 ·rw[U0];omega
 ·rw[Zb,Uc,List.length_nil];omega
theorem qa7{kvs:List (κ×V)}{k:κ}(v:V)(h:zU kvs k=none):y3 kvs k v=kvs++[(k,v)]:=by
 unfold y3;rw[vK,h];exact Vz (by decide)
theorem qap.isSome_eq(r:qap o u):o.isSome=u.isSome:=by
 cases o with
 |none=>cases u with
  |none=>rfl
  |some _=>exact(show False from r).elim
 |some _=>cases u with
  |none=>exact(show False from r).elim
  |some _=>rfl
theorem KV.val{kvs:List (κ×V)}{vs:List (κ×Value)}(r:KV kvs vs)(k:κ):qap (zU kvs k) (valueAt vs k):=by
 unfold KV at r;induction r with
 |nil=>exact True.intro
 | @cons p q ps qs h t ih =>
  obtain⟨h1,h2⟩:=h;by_cases e:p.1=k
  ·have e':q.1=k:=h1.symm.trans e;have b:valueAt (q::qs) k=some q.2:=by simp[valueAt,U4,e']
   rw[qcH e,b];exact h2
  ·have e':¬ q.1=k:=λ z=>e (h1.trans z)
   have b:valueAt (q::qs) k=valueAt qs k:=by simp[valueAt,U4,e']
   rw[qcI e,b];exact ih
theorem KV.any{kvs:List (κ×V)}{vs:List (κ×Value)}(r:KV kvs vs)(k:κ):(kvs.any λ kv=>decide (kv.1=k))=vs.any λ kv=>decide (kv.1=k):=by
 unfold KV at r;induction r with
 |nil=>rfl
 |cons h t ih=>rw[Qd,Qd,ih,h.1]
theorem KV.repl{kvs:List (κ×V)}{vs:List (κ×Value)}(r:KV kvs vs)(k:κ){y:V}{u:Value}(ry:qT y u):
  KV (kvs.map λ kv=>if kv.1=k then(kv.1,y) else kv) (vs.map λ kv=>if kv.1=k then(kv.1,u) else kv):=by
 unfold KV at r ⊢;induction r with
 |nil=>exact .nil
 | @cons p q ps qs h t ih =>
  rw[Qc,Qc];refine .cons ?_ ih;obtain⟨h1,h2⟩:=h;by_cases e:p.1=k
  ·rw[Vy e,Vy (h1.symm.trans e)];exact⟨h1,ry⟩
  ·rw[Vz e,Vz (λ z=>e (h1.trans z))];exact⟨h1,h2⟩
theorem KV.put{kvs:List (κ×V)}{vs:List (κ×Value)}(r:KV kvs vs)(k:κ){y:V}{u:Value}(ry:qT y u):KV (y3 kvs k y) (stored vs k u):=by
 unfold y3 stored;rw[r.any k];by_cases e:(vs.any λ kv=>decide (kv.1=k))=true
 ·rw[Vy e,Vy e];exact r.repl k ry
 ·rw[Vz e,Vz e];exact Paired.snoc r ⟨rfl,ry⟩
theorem KV.length{kvs:List (κ×V)}{vs:List (κ×Value)}(r:KV kvs vs):kvs.length=vs.length:=Paired.length r
end
theorem qd0(r:qT (kV k) u):(qu P w).is k u=true:=by
 cases k with
 |inl i=>obtain⟨t,e⟩:=(show ∃ t,u=Value.int i t from r);subst e;exact qfh P w i t
 |inr x=>obtain⟨t,e⟩:=(show ∃ t,u=Value.str x t from r);subst e;exact zh P w x t
theorem qd1:∀{ks:List Key}{us:List Value},qL (ks.map kV) us->ItemsAre (qu P w) ks us
 | [],_,r=>by rw[List.map_nil] at r;cases r;exact .nil
 |k::ks,_,r=>by
  rw[Qc] at r;cases r with
  |cons h t=>exact .cons (qd0 h) (qd1 t)
abbrev KT(H:Hp):List (List Key×V)->List (List Key×Addr×Value)->Prop:=Paired λ p q=>p.1=q.1/\H q.2.1=some (.tup (p.1.map kV))/\qT p.2 q.2.2
theorem KT.val(r:KT H kvs xs)(k:List Key):qap (zU kvs k) ((atKey xs k).map (·.2)):=by
 induction r with
 |nil=>exact True.intro
 | @cons p q ps qs h t ih =>
  obtain⟨h1,_,h2⟩:=h;by_cases e:p.1=k
  ·have e':q.1=k:=h1.symm.trans e;have b:atKey (q::qs) k=some q.2:=by simp[atKey,U4,e']
   rw[qcH e,b];exact h2
  ·have e':¬ q.1=k:=λ z=>e (h1.trans z)
   have b:atKey (q::qs) k=atKey qs k:=by simp[atKey,U4,e']
   rw[qcI e,b];exact ih
theorem KT.repl(r:KT H kvs xs)(k:List Key)(ry:qT y u):
  KT H (kvs.map λ kv=>if kv.1=k then(kv.1,y) else kv) (xs.map (putAt k u)):=by
 induction r with
 |nil=>exact .nil
 | @cons p q ps qs h t ih =>
  rw[Qc,Qc];refine .cons ?_ ih;obtain⟨h1,h2,h3⟩:=h;unfold putAt;by_cases e:p.1=k
  ·rw[Vy e,Vy (h1.symm.trans e)];exact⟨h1,h2,ry⟩
  ·rw[Vz e,Vz (λ z=>e (h1.trans z))];exact⟨h1,h2,h3⟩
theorem KT.put(r:KT H kvs xs)(k:List Key)(hb:H b=some (.tup (k.map kV)))(ry:qT y u):
  KT H (y3 kvs k y) (storedH xs k b u):=by
 have e:(kvs.any λ kv=>decide (kv.1=k))=(atKey xs k).isSome:=by
  rw[vK,(r.val k).isSome_eq,Option.isSome_map]
 unfold y3 storedH;rw[e];by_cases q:(atKey xs k).isSome=true
 ·rw[Vy q,Vy q];exact r.repl k ry
 ·rw[Vz q,Vz q];exact Paired.snoc r ⟨rfl,hb,ry⟩
theorem KT.keeps(r:KT H kvs xs)(ht:∀ b ys,H b=some (.tup ys)->H' b=some (.tup ys)):KT H' kvs xs:=
 Paired.mapP r λ _ _ z=>⟨z.1,ht _ _ z.2.1,z.2.2⟩
section
variable {P:Program}{w:World}{H:Hp}{h:Heap}{a:Addr}
theorem qmG(ok:HOk P w H h)(e:Rd H a u):zp P w H h a u:=e.ok ok
theorem qhQ(ok:HOk P w H h)(e:Rd H a (.dK kvs)):kvs.length<=sizeLine/\(a == sysModules)=false/\∃ vs,KV kvs vs/\h.DictOf (qu P w) a vs:=
 show zp P w H h a (.dK kvs) from qmG ok e
theorem qfp(ok:HOk P w H h)(e:H a=some (.dK kvs)):kvs.length<=sizeLine/\(a == sysModules)=false/\∃ vs,KV kvs vs/\h.DictOf (qu P w) a vs:=qhQ ok (.inl e)
theorem qey(ok:HOk P w H h)(e:H a=some (.tup (ks.map kV))):(tupleKind (qu P w)).is h ks a:=by
 obtain⟨_,its,r,o,h1,h2,n,h3⟩:=(show zp P w H h a (.tup (ks.map kV)) from ok a _ e);exact⟨o,its.toArray,n,h1,h2,h3,by simpa using qd1 r⟩
theorem qhR(ok:HOk P w H h)(e:Rd H a (.dT kvs)):kvs.length<=sizeLine/\(a == sysModules)=false /\
  ∃ xs,KT H kvs xs/\h.DictOfH (tupleKind (qu P w)) a xs:=by
 obtain⟨z,y,xs,r,o,es,ep,h1,h2,h3,h4,h5⟩:=(show zp P w H h a (.dT kvs) from qmG ok e);refine⟨z,y,xs,r,o,es,ep,h1,h2,h3,h4,λ x hx=>?_,h5⟩;have all:∀{l:List (List Key×V)}{m:List (List Key×Addr×Value)},KT H l m->∀ x∈m,(tupleKind (qu P w)).is h x.1 x.2.1:=by
  intro l m q;induction q with
  |nil=>intro x hx;exact nomatch hx
  | @cons p q ps qs hq t ih =>
   intro x hx;rcases Qb.mp hx with e|hx
   ·subst e;exact qey ok (by rw[<- hq.1];exact hq.2.1)
   ·exact ih x hx
 exact all r x hx
theorem qn6(ok:HOk P w H h)(e:H a=some (.dT kvs)):kvs.length<=sizeLine/\(a == sysModules)=false /\
  ∃ xs,KT H kvs xs/\h.DictOfH (tupleKind (qu P w)) a xs:=qhR ok (.inl e)
end
def qa8(H:Hp)(a:Addr)(y:V)(r:Option V):Prop:=
 (∃ kvs k,Rd H a (.dK kvs)/\y=kV k/\r=zU kvs k)∨∃ kvs k b,Rd H a (.dT kvs)/\y=.ref b/\H b=some (.tup (k.map kV))/\r=zU kvs k
def qn7(H:Hp)(a:Addr)(y v:V)(H':Hp):Prop:=
 (∃ kvs k,H a=some (.dK kvs)/\y=kV k/\kvs.length<sizeLine/\H'=upd H a (.dK (y3 kvs k v))) ∨
 ∃ kvs k b,H a=some (.dT kvs)/\y=.ref b/\H b=some (.tup (k.map kV))/\kvs.length<sizeLine/\H'=upd H a (.dT (y3 kvs k v))
theorem qa8.k{k:Key}(e:H a=some (.dK kvs)):qa8 H a (kV k) (zU kvs k):=.inl ⟨kvs,k,.inl e,rfl,rfl⟩
section
variable {X:Cx}{pins:List (Addr×Obj)}{σ:St}{H:Hp}{s:Shared}{a:Addr}{y v:V}{u r:Value}{o:Option V}{A:Around}{E:Value->Shared->Prop}
theorem Inv.big(I:Inv X pins σ H s):sysModules<s.heap.objs.size:=by
 have h:mainGlobals<s.heap.objs.size:=(I.mod.glob.keeps I.bk).lt;exact Nat.lt_trans (by decide) h
theorem qiF(hu:A.units+1<cLine)(I:Inv X pins σ H s)(g:qa8 H a y (some v))(ry:qT y u)(h:∀ w' s',Inv X pins σ H s'->qT v w'->Q w' s'):
  wpAny (model X.prog X.w) A (getItem (.ref a) u) Q E s:=by
 rcases g with⟨kvs,k,e,ey,l⟩|⟨kvs,k,b,e,ey,eb,l⟩
 ·subst ey;obtain⟨z,hd,vs,rel,dd⟩:=qhQ I.hok e;obtain⟨w',hw,gP⟩:=qap.some_of (v:=v) (o:=valueAt vs k) (by rw[l];exact rel.val k);exact wpAny_getItem_of (qd0 ry) dd.mapOf hw (h w' _ (I.tok _) gP)
 ·subst ey;cases(show u=Value.ref b from ry)
  obtain⟨z,hd,xs,rel,dd⟩:=qhR I.hok e;obtain⟨w',hw,gP⟩:=qap.some_of (v:=v) (o:=(atKey xs k).map (·.2)) (by rw[l];exact rel.val k);obtain⟨p,hp,aP⟩:=Option.map_eq_some_iff.mp hw;refine wpAny_getItem_heap (tupleKind_room_in1 hu) (qey I.hok eb) dd hp ?_;rw[aP];exact h w' _ (I.tok _) gP
theorem qpa(hu:A.units+1<cLine)(I:Inv X pins σ H s)(g:qa8 H a y o)(ry:qT y u)(h:∀ s',Inv X pins σ H s'->Q (.bool o.isSome) s'):
  wpAny (model X.prog X.w) A (compareOp .In u (.ref a)) Q E s:=by
 rcases g with⟨kvs,k,e,ey,l⟩|⟨kvs,k,b,e,ey,eb,l⟩
 ·subst ey;obtain⟨z,hd,vs,rel,dd⟩:=qhQ I.hok e;refine wpAny_in_of (qd0 ry) hd dd.mapOf ?_;rw[<- (rel.val k).isSome_eq,<- l];exact h _ (I.tok _)
 ·subst ey;cases(show u=Value.ref b from ry)
  obtain⟨z,hd,xs,rel,dd⟩:=qhR I.hok e;refine wpAny_in_heap (tupleKind_room_in1 hu) (qey I.hok eb) hd dd ?_;have q:=(rel.val k).isSome_eq;rw[Option.isSome_map] at q;rw[<- q,<- l];exact h _ (I.tok _)
theorem qcm(I:Inv X pins σ H s)(mu:Mut (H a))(hs:Heap.SameBut a s.heap h')(he:∃ q,h'.get? a=some q)(new:zp X.prog X.w (upd H a ob) h' a ob):
  Inv X pins σ (upd H a ob) { s with heap:=h',toks:=t' }:=
 I.write (x:=a) (e:=a) mu (.inl rfl) (λ b q hb z=>(hs.2 b hb).trans z) he new
theorem qcJ(z:kvs.length<=sizeLine)(hd:(a == sysModules)=false)(rel:KV kvs vs)(dd:h'.DictOf (qu P w) a vs):
  zp P w H' h' a (.dK kvs):=⟨z,hd,vs,rel,dd⟩
theorem qiG(hu:A.units+1<cLine)(I:Inv X pins σ H s)(g:qn7 H a y v H')(ry:qT y u)(rv:qT v r)(h:∀ s',Inv X pins σ H' s'->Q () s'):
  wpAny (model X.prog X.w) A (setItem (.ref a) u r) Q E s:=by
 rcases g with⟨kvs,k,e,ey,l,eH⟩|⟨kvs,k,b,e,ey,eb,l,eH⟩
 ·subst ey eH;obtain⟨z,hd,vs,rel,dd⟩:=qfp I.hok e;have hz:vs.length<=sizeLine:=by rw[<- rel.length];exact z
  have hl:(y3 kvs k v).length<=sizeLine:=by have:=yI kvs k v;omega
  refine wpAny_setItem_pairs (hsz:=hz) (qd0 ry) dd λ h' gJ hs=>h _ ?_
  have he:∃ q,h'.get? a=some q:=let ⟨q,_,_,hq,_⟩:=gJ;⟨q,hq⟩;exact qcm I (by rw[e];exact True.intro) hs he (qcJ hl hd (rel.put k rv) gJ)
 ·subst ey eH;cases(show u=Value.ref b from ry)
  obtain⟨z,hd,xs,rel,dd⟩:=qn6 I.hok e;have hz:xs.length<=sizeLine:=by rw[<- Paired.length rel];exact z
  have hl:(y3 kvs k v).length<=sizeLine:=by have:=yI kvs k v;omega
  refine wpAny_setItem_heap (hsz:=hz) (tupleKind_room_in1 hu) (qey I.hok eb) dd λ h' gJ hs=>h _ ?_
  obtain⟨q,es,ep,hq,h2,h3,h4,_,h5⟩:=gJ;refine qcm I (by rw[e];exact True.intro) hs ⟨q,hq⟩ ⟨hl,hd,_,(rel.put k eb rv).keeps λ c ys ec=>?_,q,es,ep,hq,h2,h3,h4,h5⟩;rw[qp (qmC ec e (λ z=>nomatch z))];exact ec
end
def qm2(i:Expr):Prop:=∀ ov iv,subscripted i false ov iv=operate [ov,iv] (getItem ov iv)
theorem qhS {id:String}(hl:typeLookup (.type T) "__getitem__"=pure (some (.builtin id)))(hs:qm2 C8)(h:wpAny (model prog w) A (eval value env) (λ o s₁=>wpAny (model prog w) A (eval C8 env) (λ i s₂=>s₂.TypeIs o T/\wpAny (model prog w) A (getItem o i) Q E s₂) E s₁) E s):
  wpAny (model prog w) A (eval (.Subscript value C8 pos) env) Q E s:=by
 refine Subscript_ (Vd h (λ o s₁ h₁=>Vd h₁ (λ i s₂ h₂=>?_) λ _ _ x=>x) λ _ _ x=>x);obtain⟨hT,h₂⟩:=h₂;unfold subscriptTail;refine Ve ?_;rw[getitemInPython_of_ne hT.not_modules];refine Ve (Jk hT hl ?_);have fin:wpAny (model prog w) A (subscripted C8 false o i) (λ r s₃=>wpAny (model prog w) A (letTemporaryGo value o r >>= λ _=>pure r) Q E s₃) E s₂:=by
  rw[hs o i];exact wpAny_operating (Vd h₂ (λ r s₃ h₃=>Ve (wpAny_letTemporaryGo (Vg h₃))) λ _ _ x=>x)
 first
  |exact Vg (Ve fin)
  |exact Ve (Vg (Ve fin))
  |exact Ve fin
theorem qfq(I:Inv X pins σ H s)(g:qa8 H a y o):s.TypeIs (.ref a) "dict":=by
 rcases g with⟨kvs,k,e,_,_⟩|⟨kvs,k,b,e,_,_,_⟩
 ·obtain⟨_,_,vs,_,dd⟩:=qhQ I.hok e;exact dd.typeIs
 ·obtain⟨_,_,xs,_,dd⟩:=qhR I.hok e;exact dd.typeIs
def qn8(td ty:TE):TE:=λ σ H Q=>td σ H λ x H1=>ty σ H1 λ y H2=>∃ a v,x=.ref a/\qa8 H2 a y (some v)/\Q v H2
def qpb(ty td:TE):TE:=λ σ H Q=>ty σ H λ y H1=>td σ H1 λ x H2=>∃ a o,x=.ref a/\qa8 H2 a y o/\Q (.bl o.isSome) H2
def qn9(td ty tv:TE):TS:=λ D σ H=>tv σ H λ v H1=>td σ H1 λ x H2=>ty σ H2 λ y H3=>∃ a H4,x=.ref a/\qn7 H3 a y v H4/\D.nx σ H4
section
variable {X:Cx}{o i e value:Expr}{pos C5 B0:Pos}{td ty tv:TE}
theorem k7(hu:X.A.units+1<cLine)(ho:PE X o td)(hi:PE X i ty)(hs:qm2 i):PE X (.Subscript o i pos) (qn8 td ty):=by
 intro pins s σ H Q I h;refine qhS PySem.F.slot_dict_getitem.lookup hs (thn (ho pins s σ H _ I h) λ u s1 ⟨x,H1,I1,rx,q1⟩=>thn (hi pins s1 σ H1 _ I1 q1) λ iv s2 ⟨y,H2,I2,ry,a,v,ex,g,q2⟩=>?_);subst ex;obtain rfl:u=Value.ref a:=rx;exact⟨qfq I2 g,qiF hu I2 g ry λ w' s3 I3 gP=>⟨v,H2,I3,gP,q2⟩⟩
theorem qm3(hu:X.A.units+1<cLine)(hi:PE X i ty)(ho:PE X o td):PC X .In i o (qpb ty td):=by
 intro pins s σ H Q I h;refine thn (hi pins s σ H _ I h) λ iv s1 ⟨y,H1,I1,ry,q1⟩=>thn (ho pins s1 σ H1 _ I1 q1) λ u s2 ⟨x,H2,I2,rx,a,ov,ex,g,q2⟩=>?_
 subst ex;obtain rfl:u=Value.ref a:=rx;exact qpa hu I2 g ry λ s3 I3=>⟨.bl ov.isSome,H2,I3,rfl,q2⟩
theorem qcn(hu:X.A.units+1<cLine)(ho:PE X o td)(hi:PE X i ty)(hv:PE X value tv)(hs:swapsWith value (some (.Subscript o i C5)) pos.line X.env=pure false):
  PS X (.Assign [.Subscript o i C5] value pos) (qn9 td ty tv):=by
 intro pins s σ H D I h;refine wpAny_Assign_Subscript (thn (hv pins s σ H _ I h) λ r s1 ⟨v,H1,I1,rv,q1⟩=>thn (ho pins s1 σ H1 _ I1 q1) λ u s2 ⟨x,H2,I2,rx,q2⟩=>thn (hi pins s2 σ H2 _ I2 q2) λ iv s3 ⟨y,H3,I3,ry,a,H4,ex,g,q3⟩=>?_) hs;subst ex;obtain rfl:u=Value.ref a:=rx;exact qiG hu I3 g ry rv λ s4 I4=>⟨σ,H4,I4,q3⟩
end
theorem qfr(h:Heap)(hb:sysModules<h.objs.size):zp P w H (h.push { cls:=.type "dict",data:=.dict #[] }) h.objs.size (.dK []):=
 ⟨Q6 _,Y6.mpr (Vr (Qp hb)),[],.nil,Heap.DictOf.new h⟩
def qm4:TE:=λ _ H Q=>∀ p,H p=none->Q (.ref p) (upd H p (.dK []))
section
variable {X:Cx}{pos:Pos}
theorem qcK:PE X (.Dict [] [] pos) qm4:=λ pins s σ H Q I h =>
 wpAny_Dict_empty ⟨.ref s.heap.objs.size,_,I.laid (a:=s.heap.objs.size) (o:=.dK []) (t':=s.toks) (λ _ _ q=>XB _ q) (Q5 _) (qfr s.heap I.big),rfl,h _ (I.hok.fresh (Q5 _))⟩
end
def qgJ:List (TE×TE)->St->Hp->(List (V×V)->Hp->Prop)->Prop
 | [],_,H,Q=>Q [] H
 |(tk,tv)::r,σ,H,Q=>tk σ H λ x H1=>tv σ H1 λ y H2=>qgJ r σ H2 λ ps H3=>Q ((x,y)::ps) H3
abbrev VV:List (V×V)->List (Value×Value)->Prop:=Paired λ p q=>qT p.1 q.1/\qT p.2 q.2
def PPs(X:Cx)(pos:Pos)(keys:List (Option Expr))(K6:List Expr)(gM:List (TE×TE)):Prop:=
 ∀(pins:List (Addr×Obj))(s:Shared)(σ:St)(H:Hp)(Q:List (V×V)->Hp->Prop),Inv X pins σ H s->qgJ gM σ H Q ->
  wpAny (model X.prog X.w) X.A (evalPairs (pairTrees keys K6 X.env pos)) (λ vs s'=>∃ ps H',Inv X pins σ H' s'/\VV ps vs/\Q ps H') X.xe s
theorem qhT:PPs X pos [] [] []:=λ pins s σ H Q I h=>pairTrees_nil_walk ⟨[],H,I,.nil,h⟩
theorem jH(hk:PE X k tk)(hv:PE X v tv)(hr:PPs X pos ks vs gM):
  PPs X pos (some k::ks) (v::vs) ((tk,tv)::gM):=λ pins s σ H Q I h =>
 pairTrees_cons_walk (thn (hk pins s σ H _ I h) λ u s1 ⟨x,H1,I1,rx,q1⟩=>thn (hv pins s1 σ H1 _ I1 q1) λ w2 s2 ⟨y,H2,I2,ry,q2⟩ =>
  thn (hr pins s2 σ H2 _ I2 q2) λ ws s3 ⟨ps,H3,I3,rel,q3⟩=>⟨(x,y)::ps,H3,I3,.cons ⟨rx,ry⟩ rel,q3⟩)
noncomputable def qM(kvs more:List (Key×V)):List (Key×V):=more.foldl (λ c7 kv=>y3 c7 kv.1 kv.2) kvs
theorem KV.merge:∀{more:List (Key×V)}{rs:List (Key×Value)}{kvs:List (Key×V)}{vs:List (Key×Value)},KV more rs->KV kvs vs->KV (qM kvs more) (merged vs rs):=by
 intro more rs kvs vs r;unfold KV at r;induction r generalizing kvs vs with
 |nil=>intro q;exact q
 | @cons p q ps qs h t ih =>
  intro r0;have e:KV (y3 kvs p.1 p.2) (stored vs q.1 q.2):=by
   have:=r0.put p.1 h.2
   rw[<- h.1];exact this
  exact ih e
theorem yu:∀(more kvs:List (Key×V)),(qM kvs more).length<=kvs.length+more.length
 | [],kvs=>by show kvs.length<=kvs.length+0;omega
 |p::r,kvs=>by
  have h1:=yu r (y3 kvs p.1 p.2);have h2:=yI kvs p.1 p.2;show(qM (y3 kvs p.1 p.2) r).length<=_
  rw[Uc];omega
theorem qcL:∀{kvs:List (Key×V)}{ws:List (Value×Value)},VV (kvs.map λ kv=>(kV kv.1,kv.2)) ws->∃ rs,Carries (qu P w) ws rs/\KV kvs rs
 | [],_,r=>by rw[List.map_nil] at r;cases r;exact⟨[],True.intro,.nil⟩
 |p::kvs,_,r=>by
  rw[Qc] at r;cases r with
  | @cons a b as bs h t =>
   obtain⟨rs,c,q⟩:=qcL (P:=P) (w:=w) t;obtain⟨b1,b2⟩:=b;exact⟨(p.1,b2)::rs,⟨qd0 h.1,rfl,c⟩,.cons ⟨rfl,h.2⟩ q⟩
def qoa(gM:List (TE×TE)):TE:=λ σ H Q=>∀ p,H p=none->qgJ gM σ (upd H p (.dK [])) λ ps H2=>H2 p=some (.dK [])/\∃ kvs:List (Key×V),ps=kvs.map (λ kv=>(kV kv.1,kv.2))/\kvs.length<=15/\Q (.ref p) (upd H2 p (.dK (qM [] kvs)))
theorem qhU(h:PPs X pos keys K6 gM)(bS:keys.all (·.isSome)=true)(hl:keys.length=K6.length)(h0:keys≠[])(h15:keys.length<=15):PE X (.Dict keys K6 pos) (qoa gM):=by
 intro pins s σ H Q I q;have hn:=I.hok.fresh (Q5 s.heap.objs.size);have I1:=I.laid (a:=s.heap.objs.size) (o:=.dK []) (h':=s.heap.push { cls:=.type "dict",data:=.dict #[] }) (t':=s.toks) (λ _ _ q=>XB _ q) (Q5 _) (qfr s.heap I.big);refine wpAny_Dict_walk (knd:=qu X.prog X.w) bS hl h0 h15 (thn (h pins _ σ _ _ I1 (q _ hn)) λ ws s2 ⟨ps,H2,I2,rel,e,kvs,ep,lk,q2⟩=>?_);subst ep;obtain⟨rs,c,rk⟩:=qcL (P:=X.prog) (w:=X.w) rel;obtain⟨z,hd,vs0,r0,dd⟩:=qfp I2.hok e;cases r0
 refine⟨rs,c,dd,λ h' gJ hs=>⟨.ref s.heap.objs.size,_,?_,rfl,q2⟩⟩;have hz:(qM [] kvs).length<=sizeLine:=by
  have h1:=yu kvs [];rw[List.length_nil] at h1;rw[Q9];omega
 have he:∃ q,h'.get? s.heap.objs.size=some q:=let ⟨q,_,_,hq,_⟩:=gJ;⟨q,hq⟩;exact qcm I2 (by rw[e];exact True.intro) hs he (qcJ hz hd (rk.merge .nil) gJ)
end L2
namespace HT
open PySem PyProof.Rows
section
variable {prog:Program}{w:World}{A:Around}{E:Value->Shared->Prop}{s:Shared}
theorem cat_tup(ht:IsTup s.heap t vs.toArray)(hb:IsTup s.heap b ws.toArray)(hv:vs≠[])(h1:ws=[]->Q (.ref t) s)(h2:ws≠[]->Q (.ref s.heap.objs.size) { s with heap:=s.heap.push { cls:=.type "tuple",data:=.seq (vs++ws).toArray } })(hsz:vs.length+ws.length<=sizeLine):wpAny (model prog w) A (binaryOp .Add (.ref t) (.ref b)) Q E s:=by
 obtain⟨⟨cls,dd,data,sl⟩,ho,hc,n,hd⟩:=id ht;obtain⟨⟨cls2,nB,data2,xJ⟩,S6,oJ,n2,dW⟩:=id hb;simp only at hc hd oJ dW;subst hc hd oJ dW;have e:vs.toArray++ws.toArray=(vs++ws).toArray:=by simp
 by_cases hw:ws=[]
 ·exact concat_meets ⟨_,ho,rfl⟩ ⟨_,S6,rfl⟩ noFill_tuple_add seq_tuple_add XC X2 (Xu _ _)
   (tuple_addW1 t b vs.toArray ws.toArray n n2 dd nB sl xJ (by simpa using hv) (by simp[hw])) ⟨ho,S6,h1 hw⟩
 ·refine concat_meets ⟨_,ho,rfl⟩ ⟨_,S6,rfl⟩ noFill_tuple_add seq_tuple_add XC X2 (Xu _ _)
   (tuple_addW2 t b vs.toArray ws.toArray n n2 dd nB sl xJ (by simpa using hv) (by simpa using hw) (by rw[Zo,Zo];exact hsz)) ⟨ho,S6,?_⟩
  rw[e];exact h2 hw
noncomputable def sIx(n d:Nat):Option Int->Nat
 |none=>d
 |some v=>if v<0 then(v+(n:Int)).toNat else min v.toNat n
theorem sIx_nat(n d k:Nat):sIx n d (some (k:Int))=min k n:=by
 show(if (k:Int)<0 then((k:Int)+(n:Int)).toNat else min (k:Int).toNat n)=min k n
 rw[Vz (by omega),Zp]
end
end HT
namespace L2
open PySem PySem.Spec PyProof.Rows
abbrev TO:=St->Hp->(Option Int->Hp->Prop)->Prop
def PO(X:Cx)(e:Option Expr)(t:TO):Prop:=
 ∀(pins:List (Addr×Obj))(s:Shared)(σ:St)(H:Hp)(Q:Option Int->Hp->Prop),Inv X pins σ H s->t σ H Q ->
  wpAny (model X.prog X.w) X.A (evalPart e X.env) (λ u s'=>∃ o H',Inv X pins σ H' s'/\IsPart u o/\Q o H') X.xe s
def qlx:TO:=λ _ H Q=>Q none H
def qob(t:TE):TO:=λ σ H Q=>t σ H λ x H1=>∃ i,x=.int i/\Q (some i) H1
section
variable {X:Cx}{e:Expr}{te:TE}{lo hi:Option Expr}{tl th:TO}{pos p2:Pos}
theorem qhV:PO X none qlx:=by
 intro pins s σ H Q I h;rw[evalPart_none];exact Vg ⟨none,H,I,.none,h⟩
theorem qhW(h:PE X e te):PO X (some e) (qob te):=by
 intro pins s σ H Q I hw;rw[evalPart_some];refine thn (h pins s σ H _ I hw) λ u s1 ⟨x,H1,I1,r1,q1⟩=>?_
 obtain⟨i,rfl,q⟩:=q1;obtain⟨t,rfl⟩:=r1;exact⟨some i,H1,I1,.int i t,q⟩
def SlR(X:Cx)(r:V->Option Int->Option Int->Hp->VK->Prop):Prop:=
 ∀(pins:List (Addr×Obj))(s:Shared)(σ:St)(H:Hp)(x:V)(v vl vu:Value)(lo hi:Option Int)(sl:Addr)(Q:VK),Inv X pins σ H s->qT x v->s.heap.IsSliceOf sl vl vu .none->IsPart vl lo->IsPart vu hi->r x lo hi H Q ->
  ∃ T id,typeLookup (.type T) "__getitem__"=pure (some (.builtin id))/\s.TypeIs v T/\wpAny (model X.prog X.w) X.A (getItem v (.ref sl)) (EP X pins σ Q) X.xe s
def tSl(r:V->Option Int->Option Int->Hp->VK->Prop)(te:TE)(tl th:TO):TE:=λ σ H Q=>te σ H λ x H1=>tl σ H1 λ l H2=>th σ H2 λ u H3=>r x l u H3 Q
theorem qfs(hr:SlR X r)(he:PE X e te)(hl:PO X lo tl)(hu:PO X hi th):PE X (.Subscript e (.Slice lo hi none p2) pos) (tSl r te tl th):=by
 intro pins s σ H Q I h;refine Subscript_ (thn (he pins s σ H _ I h) λ v s1 ⟨x,H1,I1,r1,q1⟩=>?_);refine wpAny_Slice (thn (hl pins s1 σ H1 _ I1 q1) λ vl s2 ⟨l,H2,I2,pl,q2⟩=>thn (hu pins s2 σ H2 _ I2 q2) λ vu s3 ⟨u,H3,I3,pu,q3⟩=>?_);rw[evalPart_none];refine Vg ?_;have I4:Inv X pins σ H3 { s3 with heap:=s3.heap.push { cls:=.type "slice",data:=.fields #[vl,vu,.none] } }:=I3.kept (t':=s3.toks) λ b ob q=>XB _ q
 obtain⟨T,id,hT,ht,hg⟩:=hr pins { s3 with heap:=s3.heap.push { cls:=.type "slice",data:=.fields #[vl,vu,.none] } } σ H3 x v vl vu l u s3.heap.objs.size Q I4 r1 (Heap.IsSliceOf.new ..) pl pu q3;show wpAny (model X.prog X.w) X.A (subscriptTail e (.Slice lo hi none p2) v (.ref s3.heap.objs.size)) (EP X pins σ Q) X.xe { s3 with heap:=s3.heap.push { cls:=.type "slice",data:=.fields #[vl,vu,.none] } }
 exact tail_any (ops:=[.ref s3.heap.objs.size,v]) ht hT hg (by with_unfolding_all rfl)
noncomputable def qft(xs:List V)(lo hi:Option Int):List V:=(xs.drop (HT.sIx xs.length 0 lo)).take (HT.sIx xs.length xs.length hi-HT.sIx xs.length 0 lo)
theorem qfu(xs:List V)(lo hi:Option Int):(qft xs lo hi).length<=xs.length:=by
 unfold qft;rw[Ue,Uf];omega
end
noncomputable def ixN(n:Nat)(i:Int):Option Nat:=if 0<=i then(if i<n then some i.toNat else none) else if -(n:Int)<=i then some (i+n).toNat else none
noncomputable def atI{α:Type}(xs:List α)(i:Int):Option α:=(ixN xs.length i).bind λ j=>xs[j]?
theorem qhX(h:ixN n i=some j):seqIndex? i n=some j/\j<n/\-(n:Int)<=i/\i<n:=by
 unfold ixN at h;by_cases h0:0<=i
 ·rw[Vy h0] at h;by_cases h1:i<n
  ·rw[Vy h1] at h;have e:i.toNat=j:=Option.some.inj h;exact⟨by rw[seqIndex_of h0 h1,e],by omega,by omega,h1⟩
  ·rw[Vz h1] at h;cases h
 ·rw[Vz h0] at h;by_cases h1:-(n:Int)<=i
  ·rw[Vy h1] at h;have e:(i+n).toNat=j:=Option.some.inj h;exact⟨by rw[seqIndex_neg (by omega) h1,e],by omega,h1,by omega⟩
  ·rw[Vz h1] at h;cases h
theorem qez{xs:List α}{v:α}(h:atI xs i=some v):∃ j,seqIndex? i xs.length=some j/\xs[j]?=some v/\j<xs.length/\-(xs.length:Int)<=i/\i<xs.length:=by
 unfold atI at h;cases e:ixN xs.length i with
 |none=>rw[e] at h;cases h
 |some j =>
  rw[e] at h;obtain⟨h1,h2,h3,h4⟩:=qhX e;exact⟨j,h1,h,h2,h3,h4⟩
theorem jW{xs:List α}{j:Nat}{v:α}(h:xs[j]?=some v):atI xs (j:Int)=some v:=by
 have hj:j<xs.length:=(Xl.mp h).1;have e:ixN xs.length (j:Int)=some j:=by
  unfold ixN;rw[Vy (by omega),Vy (by omega)];simp
 unfold atI;rw[e];exact h
theorem vL(xs:List α)(v:α):atI (xs++[v]) (-1)=some v:=by
 have hl:(xs++[v]).length=xs.length+1:=by simp
 have e:ixN (xs++[v]).length (-1)=some xs.length:=by
  unfold ixN;rw[hl,Vz (by decide),Vy (by omega)];congr 1
  omega
 unfold atI;rw[e];show(xs++[v])[xs.length]?=some v
 simp
def qly(b:Expr):Prop:=∀ o i,subscripted b false o i=operate [o,i] (getItem o i)
def IxR(X:Cx)(r:R2):Prop:=
 ∀(value C8:Expr)(pins:List (Addr×Obj))(s:Shared)(σ:St)(H:Hp)(x y:V)(v u:Value)(Q:VK),Inv X pins σ H s->qT x v->qT y u->r x y H Q ->
  subscripted C8 false v u=operate [v,u] (getItem v u)->wpAny (model X.prog X.w) X.A (subscriptTail value C8 v u) (EP X pins σ Q) X.xe s
def MtR(X:Cx)(id:String)(r:V->List V->Hp->VK->Prop):Prop:=
 ∀(pins:List (Addr×Obj))(s:Shared)(σ:St)(H:Hp)(x:V)(xs:List V)(v:Value)(us:List Value)(Q:VK),Inv X pins σ H s->qT x v->qL xs us->r x xs H Q ->
  wpAny (model X.prog X.w) X.A (call (.builtin id) (v::us)) (EP X pins σ Q) X.xe s
section
variable {X:Cx}{a b:Expr}{ta tb:TE}{pos:Pos}
theorem qZ(hr:IxR X r)(ha:PE X a ta)(hb:PE X b tb)(hs:qly b):PE X (.Subscript a b pos) (tOp r ta tb):=by
 intro pins s σ H Q I h;exact Subscript_ (qmZ ha hb I h λ v u s2 x y H2 I2 rx ry q=>hr a b pins s2 σ H2 x y v u Q I2 rx ry q (hs _ _))
def qoc(K:W.Frag):R2:=λ x y H Q=>∃ p xs i v,x=.ref p/\y=.int i/\SqL K H p xs/\atI xs i=some v/\Q v H
def qlz(K:W.Frag):R2:=λ x y H Q=>∃ p xs i v,x=.ref p/\y=.int i/\SqT K H p xs/\atI xs i=some v/\Q v H
def qpc:R2:=λ x y H Q=>∃ z i c,x=.str z/\y=.int i/\z.length<=sizeLine/\atI z.cps.toList i=some c/\Q (.str ⟨#[c]⟩) H
theorem zz:IxR X (qoc X.K):=by
 intro value C8 pins s σ H x y v u Q I rx ry h hs;obtain⟨p,xs,i,z,rfl,rfl,hq,he,q⟩:=h;cases rx
 obtain⟨t,rfl⟩:=ry;obtain⟨its,r,pl,hz⟩:=I.list hq;obtain⟨j,h1,h2,h3,h4,h5⟩:=qez he;obtain⟨w,ew,gP⟩:=r.get h2;have hl:=r.length;have hn:=vJ;have fin:EP X pins σ Q w s:=⟨z,H,I,gP,q⟩;by_cases h0:0<=i
 ·have hj:i.toNat=j:=by
   rw[seqIndex_of h0 h5] at h1;exact Option.some.inj h1
  exact item_listR pl.isList h0 (by omega) (by rw[hj];simpa using ew) fin hs
 ·have hj:(i+(its.toArray.size:Int)).toNat=j:=by
   rw[seqIndex_neg (by omega) h4] at h1;rw[Zo,<- hl];exact Option.some.inj h1
  exact subscriptTail_builtinR (x:=w) pl.isList.typeIs slot_list_getitem.lookup
   (wpAny_getItem_list_neg (Q:=λ r s'=>r=w/\EP X pins σ Q r s') pl.isList (by omega) (by rw[Zo] <;> omega) (by omega) (by rw[hj];simpa using ew) ⟨rfl,fin⟩) hs
theorem zl:IxR X (qlz X.K):=by
 intro value C8 pins s σ H x y v u Q I rx ry h hs;obtain⟨p,xs,i,z,rfl,rfl,hq,he,q⟩:=h;cases rx
 obtain⟨t,rfl⟩:=ry;obtain⟨its,r,pl,hz⟩:=I.tuple hq;obtain⟨j,h1,h2,h3,h4,h5⟩:=qez he;obtain⟨w,ew,gP⟩:=r.get h2;have hl:=r.length;have hn:=vJ;have fin:EP X pins σ Q w s:=⟨z,H,I,gP,q⟩;exact subscriptTail_builtinR (x:=w) pl.typeIs slot_tuple_getitem.lookup
  (getItem_tuple (j:=j) (Q:=λ r s'=>r=w/\EP X pins σ Q r s') pl (by omega) (by omega) (by rw[Zo,<- hl];exact h1) (by simpa using ew) ⟨rfl,fin⟩) hs
theorem qm5:IxR X qpc:=by
 intro value C8 pins s σ H x y v u Q I rx ry h hs;obtain⟨z,i,c,rfl,rfl,hz,he,q⟩:=h;obtain⟨t,rfl⟩:=rx;obtain⟨t',rfl⟩:=ry;obtain⟨j,h1,h2,h3,h4,h5⟩:=qez he;have hl:z.cps.toList.length=z.length:=by simp[Str.length]
 rw[hl] at h1 h4 h5;have hn:=vJ;exact tail_any (Vi s z t) slot_str_getitem.lookup (getItem_str (c:=c) (by
  have e1:decide (i < -(2^63:Int))=false:=Jh (by omega);have e2:decide (i ≥ 2^63)=false:=Jh (by omega);rw[e1,e2,Qf]) (by rw[h1];simpa using h2) ⟨.str ⟨#[c]⟩,H,I.tok _,⟨_,rfl⟩,q⟩) hs
theorem qgK(its:List Value)(n j:Nat)(u:Value):Obj.mapSeq (·.setIfInBounds j u) { cls:=.type "list",data:=.seq its.toArray n }={ cls:=.type "list",data:=.seq (its.set j u).toArray n }:=by
 simp[Obj.mapSeq]
theorem Inv.lst{pins:List (Addr×Obj)}{σ:St}{H:Hp}{s:Shared}{p:Addr}{xs:List V}(I:Inv X pins σ H s)(h:H p=some (.lst xs)):
  ∃(its:List Value)(n:Nat),qL xs its/\s.heap.get? p=some { cls:=.type "list",data:=.seq its.toArray n }/\xs.length<=sizeLine:=by
 obtain⟨z,its,n,r,e⟩:=I.hok p _ h;exact⟨its,n,r,e,z⟩
theorem Inv.lstUpd {its:List Value}(I:Inv X pins σ H s)(h:H p=some (.lst xs))(ho:s.heap.get? p=some { cls:=.type "list",data:=.seq its.toArray n })(hf:f { cls:=.type "list",data:=.seq its.toArray n }={ cls:=.type "list",data:=.seq its'.toArray n' })(r:qL ys its')(hz:ys.length<=sizeLine)(t:Nat):
  Inv X pins σ (upd H p (.lst ys)) { s with heap:=s.heap.update p f,toks:=t }:=by
 have e:(s.heap.update p f).get? p=some { cls:=.type "list",data:=.seq its'.toArray n' }:=by
  rw[XQ f ho (by rw[hf] <;> rfl),hf]
 refine I.write (x:=p) (e:=p) (by rw[h];trivial) (.inl rfl) (λ b u hb q=>(XD _ _ (Vr hb)).trans q) ⟨_,e⟩ ?_;exact⟨hz,its',n',r,e⟩
def qod:V->V->V->Hp->(Hp->Prop)->Prop:=λ o i v H Q=>∃ p xs k j,o=.ref p/\i=.int k/\H p=some (.lst xs)/\ixN xs.length k=some j/\Q (upd H p (.lst (xs.set j v)))
theorem qa9:qnV X qod:=by
 intro pins s σ H o i v ov iv u Q I ro ri rv h;obtain⟨p,xs,k,j,rfl,rfl,hp,hj,q⟩:=h;cases ro
 obtain⟨t,rfl⟩:=ri;obtain⟨its,n,r,ho,hz⟩:=I.lst hp;obtain⟨h1,h2,h3,h4⟩:=qhX hj;have hl:=r.length;have hn:=vJ;have I':Inv X pins σ (upd H p (.lst (xs.set j v))) { s with heap:=s.heap.update p (Obj.mapSeq (·.setIfInBounds j u)) }:=
  I.lstUpd hp ho (qgK its n j u) (r.set rv j) (by rw[List.length_set];exact hz) s.toks
 by_cases h0:0<=k
 ·have hk:k.toNat=j:=by
   rw[seqIndex_of h0 h4] at h1;exact Option.some.inj h1
  exact W.ki_setAt ho h0 (by omega) (by rw[Zo,<- hl];exact h4) (by rw[hk];exact⟨_,I',q⟩)
 ·have hk:(k+(its.toArray.size:Int)).toNat=j:=by
   rw[seqIndex_neg (by omega) h3] at h1;rw[Zo,<- hl];exact Option.some.inj h1
  exact W.ki_setBack ho (by omega) (by rw[Zo,<- hl];exact h3) (by omega) (by rw[hk];exact⟨_,I',q⟩)
theorem qeA(lo hi:Option Int)(n:Nat):(sliceBounds lo hi none n).1=((HT.sIx n 0 lo:Nat):Int)/\(sliceBounds lo hi none n).2.1=((HT.sIx n n hi:Nat):Int)/\(sliceBounds lo hi none n).2.2=1:=by
 refine⟨?_,?_,rfl⟩
 ·cases lo with
  |none=>simp[sliceBounds,HT.sIx]
  |some i =>
   simp only[sliceBounds,HT.sIx,Option.getD_none,show(1:Int) > 0 by decide,Vv];by_cases h:i<0
   ·simp only[h,Vv] <;> omega
   ·simp only[h,Vn] <;> omega
 ·cases hi with
  |none=>simp[sliceBounds,HT.sIx]
  |some i =>
   simp only[sliceBounds,HT.sIx,Option.getD_none,show(1:Int) > 0 by decide,Vv];by_cases h:i<0
   ·simp only[h,Vv] <;> omega
   ·simp only[h,Vn] <;> omega
theorem qdK(its:List Value)(lo hi:Option Int):slicePick its.toArray lo hi none=((its.drop (HT.sIx its.length 0 lo)).take (HT.sIx its.length its.length hi-HT.sIx its.length 0 lo)).toArray:=by
 obtain⟨h1,h2,h3⟩:=qeA lo hi its.toArray.size;unfold slicePick;rw[h1,h2,h3];simp only[sliceRange_one,pick_run,Zo] <;> rfl
def qpd(K:W.Frag):V->Option Int->Option Int->Hp->VK->Prop:=λ x lo hi H Q=>∃ a xs,x=.ref a/\SqL K H a xs/\∀ p,H p=none->Q (.ref p) (upd H p (.lst (qft xs lo hi)))
theorem qhY:SlR X (qpd X.K):=by
 intro pins s σ H x v vl vu lo hi sl Q I rx hs pl pu h;obtain⟨a,xs,rfl,hx,q⟩:=h;cases rx
 obtain⟨its,r,ht,hz⟩:=I.list hx;have c9:=r.length;refine⟨"list",_,slot_list_getitem.lookup,ht.isList.typeIs,?_⟩;refine wpAny_getItem_list_slice ht.isList hs pl pu .none (by simp) ?_ (by rw[Zo] <;> omega);rw[qdK,<- c9];refine⟨.ref s.heap.objs.size,_,I.laid (t':=s.toks) (o:=.lst (qft xs lo hi)) (λ b ob q=>XB _ q) (Q5 _) ?_,rfl,q _ (I.hok.fresh (Q5 _))⟩;exact⟨Qq (qfu xs lo hi) hz,_,0,(r.drop (HT.sIx xs.length 0 lo)).take (HT.sIx xs.length xs.length hi-HT.sIx xs.length 0 lo),Yt _ rfl⟩
noncomputable def qau:V->Bool
 |.non=>true
 |.bl _=>true
 |.int _=>true
 |.str _=>true
 |_=>false
noncomputable def eqV:V->V->Bool
 |.non,.non=>true
 |.bl a,.bl b=>a == b
 |.bl a,.int b=>(if a then 1 else 0) == b
 |.int a,.bl b=>a == (if b then 1 else 0)
 |.int a,.int b=>a == b
 |.str a,.str b=>a == b
 |_,_=>false
theorem qjC(ry:qT y u)(rx:qT x v)(fy:qau y=true)(fx:qau x=true):SeqAt.EqAt A s u v (eqV y x):=by
 cases y with
 |non =>
  cases ry
  cases x with
  |non=>cases rx;exact SeqAt.EqAt.same _
  |bl b=>cases rx;exact SeqAt.EqAt.none_bool b
  |int b=>obtain⟨t,rfl⟩:=rx;exact SeqAt.EqAt.none_int b t
  |str b=>obtain⟨t,rfl⟩:=rx;exact SeqAt.EqAt.none_str b t
  |_=>exact absurd (show false=true from fx) Za
 |bl a =>
  cases ry
  cases x with
  |non=>cases rx;exact SeqAt.EqAt.bool_none a
  |bl b=>cases rx;exact SeqAt.EqAt.bool_bool a b
  |int b=>obtain⟨t,rfl⟩:=rx;exact SeqAt.EqAt.bool_int a b t
  |str b=>obtain⟨t,rfl⟩:=rx;exact SeqAt.EqAt.bool_str a b t
  |_=>exact absurd (show false=true from fx) Za
 |int a =>
  obtain⟨t',rfl⟩:=ry;cases x with
  |non=>cases rx;exact SeqAt.EqAt.int_none a t'
  |bl b=>cases rx;exact SeqAt.EqAt.int_bool a t' b
  |int b=>obtain⟨t,rfl⟩:=rx;exact SeqAt.EqAt.int_int a t' b t
  |str b=>obtain⟨t,rfl⟩:=rx;exact SeqAt.EqAt.int_str a t' b t
  |_=>exact absurd (show false=true from fx) Za
 |str a =>
  obtain⟨t',rfl⟩:=ry;cases x with
  |non=>cases rx;exact SeqAt.EqAt.str_none a t'
  |bl b=>cases rx;exact SeqAt.EqAt.str_bool a t' b
  |int b=>obtain⟨t,rfl⟩:=rx;exact SeqAt.EqAt.str_int a t' b t
  |str b=>obtain⟨t,rfl⟩:=rx;exact SeqAt.EqAt.str_str a t' b t
  |_=>exact absurd (show false=true from fx) Za
 |_=>exact absurd (show false=true from fy) Za
noncomputable def eqU(x:V)(u:Value):Bool:=match u with
 |.none=>eqV .non x
 |.bool b=>eqV (.bl b) x
 |.int i _=>eqV (.int i) x
 |.str z _=>eqV (.str z) x
 |_=>false
theorem qjD(r:qT y u)(f:qau y=true):eqU x u=eqV y x:=by
 cases y with
 |non=>cases r;rfl
 |bl b=>cases r;rfl
 |int i=>obtain⟨t,rfl⟩:=r;rfl
 |str z=>obtain⟨t,rfl⟩:=r;rfl
 |_=>exact absurd (show false=true from f) Za
theorem qeB:∀{xs:List V}{us:List Value},qL xs us->xs.all qau=true->us.any (eqU x)=xs.any λ y=>eqV y x
 |_,_,.nil,_=>rfl
 |y::xs,u::us,.cons r t,f=>by
  rw[Qg,Ug] at f;rw[Qd,Qd,qjD r f.1,qeB t f.2]
theorem qcM(rx:qT x v)(fx:qau x=true):∀{xs:List V}{us:List Value},qL xs us->xs.all qau=true->∀ u∈us,SeqAt.EqAt A s u v (eqU x u)
 |_,_,.nil,_=>λ u hu=>by cases hu
 |y::xs,u::us,.cons r t,f=>λ u' hu=>by
  rw[Qg,Ug] at f;rcases Qb.mp hu with rfl|hu
  ·rw[qjD r f.1];exact qjC r rx f.1 fx
  ·exact qcM rx fx t f.2 u' hu
noncomputable def inV(x:V)(xs:List V):Bool:=xs.any λ y=>eqV y x
def rIn(K:W.Frag)(neg:Bool):R2:=λ x y H Q=>∃ p xs,y=.ref p/\(SqL K H p xs∨SqT K H p xs)/\qau x=true/\xs.all qau=true/\Q (.bl (if neg then !inV x xs else inV x xs)) H
theorem qiH:OpR X (compareOp .In) (rIn X.K false):=by
 intro pins s σ H x y v u Q I rx ry h;obtain⟨p,xs,rfl,hq,fx,fs,q⟩:=h;cases ry
 rcases hq with hq|hq
 ·obtain⟨its,r,pl,hz⟩:=I.list hq;refine SeqAt.in_listAt (eqU x) pl.isList (λ w hw=>qcM rx fx r fs w (by simpa using hw)) ⟨.bl _,H,I,rfl,?_⟩;rw[show its.toArray.any (eqU x)=its.any (eqU x) by simp,qeB r fs];exact q
 ·obtain⟨its,r,pl,hz⟩:=I.tuple hq;refine SeqAt.in_tupleAt (eqU x) pl (λ w hw=>qcM rx fx r fs w (by simpa using hw)) ⟨.bl _,H,I,rfl,?_⟩;rw[show its.toArray.any (eqU x)=its.any (eqU x) by simp,qeB r fs];exact q
theorem qeC:OpR X (compareOp .NotIn) (λ x y H Q=>∃ i j,x=.str i/\y=.str j/\Q (.bl (!(!(Builtin.Str.occurrences j i 0 j.length 1).isEmpty))) H):=by
 intro pins s σ H x y v u Q I rx ry h;obtain⟨i,j,rfl,rfl,q⟩:=h;obtain⟨t,rfl⟩:=rx;obtain⟨t',rfl⟩:=ry;exact notIn_str ⟨.bl _,H,I,rfl,q⟩
theorem qz:yG X (.builtin "len") (λ xs H Q=>∃ p ys,xs=[.ref p]/\(SqL X.K H p ys∨SqT X.K H p ys)/\Q (.int ys.length) H):=by
 intro pins s σ H xs us Q I r h;obtain⟨p,ys,rfl,hq,q⟩:=h;obtain⟨u,rfl,rx⟩:=zT r;cases rx
 have hn:=vJ;rcases hq with hq|hq
 ·obtain⟨its,r',pl,hz⟩:=I.list hq;have c9:=r'.length;exact Calls.call_len_list pl.isList (by simp only[Zo] <;> omega) ⟨.int ys.length,H,I.tok _,⟨s.toks+1,by rw[Zo,c9]⟩,q⟩
 ·obtain⟨its,r',pl,hz⟩:=I.tuple hq;have c9:=r'.length;exact len_tuple pl (by simp only[Zo] <;> omega) ⟨.int ys.length,H,I.tok _,⟨s.toks+1,by rw[Zo,c9]⟩,q⟩
theorem zQ:yG X (.builtin "len") (λ xs H Q=>∃ z,xs=[.str z]/\z.length<=sizeLine/\Q (.int z.length) H):=by
 intro pins s σ H xs us Q I r h;obtain⟨z,rfl,hz,q⟩:=h;obtain⟨u,rfl,t,rfl⟩:=zT r;have hn:=vJ;exact len_str (by omega) ⟨.int z.length,H,I.tok _,⟨_,rfl⟩,q⟩
theorem jX:yG X (.type "list") (λ xs H Q=>∃ p ys,xs=[.ref p]/\(SqL X.K H p ys∨SqT X.K H p ys)/\∀ l,H l=none->Q (.ref l) (upd H l (.lst ys))):=by
 intro pins s σ H xs us Q I r h;obtain⟨p,ys,rfl,hq,q⟩:=h;obtain⟨u,rfl,rx⟩:=zT r;cases rx
 have fin:∀(its:List Value),qL ys its->ys.length<=sizeLine->∀(h':Heap)(c':Nat),(∀ b o',s.heap.get? b=some o'->h'.get? b=some o') ->
   h'.get? s.heap.objs.size=some { cls:=.type "list",dict:=none,data:=.seq its.toArray c',slots:=#[] }->EP X pins σ Q (.ref s.heap.objs.size) { s with heap:=h' }:=λ its r' hz h' c' kp e =>
  ⟨.ref s.heap.objs.size,_,I.laid (t':=s.toks) kp (Q5 _) (show zp X.prog X.w _ h' _ (.lst ys) from⟨hz,its,c',r',e⟩),rfl,q _ (I.hok.fresh (Q5 _))⟩
 rcases hq with hq|hq
 ·obtain⟨its,r',pl,hz⟩:=I.list hq;have c9:=r'.length;obtain⟨o,ho,hc,n,hd⟩:=pl.isList;exact call_list_seq p (.inl rfl) ho hc hd (λ h' c' kp e=>fin its r' hz h' c' kp e) (by simp only[Zo] <;> omega)
 ·obtain⟨its,r',pl,hz⟩:=I.tuple hq;have c9:=r'.length;obtain⟨o,ho,hc,n,hd⟩:=pl;exact call_list_seq p (.inr rfl) ho hc hd (λ h' c' kp e=>fin its r' hz h' c' kp e) (by simp only[Zo] <;> omega)
theorem qav:yG X (.type "tuple") (λ xs H Q=>∃ p ys,xs=[.ref p]/\((SqL X.K H p ys/\∀ l,H l=none->Q (.ref l) (upd H l (.tup ys)))∨(SqT X.K H p ys/\Q (.ref p) H))):=by
 intro pins s σ H xs us Q I r h;obtain⟨p,ys,rfl,h⟩:=h;obtain⟨u,rfl,rx⟩:=zT r;cases rx
 rcases h with⟨hq,q⟩|⟨hq,q⟩
 ·obtain⟨its,r',pl,hz⟩:=I.list hq;have c9:=r'.length;refine call_tuple_list pl.isList (λ h' kp=>?_) (by simp only[Zo] <;> omega);have I1:Inv X pins σ H { s with heap:=h' }:=I.kept (t':=s.toks) kp;have I2:Inv X pins σ (upd H h'.objs.size (.tup ys)) { s with heap:=h'.push { cls:=.type "tuple",data:=.seq its.toArray } }:=
   I1.laid (t':=s.toks) (λ b o e=>XB _ e) (Q5 _) (show zp X.prog X.w _ _ _ (.tup ys) from⟨hz,its,r',IsTup.new _ _⟩)
  exact⟨.ref h'.objs.size,_,I2,rfl,q _ (I1.hok.fresh (Q5 _))⟩
 ·obtain⟨its,r',pl,hz⟩:=I.tuple hq;exact call_tuple_same pl ⟨.ref p,H,I,rfl,q⟩
def tyV(K:W.Frag)(T:String)(x:V)(H:Hp):Prop:=match x with
 | .str _=>T="str"
 | .int _=>T="int"
 | .ref p=>(T="list"/\∃ xs,SqL K H p xs)∨(T="tuple"/\∃ o,K.lookup p=some o/\o.cls=.type "tuple"/\o.dict=none) ∨
   (T="dict"/\((∃ kvs,H p=some (.dK kvs))∨∃ kvs,H p=some (.dT kvs)))∨(T="set"/\∃ S n,H p=some (.set S n))
 |_=>False
theorem qgL(I:Inv X pins σ H s)(r:qT x v)(ty:tyV X.K T x H):
  s.TypeIs v T/\∀ a,v=.ref a->∃ ob,s.heap.get? a=some ob/\ob.dict=none:=by
 cases x with
 |str z =>
  obtain⟨t,rfl⟩:=r;cases(show T="str" from ty)
  exact⟨Vi s z t,λ _ e=>nomatch e⟩
 |int i =>
  obtain⟨t,rfl⟩:=r;cases(show T="int" from ty)
  exact⟨typeIs_int s i t,λ _ e=>nomatch e⟩
 |ref p =>
  cases r
  rcases ty with⟨rfl,xs,hq⟩|⟨rfl,o,hk,hc,hd⟩|⟨rfl,hk⟩|⟨rfl,S,n,hk⟩
  ·obtain⟨its,_,pl,_⟩:=I.list hq;refine⟨pl.isList.typeIs,λ a e=>?_⟩;cases e
   obtain⟨o,n,e,c,hd,_⟩:=pl;exact⟨o,e,hd⟩
  ·refine⟨⟨o,I.kIn p o hk,hc⟩,λ a e=>?_⟩;cases e
   exact⟨o,I.kIn _ o hk,hd⟩
  ·have z:∃ o,s.heap.get? p=some o/\o.ExactDict:=by
    rcases hk with⟨kvs,hk⟩|⟨kvs,hk⟩
    ·obtain⟨_,_,_,_,o,_,_,e,ex,_⟩:=I.hok p _ hk;exact⟨o,e,ex⟩
    ·obtain⟨_,_,_,_,o,_,_,e,ex,_⟩:=I.hok p _ hk;exact⟨o,e,ex⟩
   obtain⟨o,e,ex⟩:=z;refine⟨⟨o,e,ex.1⟩,λ a e2=>?_⟩;cases e2
   exact⟨o,e,ex.2.1⟩
  ·obtain⟨o,_,_,_,e,ex,_⟩:=I.hok p _ hk;refine⟨⟨o,e,ex.1⟩,λ a e2=>?_⟩;cases e2
   exact⟨o,e,ex.2.1⟩
 |_=>exact False.elim ty
def qpe(K:W.Frag)(T:String)(r:V->List V->Hp->VK->Prop)(to:TE):TE:=λ σ H Q=>to σ H λ x H1=>tyV K T x H1/\r x [] H1 Q
def tBM(K:W.Frag)(T:String)(r:V->List V->Hp->VK->Prop)(to:TE)(t:TA):TE:=λ σ H Q=>to σ H λ x H1=>tyV K T x H1/\t σ H1 λ xs H2=>r x xs H2 Q
variable {o e:Expr}{es:List Expr}{to:TE}{t:TA}{name:Str}{w5 C7:Pos}{T id:String}{r:V->List V->Hp->VK->Prop}
theorem qcN(pa:PlainAttrs T)(slot:Slot T name id)(hty:typeOf (.builtin id)=pure (.type "method_descriptor"))(hm:MtR X id r)(ho:PE X o to)(T3:attributeBase o name X.env (eval o X.env)=eval o X.env:=by rfl)(S7:(w5.endLine == C7.line)=true:=by rfl):PE X (.Call (.Attribute o name w5) [] [] C7) (qpe X.K T r to):=by
 intro pins s σ H Q I h;refine wpAny_Call_method0_late T3 S7 (thn (ho pins s σ H _ I h) λ v s1 ⟨x,H1,I1,r1,ty,q1⟩=>?_);obtain⟨h1,h2⟩:=qgL I1 r1 ty;exact⟨T,id,pa,slot,hty,h1,h2,XE rfl (PySem.evalArgs_none (hm pins s1 σ H1 x [] v [] Q I1 r1 .nil q1))⟩
theorem yW(pa:PlainAttrs T)(slot:Slot T name id)(hty:typeOf (.builtin id)=pure (.type "method_descriptor"))(hm:MtR X id r)(ho:PE X o to)(ha:PA X (e::es) t)(T3:attributeBase o name X.env (eval o X.env)=eval o X.env:=by rfl)(hfew:((backTo C7 (starEach (e::es) X.env)).all (λ x=>!x.1) && (backToKw C7 (keywordEach [] X.env)).all (λ x=>x.1.isSome)
   && decide ((e::es).length+([]:List Keyword).length+(if ([]:List Keyword).isEmpty then 0 else 1)<30))=true:=by rfl)(S7:(w5.endLine == C7.line)=true:=by rfl)(hs:starEach (e::es) X.env=(false,eval e X.env)::starEach es X.env:=by rfl)(O5:(backTo C7 (starEach es X.env)).any (·.1)=false:=by rfl):
  PE X (.Call (.Attribute o name w5) (e::es) [] C7) (tBM X.K T r to t):=by
 intro pins s σ H Q I h;refine wpAny_Call_method_late T3 hfew S7 rfl (thn (ho pins s σ H _ I h) λ v s1 ⟨x,H1,I1,r1,ty,q1⟩=>?_);obtain⟨h1,h2⟩:=qgL I1 r1 ty;refine⟨T,id,pa,slot,hty,h1,h2,?_⟩;have hA:=ha C7 pins s1 σ H1 _ I1 q1;rw[hs] at hA ⊢;refine XE (by show(false || (backTo C7 (starEach es X.env)).any (·.1))=false;rw[O5] <;> rfl) (Calls.evalArgs_plain ?_);exact thn hA λ us s2 ⟨vs,H2,I2,r2,q2⟩=>hm pins s2 σ H2 x vs v us Q I2 r1 r2 q2
end
def MtM(X:Cx)(id:String)(r:V->List V->Hp->VK->Prop):Prop:=
 ∀(pins:List (Addr×Obj))(s:Shared)(σ:St)(H:Hp)(x:V)(xs:List V)(v:Value)(us:List Value)(Q:VK),Inv X pins σ H s->qT x v->qL xs us->r x xs H Q ->
  wpAny (model X.prog X.w) X.A (call (.builtin id) (v::us)) (EP X pins σ Q) X.xe s
theorem qL.one:∀{x:V}{us:List Value},qL [x] us->∃ u,us=[u]/\qT x u
 |_,_,.cons r .nil=>⟨_,rfl,r⟩
theorem qL.zero:∀{us:List Value},qL [] us->us=[]
 |_,.nil=>rfl
theorem qL.dropLast(h:qL xs us):qL xs.dropLast us.dropLast:=by
 induction h with
 |nil=>exact .nil
 |cons r t ih =>
  cases t with
  |nil=>exact .nil
  |cons q t'=>exact .cons r ih
theorem qgM{α:Type}(l:List α):l.eraseIdx (l.length-1)=l.dropLast:=by
 induction l with
 |nil=>rfl
 |cons a r ih =>
  cases r with
  |nil=>rfl
  |cons b r =>
   have e:(a::b::r).length-1=((b::r).length-1)+1:=by
    have h1:(a::b::r).length=r.length+2:=rfl;have h2:(b::r).length=r.length+1:=rfl;omega
   rw[e,X3,ih]
   all_goals rfl
section
variable {X:Cx}{pins:List (Addr×Obj)}{σ:St}{H:Hp}{s:Shared}{l b:Addr}{xs ys zs:List V}
theorem Inv.lset {its:List Value}(I:Inv X pins σ H s)(hH:H l=some (.lst xs))(e:s.heap.get? l=some { cls:=.type "list",data:=.seq its.toArray n })(hf:f its.toArray=its'.toArray)(hv:qL ys its')(hz:ys.length<=sizeLine):
  Inv X pins σ (upd H l (.lst ys)) { s with heap:=s.heap.update l (Obj.mapSeq f),toks:=t' }:=by
 have q:=PySem.IsL.update e f;rw[hf] at q;refine I.write (x:=l) (e:=l) (by rw[hH];exact trivial) (.inl rfl) (λ b' u hb hu=>(XD s.heap (Obj.mapSeq f) (Vr hb)).trans hu) ⟨_,q⟩ ?_;exact⟨hz,its',_,hv,q⟩
theorem Inv.lnew(I:Inv X pins σ H s)(hv:qL ys its)(hz:ys.length<=sizeLine):
  Inv X pins σ (upd H s.heap.objs.size (.lst ys)) { s with heap:=s.heap.push { cls:=.type "list",data:=.seq its.toArray },toks:=t' }:=
 I.laid (λ _ _ q=>XB _ q) (Q5 _) ⟨hz,its,0,hv,Yt _ rfl⟩
theorem Inv.fresh(I:Inv X pins σ H s):H s.heap.objs.size=none:=I.hok.fresh (Q5 _)
theorem Inv.lstM(I:Inv X pins σ H s)(hH:H l=some (.lst xs)):xs.length<=sizeLine/\∃(its:List Value)(n:Nat),qL xs its/\xs.length=its.length/\s.heap.get? l=some { cls:=.type "list",data:=.seq its.toArray n }:=by
 obtain⟨z,its,n,r,e⟩:=I.hok l _ hH;exact⟨z,its,n,r,r.length,e⟩
theorem qjE(h:n<=sizeLine):Builtin.List.listTooLong n=false:=by
 unfold Builtin.List.listTooLong;exact Jh (by omega)
end
section
variable {X:Cx}
def qlA:V->List V->Hp->VK->Prop:=λ x vs H Q=>∃ l xs y,x=.ref l/\vs=[y]/\H l=some (.lst xs)/\xs.length<sizeLine/\Q .non (upd H l (.lst (xs++[y])))
theorem yb:MtM X "list.append" qlA:=by
 intro pins s σ H x vs v us Q I rx rv h;obtain⟨l,xs,y,rfl,rfl,hH,hz,q⟩:=h;cases rx
 obtain⟨u,rfl,ru⟩:=rv.one;obtain⟨z,its,n,r,hl,e⟩:=I.lstM hH;refine Vj F.slot_list_append ⟨_,e,rfl⟩ F.entry_list_append (F.args_list_append_2 _ _) (PySem.list_append l its.toArray n u (by rw[Zo];omega)) ⟨e,?_⟩;refine⟨.non,_,I.lset (its':=its++[u]) hH e (by simp) (r.append (.cons ru .nil)) ?_,rfl,q⟩;rw[Zb,XR];omega
def qlB:V->List V->Hp->VK->Prop:=λ x vs H Q=>∃ l b xs zs,x=.ref l/\vs=[.ref b]/\H l=some (.lst xs)/\H b=some (.lst zs)/\xs.length+zs.length<=sizeLine/\Q .non (upd H l (.lst (xs++zs)))
theorem qiI:MtM X "list.extend" qlB:=by
 intro pins s σ H x vs v us Q I rx rv h;obtain⟨l,b,xs,zs,rfl,rfl,hH,hB,hz,q⟩:=h;cases rx
 obtain⟨u,rfl,ru⟩:=rv.one;cases ru
 obtain⟨z,its,n,r,hl,e⟩:=I.lstM hH;obtain⟨z2,o8,n2,r2,S8,e2⟩:=I.lstM hB;have hsz:its.toArray.size+o8.toArray.size<=sizeLine:=by rw[Zo,Zo];omega
 have tQ:¬ (!its.toArray.isEmpty && Builtin.List.listTooLong (its.toArray.size+o8.toArray.size))=true:=by
  rw[qjE hsz,Js];exact Za
 refine Vj F.slot_list_extend ⟨_,e,rfl⟩ F.entry_list_extend (F.args_list_extend_2 _ _)
  (AutoSeq1.list_extend_list_list_0 l its.toArray n b o8.toArray n2 tQ (by rw[Zo];omega) (by omega)) ⟨e,e2,?_⟩
 refine⟨.non,_,I.lset (its':=its++o8) hH e (by simp) (r.append r2) ?_,rfl,q⟩;rw[Zb];omega
def qpf:V->List V->Hp->VK->Prop:=λ x vs H Q=>∃ l xs y,x=.ref l/\vs=[]/\H l=some (.lst xs)/\xs[xs.length-1]?=some y/\Q y (upd H l (.lst xs.dropLast))
theorem qeD:MtM X "list.pop" qpf:=by
 intro pins s σ H x vs v us Q I rx rv h;obtain⟨l,xs,y,rfl,rfl,hH,hy,q⟩:=h;cases rx
 have hus:=rv.zero;subst hus;obtain⟨z,its,n,r,hl,e⟩:=I.lstM hH;obtain⟨u,hu,ru⟩:=r.get hy;have sR:its.toArray[its.toArray.size-1]?=some u:=by
  show its.toArray[its.length-1]?=some u
  rw[<- XS,<- hl];exact hu
 refine Vj F.slot_list_pop ⟨_,e,rfl⟩ F.entry_list_pop (F.args_list_pop_1 _) (MeetsSeq.list_pop_last l its.toArray n u sR (by rw[Zo];omega)) ⟨e,?_⟩;refine⟨y,_,I.lset (its':=its.dropLast) hH e ?_ r.dropLast ?_,ru,q⟩
 ·show its.toArray.eraseIdxIfInBounds (its.toArray.size-1)=its.dropLast.toArray
  rw[Zo,List.eraseIdxIfInBounds_toArray,qgM]
 ·rw[List.length_dropLast];omega
def qm6:V->List V->Hp->VK->Prop:=λ x vs H Q=>∃ l xs,x=.ref l/\vs=[]/\H l=some (.lst xs)/\Q .non (upd H l (.lst []))
theorem qjF:MtM X "list.clear" qm6:=by
 intro pins s σ H x vs v us Q I rx rv h;obtain⟨l,xs,rfl,rfl,hH,q⟩:=h;cases rx
 have hus:=rv.zero;subst hus;obtain⟨z,its,n,r,hl,e⟩:=I.lstM hH;refine Vj F.slot_list_clear ⟨_,e,rfl⟩ F.entry_list_clear (F.args_list_clear_1 _) (AutoSeq1.list_clear_list_0 l its.toArray n (by rw[Zo];omega)) ⟨e,?_⟩;exact⟨.non,_,I.lset (its':=[]) (ys:=[]) hH e rfl .nil (Q6 _),rfl,q⟩
def qpg:R2:=λ x y H Q=>∃ l b xs zs,x=.ref l/\y=.ref b/\H l=some (.lst xs)/\H b=some (.lst zs)/\xs.length+zs.length<=sizeLine/\∀ p,H p=none->Q (.ref p) (upd H p (.lst (xs++zs)))
theorem qjG:OpR X (binaryOp .Add) qpg:=by
 intro pins s σ H x y v u Q I rx ry h;obtain⟨l,b,xs,zs,rfl,rfl,hH,hB,hz,q⟩:=h;cases rx
 cases ry
 obtain⟨z,its,n,r,hl,e⟩:=I.lstM hH;obtain⟨z2,o8,n2,r2,S8,e2⟩:=I.lstM hB;refine PySem.P.add_list e e2 ?_ (by rw[Zo,Zo];omega);have ea:its.toArray++o8.toArray=(its++o8).toArray:=by simp
 rw[ea];exact⟨.ref _,_,I.lnew (t':=s.toks) (r.append r2) (by rw[Zb];omega),rfl,q _ I.fresh⟩
end
end L2
namespace Att
open PySem PySem.W PySem.Calls PyProof.Rows
theorem qch:∀(ns:List Int)(vs:List Value),WellAll P h vs (ns.map WData.int)->IntsAre vs ns:=by
 intro ns;induction ns with
 |nil =>
  intro vs w;rw[List.map_nil] at w;cases w
  exact .nil
 |cons n ns ih =>
  intro vs w;rw[Qc] at w;cases w with
  |cons a b =>
   cases a
   exact .cons _ _ (ih _ b)
theorem qiJ{l:OpenLaw}(hn:l.most=some n)(iJ:l.row.toRowW.claim.pre args=true)(hwl:WellAll P h nI args):
  ∃ a vs ns,nI=[Value.ref a]/\args=[WData.list (ns.map WData.int)]/\h.get? a=some { cls:=.type "list",data:=.seq vs.toArray }/\IntsAre vs ns/\ns.length<=n:=by
 have hsh:WShape.hasAll [] args [.list .int]=true:=(pre_splitW iJ).1;have hc:l.pre.holds [] { args:=args }=true:=(pre_splitW iJ).2;obtain⟨d,r,rfl,h1,h2⟩:=hasAllW_cons hsh;obtain rfl:=hasAllW_nil h2;obtain⟨xs,rfl,h3⟩:=hasW_list h1;obtain⟨ns,rfl⟩:=items_int h3;have c9:ns.length<=n:=by
  unfold OpenLaw.pre at hc;have h4:(WTm.not (.lt (.lit (.int (n:Int))) (.len (.arg 0)))).holds [] { args:=[.list (ns.map .int)] }=true:=by
   have h4:=(holds_andW hc).1;rw[hn] at h4;exact h4
  have h5:=condW_of h4 (w_not (w_lt w_lit (w_len_list (w_arg rfl))));rw[U0] at h5;refine Nat.le_of_not_lt λ q=>?_
  have q':(n:Int)<((ns.length:Nat):Int):=by omega
  first
   |(rw[J4 q'] at h5;exact absurd h5 (by decide))
   |(simp at h5;omega)
 cases hwl with
 |cons w1 w2 =>
  cases w2
  cases w1 with
  |list ho bS=>exact⟨_,_,ns,rfl,rfl,ho,qch ns _ bS,c9⟩
theorem qiK(l:OpenLaw)(args:List WData):l.row.toRowW.claim.post args (.bool true) args=true:=
 postW_of (r:=l.row.toRowW) (X:=(true == true))
  (show WShape.has [] (.bool true) .bool=true by first|rfl|decide|simp[WShape.has,WShape.arms,WShape.armsAll])
  (show(WTm.eq .res (.lit (.bool true))).value [] { args:=args,res:=some (.bool true),after:=args }=some (.bool (true == true)) from w_eq_bool (w_res rfl) w_lit) rfl
theorem attach_call{l:OpenLaw}(hn:l.most=some n)(tZ:d.params.defaults=[])(call:∀(w:World)(s₀ s₁:Shared)(mg mb:Str->Option Value)(fa:Addr)(o:Obj)(pm cd doc:Value)(a:Addr)(vs:List Value)(ns:List Int),
   Ground q N8 [] XP w s₀ mg mb s₁.heap->YP w s₁.heap ->
   s₁.heap.get? fa=some o->o.data=.func (docDef d.name d.params d.body d.scope pm cd doc)->s₁.heap.CodeRec cd d.name->mg d.name=some (.ref fa) ->
   s₁.heap.get? a=some { cls:=.type "list",data:=.seq vs.toArray }->IntsAre vs ns->ns.length<=n->s₁.gens=#[] ->
   codeAny (model l.prog w) callerA (.call (.ref fa) ⟨[.ref a],[]⟩) (λ r s'=>r=.ok (.ret (.bool true))/\OldK s₁.heap s'.heap/\s'.os=s₁.os/\AllBare s'.gens) s₁):
  WalkO q N8 XP YP l.row.toRowW d [] (λ f vs=>PySem.call f vs):=by
 intro w s₀ s₁ mg mb G Y fa o pm cd doc dV kV ho hd R7 hD tO hg args nI as iJ hlay hrd hwl hlo;obtain rfl:dV=.none:=Dflts.none hD tZ;obtain rfl:kV=.none:=Dflts.noKw hD;obtain⟨a,vs,ns,rfl,rfl,oC,dM,c9⟩:=qiJ hn iJ hwl;refine enter_call (Q2 (call w s₀ s₁ mg mb fa o pm cd doc a vs ns G Y ho (fd_plain hd) R7 tO oC dM c9 hg) λ r s' hq=>?_);obtain⟨rfl,h2,h3,h4⟩:=hq;exact⟨.inl ⟨.bool true,.bool true,[],rfl,λ _=>rfl,.bool true,qiK l _,λ _=>⟨List.Pairwise.nil,λ _ hm=>(nomatch hm)⟩⟩,h2,h3,h4⟩
end Att
namespace L2
open PySem PySem.Spec PyProof.Rows
theorem qd2:∀{vs:List Value}{ns:List Int},IntsAre vs ns->qL (ns.map V.int) vs
 |_,_,.nil=>.nil
 |_,_,.cons n t h=>.cons ⟨t,rfl⟩ (qd2 h)
def qm7(H:Hp):Prop:=∀ b,H b=none∨∃ o xs,H b=some (.frz o (.lst xs))
theorem qjH{K:W.Frag}(KX:K.In s₁.heap)(hns:s₁.heap.Ns mainGlobals mg)(hb:s₁.heap.Ns builtinsNs mb)(iQ:∀ x:Str,x≠"__name__"->mb x=bootBuiltins x)(hlim:s₁.heap.NoLimit)(hg:s₁.gens=#[])(ha:s₁.heap.get? a=some { cls:=.type "list",data:=.seq vs.toArray })(hi:IntsAre vs ns)(hl:ns.length<=sizeLine)(hr:Room k callerA)(F:∀ base:Heap,K.In base->base.Ns mainGlobals mg->FnOk P w K mg base CX k fa fd [x] sp)(uB:∀(s:Shared)(u:Value),BindsTo s fd ⟨[u],[]⟩ [(x,u)])(aM:∀ H:Hp,qm7 H->SqL K H a (ns.map V.int)->sp [.ref a] H (λ v _=>v=.bl true) λ _ _ _=>False)(hCX:∀ H e s',CX [] H s₁ (λ _ _ _=>False) e s'->False):
  codeAny (model P w) callerA (.call (.ref fa) ⟨[.ref a],[]⟩) (λ r s'=>r=.ok (.ret (.bool true))/\OldK s₁.heap s'.heap/\s'.os=s₁.os/\AllBare s'.gens) s₁:=by
 have rv:=qd2 hi;have lenV:=hi.length;have wN:∀ H:Hp,qm7 H->SqL K H a (ns.map V.int)->HOk P w H s₁.heap->(∀ b,H b≠none->b=a)->(H a≠none->K.lookup a=none) ->
   codeAny (model P w) callerA (.call (.ref fa) ⟨[.ref a],[]⟩) (λ r s'=>r=.ok (.ret (.bool true))/\OldK s₁.heap s'.heap/\s'.os=s₁.os/\AllBare s'.gens) s₁:=by
  intro H hO hS hok hA hK;have aV:∀{b:Addr}{o:Obj},s₁.heap.get? b=some o->H b=none->(qes s₁.heap H).get? b=some o:=λ e n=>qju e n
  have rY:∀{b:Addr}{o:Obj}{es:Array DictEntry}{ep:Nat},s₁.heap.get? b=some o->o.data=.dict es ep->H b=none:=λ{b o es ep} e d=>by
   cases q:H b with
   |none=>rfl
   |some u =>
    have e':b=a:=hA b (by rw[q];simp);subst e';rw[ha] at e;cases e;have d':Data.seq vs.toArray _=Data.dict es ep:=d;cases d'
  have xM:∀{b:Addr}{m:Str->Option Value},s₁.heap.Ns b m->(qes s₁.heap H).Ns b m:=λ{b m} ⟨o,es,ep,e,d,r⟩=>⟨o,es,ep,aV e (rY e d),d,r⟩
  have hKb:K.In (qes s₁.heap H):=λ b o e=>aV (KX b o e) (by
   cases q:H b with
   |none=>rfl
   |some u =>
    have e':b=a:=hA b (by rw[q];simp);subst e';rw[hK (by rw[q];simp)] at e;cases e)
  have hM:Mod K mg (qes s₁.heap H):=⟨hKb,xM hns,⟨mb,xM hb,iQ⟩,let ⟨mc,h1,h2⟩:=hlim;⟨mc,xM h1,h2⟩⟩;have e0:Env0 P w K mg (qes s₁.heap H) callerA [] s₁ H:=⟨rfl,hM,λ b o e=>qlo e,Nat.le_of_eq (qiu _ _),trivial,λ b hb=>absurd (show b∈([]:List Addr) from hb) (by simp),hok,.of_eq hg⟩;refine Q2 ((F _ hKb (xM hns)).run callerA [] s₁ H ⟨[.ref a],[]⟩ [.ref a] [.ref a] _ _ hr e0 (uB s₁ (.ref a)) (.cons rfl .nil) (aM H hO hS)) λ r s' h=>?_
  cases r with
  |error e=>exact(hCX H e s' h).elim
  |ok fl =>
   cases fl with
   |next=>exact False.elim h
   |brk=>exact False.elim h
   |cont=>exact False.elim h
   |ret u =>
    obtain⟨v,H',os,bare,un,hok',r',q⟩:=h;have q':v=.bl true:=q;subst q';obtain rfl:u=Value.bool true:=r';refine⟨rfl,OldK.of_keep λ b o e=>?_,os,bare⟩;cases q:H b with
    |none=>exact un.keep b o e q (by intro z;exact absurd (show b∈([]:List Addr) from z) (by simp)) (by simp)
    |some u =>
     rcases hO b with z|⟨ob,xs,z⟩
     ·rw[q] at z;cases z
     ·have z2:=un.frzs b ob _ z;obtain⟨e1,_⟩:=hok b _ z;obtain⟨e2,_⟩:=hok' b _ z2;rw[e] at e1;cases e1;exact e2
 cases hk:K.lookup a with
 |some o =>
  have e:=KX a o hk;rw[ha] at e;cases e
  refine wN (λ _=>none) (λ _=>.inl rfl) (.inr ⟨_,vs.toArray,_,hk,rfl,rfl,rfl,by rw[Zo,lenV];exact hl,by simpa using rv⟩) (λ b u z=>by have z':(none:Option HO)=some u:=z;cases z') (λ b z=>absurd rfl z) λ z=>absurd rfl z
 |none =>
  refine wN (λ b=>if b=a then some (.frz { cls:=.type "list",data:=.seq vs.toArray } (.lst (ns.map V.int))) else none) (λ b=>?_) (.inl (.inr ⟨{ cls:=.type "list",data:=.seq vs.toArray },Vy rfl⟩)) (λ b u z=>?_) (λ b z=>?_) λ _=>hk
  ·by_cases hb:b=a
   ·exact .inr ⟨_,_,Vy hb⟩
   ·exact .inl (Vz hb)
  ·by_cases hb:b=a
   ·have z':=(Vy hb).symm.trans z;cases z'
    subst hb;exact⟨ha,by rw[U0];exact hl,vs,_,rv,ha⟩
   ·have z':=(Vz hb).symm.trans z;cases z'
  ·by_cases hb:b=a
   ·exact hb
   ·exact absurd (Vz hb) z
theorem walk_of{l:W.OpenLaw}{K:Params->W.Frag}{CX:World->CXT}{sp:World->Sp}(hn:l.most=some n)(dI:n<=sizeLine)(tZ:d.params.defaults=[])(hr:Room k callerA)(hY:∀(w:World)(h:Heap),YP w h->(K w.params).In h)(F:∀(w:World)(mg:Str->Option Value)(fa:Addr)(h:Heap),(K w.params).In h->h.Ns mainGlobals mg->mg d.name=some (.ref fa) ->
   ∃ fd:FuncData,(∀(s:Shared)(u:Value),BindsTo s fd ⟨[u],[]⟩ [(x,u)]) /\
    ∀ base:Heap,(K w.params).In base->base.Ns mainGlobals mg->FnOk l.prog w (K w.params) mg base (CX w) k fa fd [x] (sp w))(aM:∀(w:World)(H:Hp)(a:Addr)(ns:List Int),ns.length<=n->qm7 H->SqL (K w.params) H a (ns.map V.int)->sp w [.ref a] H (λ v _=>v=.bl true) λ _ _ _=>False)(hCX:∀(w:World)(H:Hp)(s:Shared)(e:Value)(s':Shared),CX w [] H s (λ _ _ _=>False) e s'->False):
  PySem.W.WalkO q N8 XP YP l.row.toRowW d [] (λ f vs=>PySem.call f vs):=by
 refine Att.attach_call hn tZ λ w s₀ s₁ mg mb fa o pm cd doc a vs ns G Y ho hd R7 tO oC dM c9 hg=>?_
 have KX:=hY w _ Y;obtain⟨fd,hb,hF⟩:=F w mg fa _ KX G.T.g tO;exact qjH KX G.T.g G.T.b G.T.builtins G.T.nolimit hg oC dM (Qq c9 dI) hr hF hb (λ H hO hS=>aM w H a ns c9 hO hS) λ H e s'=>hCX w H s₁ e s'
noncomputable def qO(s:Stmt)(j:Nat):Stmt:=match s with
 |.ClassDef _ _ _ body _ _ _ _ _ _ _=>body.getD j (.Pass ⟨0,0,0,0⟩)
 |_=>.Pass ⟨0,0,0,0⟩
noncomputable def qba(s:Stmt):Arguments:=match s with
 |.FunctionDef _ a _ _ _ _ _ _ _ _=>a
 |_=>{ posonlyargs:=[],args:=[],vararg:=none,kwonlyargs:=[],kw_defaults:=[],kwarg:=none,defaults:=[] }
noncomputable def jY(s:Stmt):List Stmt:=match s with
 |.FunctionDef _ _ b _ _ _ _ _ _ _=>b
 |_=>[]
noncomputable def qf(s:Stmt):Scope:=match s with
 |.FunctionDef _ _ _ _ _ _ sc _ _ _=>sc
 |_=>{ kind:=.function,names:=[],isGenerator:=false,isCoroutine:=false }
abbrev CX0:CXT:=λ _ _ _ _ _ _=>False
abbrev E0:XK:=λ _ _ _=>False
theorem qF:qaC CX0 X E0:=λ _ _ _ _ _ _ _ h=>h.elim
structure Fun(K:W.Frag)(x qual:Str)(st:Stmt)(f:Addr)(fd:FuncData):Prop where
 ex:∃(oc:Value)(od:Option Addr)(kV doc pm:Value)(an:Option Addr)(cdv ct:Value)(osl:Array (Option Value)),
  fd=W.fnOf x qual (qba st) (jY st) (qf st) .none kV doc pm an cdv ct/\K.lookup f=some ⟨oc,od,.func fd,osl⟩/\W.codeIn K cdv qual=true
 kp:W.keepIn K (.ref f)=true
section
variable {P:Program}{w:World}{K:W.Frag}{mg:Str->Option Value}{base:Heap}
theorem qiL(F:FnOk X.prog X.w X.K X.mg X.base CX0 k f fd ps sp)(hr:Room k X.A)(hm:X.mg x=some (.ref f))(hk:W.keepIn X.K (.ref f)=true)(hb:qh X.K fd ps [])(ha:PA X (e::es) t)(hg:Gl X x:=by rfl)(bQ:(x == ("__debug__":Str))=false:=by decide)(he:starEach (e::es) X.env=(false,eval e X.env)::starEach es X.env:=by rfl)(w6:(backTo pos (starEach es X.env)).any (·.1)=false:=by rfl):PE X (.Call (.Name x p) (e::es) [] pos) (qb8 sp [] E0 t):=zk F hr hg hm hk hb .nil qF ha bQ he w6
structure Dp(P:Program)(w:World)(K:W.Frag)(mg:Str->Option Value)(base:Heap)(k:Nat)(f:Addr)(d:FuncData)(ps:List Str)(sp:Sp)(x:Str):Prop where
 g:FnOk P w K mg base CX0 k f d ps sp
 b:qh K d ps []
 e:W.keepIn K (.ref f)=true
 m:mg x=some (.ref f)
theorem zd(D:Dp X.prog X.w X.K X.mg X.base k f fd ps sp x)(hr:Room j X.A)(ha:PA X (e::es) t)(hg:Gl X x:=by rfl)(bQ:(x == ("__debug__":Str))=false:=by decide)(he:starEach (e::es) X.env=(false,eval e X.env)::starEach es X.env:=by rfl)(w6:(backTo pos (starEach es X.env)).any (·.1)=false:=by rfl)(hj:k<=j:=by decide):PE X (.Call (.Name x p) (e::es) [] pos) (qb8 sp [] E0 t):=qiL D.g (hr.mono hj) D.m D.e D.b ha hg bQ he w6
theorem Fun.ok{st:Stmt}(F:Fun K x qual st f fd)(S:FnScope N ps (qf st))(len:∀ vs H Q E,sp vs H Q E->vs.length=ps.length)(T0:∀(cdv:Value)(A:Around)(outer:List Env)(s:Shared)(H:Hp)(vs:List V)(Q:VK)(E:XK),Room k (A.deeper (envOfC qual (qf st) s.heap.objs.size f cdv))->sp vs H Q E ->
   ∃ t,PSs (qgI CX0 P w K mg base N qual (qf st) f cdv A outer s H E).nox (jY st) t/\t { nx:=λ _ H'=>Q .non H',rt:=Q } (qa6 N vs) H):FnOk P w K mg base CX0 (k+1) f fd ps sp:=by
 obtain⟨oc,od,kV,doc,pm,an,cdv,ct,osl,rfl,lk,R7⟩:=F.ex;refine qn5 lk R7 S len λ A outer s H vs Q E hr aM=>?_
 obtain⟨t,h,q⟩:=T0 cdv A outer s H vs Q E hr aM;exact⟨t,h.nox,q⟩
theorem Fun.okd{st:Stmt}(F:Fun K x qual st f fd)(S:FnScope N ps (qf st))(T0:∀(cdv:Value)(A:Around)(outer:List Env)(s:Shared)(H:Hp)(vs:List V)(Q:VK)(E:XK),Room k (A.deeper (envOfC qual (qf st) s.heap.objs.size f cdv))->sp vs H Q E ->
   ∃ t,PSs (qgI CX0 P w K mg base N qual (qf st) f cdv A outer s H E).nox (jY st) t/\t { nx:=λ _ H'=>Q .non H',rt:=Q } (qa6 N vs) H)(len:∀ vs H Q E,sp vs H Q E->vs.length=ps.length:=by intro vs H Q E h;repeat (first|(obtain⟨rfl,_⟩:=h;rfl)|(obtain⟨_,h⟩:=h))):FnOk P w K mg base CX0 (k+1) f fd ps sp:=F.ok S len T0
theorem ls1{us:List Value}(h:us.length=1):∃ a,us=[a]:=match us,h with| [a],_=>⟨a,rfl⟩
theorem ls2{us:List Value}(h:us.length=2):∃ a b,us=[a,b]:=match us,h with| [a,b],_=>⟨a,b,rfl⟩
theorem ls3{us:List Value}(h:us.length=3):∃ a b c,us=[a,b,c]:=match us,h with| [a,b,c],_=>⟨a,b,c,rfl⟩
theorem ls4{us:List Value}(h:us.length=4):∃ a b c d,us=[a,b,c,d]:=match us,h with| [a,b,c,d],_=>⟨a,b,c,d,rfl⟩
theorem Fun.binds{st:Stmt}(F:Fun K x qual st f fd)(h:∀(kV doc pm:Value)(an:Option Addr)(cdv ct:Value)(us:List Value),us.length=ps.length->bindArgs (W.fnOf x qual (qba st) (jY st) (qf st) .none kV doc pm an cdv ct) ⟨us,[]⟩=pure (ps.zip us):=by intro _ _ _ _ _ _ us hl;first|(obtain⟨_,rfl⟩:=ls1 hl;rfl)|(obtain⟨_,_,rfl⟩:=ls2 hl;rfl)|(obtain⟨_,_,_,rfl⟩:=ls3 hl;rfl)|(obtain⟨_,_,_,_,rfl⟩:=ls4 hl;rfl)):qh K fd ps []:=by
 obtain⟨oc,od,kV,doc,pm,an,cdv,ct,osl,rfl,lk,R7⟩:=F.ex;exact .all (h kV doc pm an cdv ct)
theorem fun_mk{st:Stmt} {kV:Value}(l:K.lookup f=some ⟨oc,od,.func (W.fnOf x qual (qba st) (jY st) (qf st) .none kV doc pm an cdv ct),osl⟩)(c:W.codeIn K cdv qual=true)(k:W.keepIn K (.ref f)=true):Fun K x qual st f (W.fnOf x qual (qba st) (jY st) (qf st) .none kV doc pm an cdv ct):=⟨⟨oc,od,kV,doc,pm,an,cdv,ct,osl,rfl,l,c⟩,k⟩
end
theorem jI(hr:Room k A):A.units+1<cLine:=Nat.lt_of_le_of_lt (Nat.add_le_add_left (by decide:1<=64) _) hr.units
section
variable {X:Cx}
theorem pv(i:Nat)(hN:X.N[i]?=some x:=by rfl)(hv:Vis X.env.scope x:=by first | exact Or.inl rfl | exact Or.inr (Or.inl rfl) | exact Or.inr (Or.inr rfl))(hd:(x == ("__debug__":Str))=false:=by decide)(R7:(x == ("__classdict__":Str))=false:=by decide):PE X (.Name x pos) (qet i):=qmU hN hv hd R7
end
theorem zN {B:Prop}(h:B):if false=true then A else B:=by
 rw[Vz Za];exact h
theorem qaD {B:Prop}(h:A):if true=true then A else B:=by
 rw[Vy rfl];exact h
theorem vM{c A B:Prop}[Decidable c](h1:c->A)(h2:¬ c->B):if c then A else B:=by
 by_cases h:c
 ·rw[Vy h];exact h1 h
 ·rw[Vz h];exact h2 h
def qi(H H':Hp):Prop:=∀ b o,H b=some o->H' b=some o
theorem qi.refl(H:Hp):qi H H:=λ _ _ h=>h
theorem qi.trans(a:qi H H1)(b:qi H1 H2):qi H H2:=λ c o h=>b c o (a c o h)
theorem qi.free(e:qi H H')(h:H' l=Option.none):H l=Option.none:=by
 cases q:H l with
 |none=>rfl
 |some o =>
  rw[e l o q] at h;cases h
theorem qi.seq{K:W.Frag}(e:qi H H')(h:SqL K H a xs):SqL K H' a xs:=by
 rcases h with(h|⟨o,h⟩)|h
 ·exact .inl (.inl (e _ _ h))
 ·exact .inl (.inr ⟨o,e _ _ h⟩)
 ·exact .inr h
end L2
namespace Fs
abbrev Pr:=List Nat
theorem qfv{α:Type}{r:α->α->Prop}(sN:∀ a,¬ r a a)(xB:∀ a b,r a b->¬ r b a):∀{l m:List α},l.Pairwise r->m.Pairwise r->(∀ x,x∈l ↔ x∈m)->l=m
 | [],[],_,_,_=>rfl
 | [],b::m,_,_,h=>by have:=(h b).mpr Y9;cases this
 |a::l,[],_,_,h=>by have:=(h a).mp Y9;cases this
 |a::l,b::m,hl,hm,h=>by
  have cD:=Zc.mp hl;have pW:=Zc.mp hm;have ab:a=b:=by
   rcases Qb.mp ((h a).mp Y9) with e|e
   ·exact e
   ·rcases Qb.mp ((h b).mpr Y9) with e' | e'
    ·exact e'.symm
    ·exact absurd (pW.1 a e) (xB _ _ (cD.1 b e'))
  subst ab
  have:l=m:=qfv sN xB cD.2 pW.2 λ x=>by
   constructor
   ·intro hx;rcases Qb.mp ((h x).mp (Yf _ hx)) with e | e
    ·subst e;exact absurd (cD.1 x hx) (sN x)
    ·exact e
   ·intro hx;rcases Qb.mp ((h x).mpr (Yf _ hx)) with e | e
    ·subst e;exact absurd (pW.1 x hx) (sN x)
    ·exact e
  rw[this]
theorem qhZ(a:Pr):¬ a<a:=List.lt_irrefl a
theorem qfw(a b:Pr)(h:a<b):¬ b<a:=λ h'=>qhZ a (List.lt_trans h h')
structure Vf(F:List Pr):Prop where
 rise:F.Pairwise (·<·)
 prod:∀ p∈F,p.Pairwise (·<·)
theorem q9{α:Type}{r:α->α->Prop}(sN:∀ a,¬ r a a):∀{l:List α},l.Pairwise r->l.Nodup:=λ{l} h=>h.imp λ{a b} E7 e=>by subst e;exact sN _ E7
theorem Vf.nodup(h:Vf F):F.Nodup:=q9 qhZ h.rise
noncomputable def qy(ρ:Nat->Bool):List Pr->Bool
 | []=>false
 |p::F=>xor (p.all ρ) (qy ρ F)
theorem y4(ρ:Nat->Bool):∀ F G:List Pr,qy ρ (F++G)=xor (qy ρ F) (qy ρ G)
 | [],G=>by simp[qy]
 |p::F,G=>by
  show xor (p.all ρ) (qy ρ (F++G))=_
  rw[y4 ρ F G];show _=xor (xor (p.all ρ) (qy ρ F)) (qy ρ G)
  rw[Jt]
theorem jZ(ρ:Nat->Bool)(h:F.Perm G):qy ρ F=qy ρ G:=by
 induction h with
 |nil=>rfl
 |cons x _ ih=>show xor _ _=xor _ _;rw[ih]
 |swap x y l=>show xor _ (xor _ _)=xor _ (xor _ _);rw[<- Jt,<- Jt,Bool.xor_comm (y.all ρ)]
 |trans _ _ a b=>exact a.trans b
theorem vO(ρ:Nat->Bool)(q:Pr->Bool):∀ F:List Pr,qy ρ F=xor (qy ρ (F.filter q)) (qy ρ (F.filter λ p=>!q p))
 | []=>rfl
 |p::F=>by
  have ih:=vO ρ q F;cases h:q p with
  |true =>
   rw[X4 h,X5 (by simp[h])];show xor _ _=xor (xor _ _) _
   rw[ih,Jt]
  |false =>
   rw[X5 (by simp[h]),X4 (by simp[h])];show xor _ _=xor _ (xor _ _)
   rw[ih];cases p.all ρ <;> cases qy ρ (F.filter q) <;> cases qy ρ (F.filter λ p=>!q p) <;> rfl
noncomputable def qfx(F G:List Pr):List Pr:=F.filter (λ p=>!G.contains p)++G.filter (λ p=>!F.contains p)
theorem qcO:p∈qfx F G ↔ ((p∈F/\p∉G)∨(p∈G/\p∉F)):=by
 simp[qfx,Uy,Ux]
theorem qgN(ρ:Nat->Bool)(hF:F.Nodup)(hG:G.Nodup):qy ρ (qfx F G)=xor (qy ρ F) (qy ρ G):=by
 have e1:=vO ρ (λ p=>G.contains p) F;have e2:=vO ρ (λ p=>F.contains p) G;have e3:qy ρ (F.filter λ p=>G.contains p)=qy ρ (G.filter λ p=>F.contains p):=by
  refine jZ ρ ?_;rw[Xi (hF.filter _) (hG.filter _)];intro p;simp only[Ux,XT];exact⟨λ ⟨a,b⟩=>⟨b,a⟩,λ ⟨a,b⟩=>⟨b,a⟩⟩
 rw[qfx,y4,e1,e2,e3];cases qy ρ (G.filter λ p=>F.contains p) <;> cases qy ρ (F.filter λ p=>!G.contains p) <;> cases qy ρ (G.filter λ p=>!F.contains p) <;> rfl
theorem qcP(hF:F.Nodup)(hG:G.Nodup):(qfx F G).Nodup:=by
 refine Zq.mpr ⟨hF.filter _,hG.filter _,?_⟩;intro a ha b hb e;subst e;simp[Ux] at ha hb;exact hb.2 ha.1
theorem jJ{α:Type}[DecidableEq α]:∀{l m:List α},l.Nodup->(∀ x∈l,x∈m)->l.length<=m.length
 | [],_,_,_=>Q6 _
 |a::l,m,nd,h=>by
  have G6:=U2.mp nd;have ha:a∈m:=h a Y9
  have:=jJ (l:=l) (m:=m.erase a) G6.2 λ x hx=>(List.mem_erase_of_ne (λ(e:x=a)=>G6.1 (by rw[<- e];exact hx))).mpr (h x (Yf _ hx))
  rw[List.length_erase_of_mem ha] at this
  have:0<m.length:=List.length_pos_of_mem ha
  rw[Uc];omega
noncomputable def zn:List Nat->List Pr
 | []=>[[]]
 |l::ls=>zn ls++(zn ls).map (l::·)
theorem za:∀ ls:List Nat,(zn ls).length=2^ls.length
 | []=>rfl
 |l::ls=>by rw[zn,Zb,U0,za ls,Uc,Qt];omega
theorem zJ:∀{ls:List Nat}{p:Pr},p∈zn ls ↔ p.Sublist ls
 | [],p=>by simp[zn]
 |l::ls,p=>by
  rw[zn,Uy,Qu];constructor
  ·rintro(h | ⟨q,h,rfl⟩)
   ·exact(zJ.mp h).cons _
   ·exact(zJ.mp h).cons₂ _
  ·intro h;cases h with
   |cons _ h=>exact .inl (zJ.mpr h)
   |cons_cons _ h=>exact .inr ⟨_,zJ.mpr h,rfl⟩
theorem jq:∀{ls:List Nat},ls.Nodup->(zn ls).Nodup
 | [],_=>by simp[zn]
 |l::ls,h=>by
  have h':=U2.mp h;rw[zn];refine Zq.mpr ⟨jq h'.2,?_,?_⟩
  ·have:=jq h'.2
   exact Zr.mpr (this.imp λ{a b} E7 e=>E7 (List.cons.inj e).2)
  ·intro a ha b hb e;subst e;obtain⟨q,hq,rfl⟩:=Qu.mp hb;exact h'.1 ((zJ.mp ha).subset Y9)
noncomputable def zo:Nat->List Bool->List Bool
 |0,t=>t
 |n+1,t=>zo n (t.take (2^n))++List.zipWith (· != ·) (zo n (t.take (2^n))) (zo n (t.drop (2^n)))
theorem qV:∀(n:Nat)(t:List Bool),t.length=2^n->(zo n t).length=2^n
 |0,t,h=>h
 |n+1,t,h=>by
  have hp:2^(n+1)=2^n+2^n:=by rw[Qt];omega
  have h1:(t.take (2^n)).length=2^n:=by rw[Ue];omega
  have h2:(t.drop (2^n)).length=2^n:=by rw[Uf];omega
  rw[zo,Zb,Yv,qV n _ h1,qV n _ h2];omega
noncomputable def look(ρ:Nat->Bool):List Nat->List Bool->Bool
 | [],t=>t.headD false
 |l::ls,t=>if ρ l=true then look ρ ls (t.drop (2^ls.length)) else look ρ ls (t.take (2^ls.length))
noncomputable def pol(ρ:Nat->Bool):List Nat->List Bool->Bool
 | [],t=>t.headD false
 |l::ls,t=>xor (pol ρ ls (t.take (2^ls.length))) (ρ l && pol ρ ls (t.drop (2^ls.length)))
theorem qbb(f:Bool->Bool->Bool)(ρ:Nat->Bool):∀(ls:List Nat)(t u:List Bool),t.length=2^ls.length->u.length=2^ls.length->look ρ ls (List.zipWith f t u)=f (look ρ ls t) (look ρ ls u)
 | [],[a],[b],_,_=>rfl
 |l::ls,t,u,ht,hu=>by
  rw[Uc,Qt] at ht hu;rw[look,look,look];by_cases h:ρ l=true
  ·rw[Vy h,Vy h,Vy h,List.drop_zipWith];exact qbb f ρ ls _ _ (by rw[Uf];omega) (by rw[Uf];omega)
  ·rw[Vz h,Vz h,Vz h,List.take_zipWith];exact qbb f ρ ls _ _ (by rw[Ue];omega) (by rw[Ue];omega)
theorem k8(ρ:Nat->Bool):∀(ls:List Nat)(t:List Bool),t.length=2^ls.length->look ρ ls (zo ls.length t)=pol ρ ls t
 | [],t,_=>rfl
 |l::ls,t,h=>by
  rw[Uc,Qt] at h;have h1:(t.take (2^ls.length)).length=2^ls.length:=by rw[Ue];omega
  have h2:(t.drop (2^ls.length)).length=2^ls.length:=by rw[Uf];omega
  have s1:=qV ls.length _ h1;have s2:=qV ls.length _ h2;have e1:(zo (ls.length+1) t).take (2^ls.length)=zo ls.length (t.take (2^ls.length)):=by
   rw[zo,Xb (by omega),XF (by omega)]
  have e2:(zo (ls.length+1) t).drop (2^ls.length)=List.zipWith (· != ·) (zo ls.length (t.take (2^ls.length))) (zo ls.length (t.drop (2^ls.length))):=by
   rw[zo,Xc (by omega),XG (by omega),U5]
  rw[look,pol,Uc,e1,e2];rw[qbb (· != ·) ρ ls _ _ s1 s2,k8 ρ ls _ h1,k8 ρ ls _ h2];cases ρ l <;> simp <;> cases pol ρ ls (t.take (2^ls.length)) <;> cases pol ρ ls (t.drop (2^ls.length)) <;> rfl
theorem qcQ:∀(n:Nat)(t u:List Bool),t.length=2^n->u.length=2^n->zo n (List.zipWith (· != ·) t u)=List.zipWith (· != ·) (zo n t) (zo n u)
 |0,t,u,_,_=>rfl
 |n+1,t,u,ht,hu=>by
  have hp:2^(n+1)=2^n+2^n:=by rw[Qt];omega
  have t1:(t.take (2^n)).length=2^n:=by rw[Ue];omega
  have t2:(t.drop (2^n)).length=2^n:=by rw[Uf];omega
  have u1:(u.take (2^n)).length=2^n:=by rw[Ue];omega
  have u2:(u.drop (2^n)).length=2^n:=by rw[Uf];omega
  rw[zo,zo,zo,List.take_zipWith,List.drop_zipWith,qcQ n _ _ t1 u1,qcQ n _ _ t2 u2];rw[List.zipWith_append (by rw[qV n _ t1,qV n _ u1])];congr 1
  have q:∀(a b c d:List Bool),List.zipWith (· != ·) (List.zipWith (· != ·) a b) (List.zipWith (· != ·) c d)=List.zipWith (· != ·) (List.zipWith (· != ·) a c) (List.zipWith (· != ·) b d):=by
   intro a;induction a with
   |nil=>intro b c d;simp
   |cons x a ih =>
    intro b c d;cases b with
    |nil=>cases c <;> simp
    |cons y b =>
     cases c with
     |nil=>simp
     |cons z c =>
      cases d with
      |nil=>simp
      |cons w d =>
       simp only[List.zipWith_cons_cons,ih];cases x <;> cases y <;> cases z <;> cases w <;> rfl
  exact q _ _ _ _
theorem qbc:∀(a b:List Bool),a.length=b.length->List.zipWith (· != ·) a (List.zipWith (· != ·) a b)=b
 | [],[],_=>rfl
 |x::a,y::b,h=>by
  simp only[List.zipWith_cons_cons];rw[qbc a b (by simpa using h)];cases x <;> cases y <;> rfl
theorem qbO:∀(n:Nat)(t:List Bool),t.length=2^n->zo n (zo n t)=t
 |0,t,_=>rfl
 |n+1,t,h=>by
  have hp:2^(n+1)=2^n+2^n:=by rw[Qt];omega
  have t1:(t.take (2^n)).length=2^n:=by rw[Ue];omega
  have t2:(t.drop (2^n)).length=2^n:=by rw[Uf];omega
  have s1:=qV n _ t1;have s2:=qV n _ t2;have e1:(zo (n+1) t).take (2^n)=zo n (t.take (2^n)):=by
   rw[zo,Xb (by omega),XF (by omega)]
  have e2:(zo (n+1) t).drop (2^n)=List.zipWith (· != ·) (zo n (t.take (2^n))) (zo n (t.drop (2^n))):=by
   rw[zo,Xc (by omega),XG (by omega),U5]
  conv=>lhs;rw[zo]
  rw[e1,e2,qcQ n _ _ s1 s2,qbO n _ t1,qbO n _ t2,qbc _ _ (by omega)];exact XU _ _
noncomputable def yg(ls:List Nat)(t:List Bool):List Pr:=((zn ls).zip t).filterMap λ x=>if x.2=true then some x.1 else none
theorem j2(ρ:Nat->Bool):∀(ls:List Nat)(t:List Bool),t.length=2^ls.length->qy ρ (yg ls t)=pol ρ ls t
 | [],[b],_=>by cases b <;> simp[yg,zn,qy,pol]
 |l::ls,t,h=>by
  rw[Uc,Qt] at h;have h1:(t.take (2^ls.length)).length=2^ls.length:=by rw[Ue];omega
  have h2:(t.drop (2^ls.length)).length=2^ls.length:=by rw[Uf];omega
  have e:yg (l::ls) t=yg ls (t.take (2^ls.length))++(yg ls (t.drop (2^ls.length))).map (l::·):=by
   unfold yg;rw[zn]
   conv=>lhs;rw[<- XU (2^ls.length) t]
   rw[U6 (by rw[za];omega),XV];congr 1
   rw[List.zip_map_left,List.filterMap_map,List.map_filterMap];congr 1
   funext x
   obtain⟨a,b⟩:=x;cases b <;> rfl
  have m:∀ F:List Pr,qy ρ (F.map (l::·))=(ρ l && qy ρ F):=by
   intro F;induction F with
   |nil=>simp[qy]
   |cons p F ih =>
    show xor ((l::p).all ρ) _=_
    rw[ih,Qg];show _=(ρ l && xor (p.all ρ) (qy ρ F))
    cases ρ l <;> simp
  rw[e,y4,m,j2 ρ ls _ h1,j2 ρ ls _ h2,pol]
theorem qcR(h:p∈yg ls t):p.Sublist ls:=by
 unfold yg at h;obtain⟨x,hx,e⟩:=List.mem_filterMap.mp h;split at e
 ·cases e;exact zJ.mp (U3 hx).1
 ·cases e
theorem j3:∀(P:List Pr)(t:List Bool),((P.zip t).filterMap λ x=>if x.2=true then some x.1 else none).Sublist P
 | [],t=>by simp
 |p::P,[]=>by simp
 |p::P,b::t=>by
  rw[Zd,Yr];cases b with
  |true=>exact(j3 P t).cons₂ _
  |false=>exact(j3 P t).cons _
theorem qbd(t:List Bool)(h:ls.Nodup):(yg ls t).Nodup:=(jq h).sublist (j3 _ _)
theorem qcS(F:List Pr):∀(P:List Pr),((P.zip (P.map λ p=>F.contains p)).filterMap λ x=>if x.2=true then some x.1 else none)=P.filter λ p=>F.contains p
 | []=>rfl
 |p::P=>by
  rw[Qc,Zd,Yr,qcS F P];cases h:F.contains p with
  |true=>rw[X4 h];rfl
  |false=>rw[X5 (by rw[h];exact Za)];rfl
theorem qfy(ρ:Nat->Bool)(hl:ls.Nodup)(hF:F.Nodup)(h:∀ p∈F,p.Sublist ls):
  look ρ ls (zo ls.length ((zn ls).map λ p=>F.contains p))=qy ρ F:=by
 have len:((zn ls).map λ p=>F.contains p).length=2^ls.length:=by rw[U0,za]
 rw[k8 ρ ls _ len,<- j2 ρ ls _ len];refine jZ ρ ?_;unfold yg;rw[qcS,Xi ((jq hl).filter _) hF];intro p;rw[Ux,zJ,XT];exact⟨λ x=>x.2,λ x=>⟨h p x,x⟩⟩
theorem plt_total {b:Pr}(h1:¬ a<b)(h2:¬ b<a):a=b:=List.le_antisymm (List.not_lt.mp h2) (List.not_lt.mp h1)
noncomputable def ins(a:Pr):List Pr->List Pr
 | []=>[a]
 |b::l=>if b<a then b::ins a l else a::b::l
noncomputable def srt:List Pr->List Pr
 | []=>[]
 |a::l=>ins a (srt l)
theorem qcT(a:Pr):∀ l:List Pr,(ins a l).Perm (a::l)
 | []=>Ju _
 |b::l=>by
  rw[ins];split
  ·exact((qcT a l).cons b).trans (List.Perm.swap a b l)
  ·exact Ju _
theorem zW:∀ l:List Pr,(srt l).Perm l
 | []=>Ju _
 |a::l=>(qcT a (srt l)).trans ((zW l).cons a)
theorem qjI(a:Pr):∀{l:List Pr},l.Pairwise (λ x y=>¬ y<x)->(ins a l).Pairwise (λ x y=>¬ y<x)
 | [],_=>by simp[ins]
 |b::l,h=>by
  have h':=Zc.mp h;rw[ins];split
  ·rename_i hb;refine Zc.mpr ⟨λ x hx=>?_,qjI a h'.2⟩;rcases Qb.mp ((qcT a l).mem_iff.mp hx) with e | e
   ·rw[e];exact qfw _ _ hb
   ·exact h'.1 x e
  ·rename_i hb;refine Zc.mpr ⟨λ x hx=>?_,h⟩;rcases Qb.mp hx with e | e
   ·rw[e];exact hb
   ·intro xS;have x3:=h'.1 x e
    have:x<b:=by
     by_cases E7:a<b
     ·exact List.lt_trans xS E7
     ·have:=plt_total E7 hb
      rw[<- this];exact xS
    exact x3 this
theorem qeE:∀ l:List Pr,(srt l).Pairwise (λ x y=>¬ y<x)
 | []=>List.Pairwise.nil
 |a::l=>qjI a (qeE l)
theorem qd3:∀{l m:List Pr},l.Perm m->l.Pairwise (λ x y=>¬ y<x)->m.Pairwise (λ x y=>¬ y<x)->l=m
 | [],m,h,_,_=>h.nil_eq
 |a::l,m,h,hl,hm=>by
  cases m with
  |nil=>exact absurd h.length_eq (by simp)
  |cons b m =>
   have cD:=Zc.mp hl;have pW:=Zc.mp hm;have ab:a=b:=by
    rcases Qb.mp (h.mem_iff.mp Y9) with e|e
    ·exact e
    ·rcases Qb.mp (h.mem_iff.mpr Y9) with e' | e'
     ·exact e'.symm
     ·exact plt_total (pW.1 a e) (cD.1 b e')
   subst ab;rw[qd3 (List.Perm.cons_inv h) cD.2 pW.2]
theorem srt_of(h:l.Perm m)(hl:l.Pairwise (λ x y=>¬ y<x)):l=srt m:=qd3 (h.trans (zW m).symm) hl (qeE m)
theorem qcU(h:l.Nodup):(srt l).Pairwise (·<·):=by
 have nd:(srt l).Nodup:=(zW l).nodup_iff.mpr h
 have:=qeE l
 exact(this.and nd).imp λ{a b} E7=>Classical.byContradiction λ hn=>E7.2 (plt_total hn E7.1)
theorem qjJ(h:l.Pairwise (·<·)):srt l=l:=(srt_of (Ju l) (h.imp λ{a b}=>qfw a b)).symm
theorem k9:p∈srt l ↔ p∈l:=(zW l).mem_iff
theorem srt_perm_eq(h:l.Perm m):srt l=srt m:=srt_of ((zW l).trans h) (qeE l)
noncomputable def added(F G:List Pr):List Pr:=srt (qfx F G)
theorem qfz(hF:Vf F)(hG:Vf G):Vf (added F G):=⟨qcU (qcP hF.nodup hG.nodup),λ p hp=>by
 rcases qcO.mp (k9.mp hp) with⟨a,_⟩|⟨a,_⟩
 ·exact hF.prod p a
 ·exact hG.prod p a⟩
theorem yJ(ρ:Nat->Bool)(hF:Vf F)(hG:Vf G):qy ρ (added F G)=xor (qy ρ F) (qy ρ G):=by
 rw[added,jZ ρ (zW _),qgN ρ hF.nodup hG.nodup]
noncomputable def qaw{α:Type}[DecidableEq α]:List α->List α
 | []=>[]
 |a::l=>a::(qaw l).filter λ b=>decide (b≠a)
theorem qaa{α:Type}[DecidableEq α]{x:α}:∀{l:List α},x∈qaw l ↔ x∈l
 | []=>by simp[qaw]
 |a::l=>by
  rw[qaw,Qb,Ux,qaa,Qb];constructor
  ·rintro(h | h)
   ·exact .inl h
   ·exact .inr h.1
  ·rintro(h | h)
   ·exact .inl h
   ·by_cases e:x=a
    ·exact .inl e
    ·exact .inr ⟨h,by simpa using e⟩
theorem vP{α:Type}[DecidableEq α]:∀(l:List α),(qaw l).Nodup
 | []=>by simp[qaw]
 |a::l=>by
  rw[qaw];refine U2.mpr ⟨λ h=>?_,(vP l).filter _⟩
  have:=(Ux.mp h).2
  simp at this
noncomputable def qI(F:List Pr):List Nat:=(srt (qaw (F.flatten.map λ c=>[c]))).flatten
theorem qlC{l:List Pr}(h:∀ p∈l,∃ c,p=[c]):l=l.flatten.map λ c=>[c]:=by
 induction l with
 |nil=>rfl
 |cons p l ih =>
  obtain⟨c,hc⟩:=h p Y9;subst hc;rw[Zs,U7,<- ih λ q hq=>h q (Yf _ hq)];rfl
theorem y6(F:List Pr):srt (qaw (F.flatten.map λ c=>[c]))=(qI F).map λ c=>[c]:=by
 refine qlC λ p hp=>?_
 obtain⟨c,_,e⟩:=Qu.mp (qaa.mp (k9.mp hp));exact⟨c,e.symm⟩
theorem jr:c∈qI F ↔ ∃ p∈F,c∈p:=by
 have h:[c]∈(qI F).map (λ c=>[c]) ↔ c∈qI F:=by
  rw[Qu];exact⟨λ ⟨d,hd,e⟩=>by cases e;exact hd,λ hd=>⟨c,hd,rfl⟩⟩
 rw[<- h,<- y6,k9,qaa,Qu];constructor
 ·rintro⟨d,hd,e⟩;cases e
  exact(List.mem_flatten.mp hd).imp λ p hp=>⟨hp.1,hp.2⟩
 ·rintro⟨p,hp,hc⟩;exact⟨c,List.mem_flatten.mpr ⟨p,hp,hc⟩,rfl⟩
theorem zG(F:List Pr):(qI F).Pairwise (·<·):=by
 have h:=qcU (vP (F.flatten.map λ c=>[c]));rw[y6,Zr] at h;refine h.imp λ{a b} E7=>?_
 cases E7 with
 |rel h=>exact h
 |cons h=>cases h
theorem jK:∀{ls p:List Nat},ls.Pairwise (·<·)->p.Pairwise (·<·)->(∀ x∈p,x∈ls)->p.Sublist ls
 |_,[],_,_,_=>List.nil_sublist _
 | [],x::p,_,_,h=>absurd (h x Y9) (by simp)
 |l::ls,x::p,hl,hp,h=>by
  have cD:=Zc.mp hl;have E9:=Zc.mp hp;rcases Qb.mp (h x Y9) with e|e
  ·subst e;refine(jK cD.2 E9.2 λ y hy=>?_).cons₂ x;rcases Qb.mp (h y (Yf _ hy)) with e | e
   ·subst e;exact absurd (E9.1 _ hy) (Qa _)
   ·exact e
  ·refine(jK cD.2 hp λ y hy=>?_).cons l;rcases Qb.mp (h y hy) with e' | e'
   ·subst e';rcases Qb.mp hy with q | q
    ·subst q;exact e
    ·exact absurd (E9.1 _ q) (Nat.lt_asymm (cD.1 _ e))
   ·exact e'
noncomputable def j4(F:List Pr)(ls:List Nat):List Bool:=zo ls.length ((zn ls).map λ p=>F.contains p)
theorem zA(F:List Pr)(ls:List Nat):(j4 F ls).length=2^ls.length:=qV _ _ (by rw[U0,za])
theorem qcV(ρ:Nat->Bool)(hl:ls.Pairwise (·<·))(hF:Vf F)(h:∀ p∈F,∀ c∈p,c∈ls):look ρ ls (j4 F ls)=qy ρ F:=
 qfy ρ (q9 Qa hl) hF.nodup λ p hp=>jK hl (hF.prod p hp) (h p hp)
noncomputable def formOf(ls:List Nat)(t:List Bool):List Pr:=srt (yg ls (zo ls.length t))
theorem qd4(hl:ls.Pairwise (·<·))(t:List Bool):Vf (formOf ls t):=
 ⟨qcU (qbd _ (q9 Qa hl)),λ p hp=>hl.sublist (qcR (k9.mp hp))⟩
theorem qbe(ρ:Nat->Bool)(ht:t.length=2^ls.length):qy ρ (formOf ls t)=look ρ ls t:=by
 rw[formOf,jZ ρ (zW _),j2 ρ ls _ (qV _ _ ht),<- k8 ρ ls _ (qV _ _ ht),qbO _ _ ht]
theorem vQ(hp:p∈formOf ls t):p.Sublist ls:=qcR (k9.mp hp)
noncomputable def mult(F G:List Pr):List Pr:=formOf (qI (F++G)) (List.zipWith (· && ·) (j4 F (qI (F++G))) (j4 G (qI (F++G))))
theorem qh0(F G:List Pr):Vf (mult F G):=qd4 (zG _) _
theorem qcW(ρ:Nat->Bool)(hF:Vf F)(hG:Vf G):qy ρ (mult F G)=(qy ρ F && qy ρ G):=by
 rw[mult,qbe ρ (by rw[Yv,zA,zA,Nat.min_self]),qbb _ ρ _ _ _ (zA _ _) (zA _ _),
  qcV ρ (zG _) hF λ p hp c hc=>jr.mpr ⟨p,Yg _ hp,hc⟩,qcV ρ (zG _) hG λ p hp c hc=>jr.mpr ⟨p,XN _ hp,hc⟩]
noncomputable def opp(F:List Pr):List Pr:=added F [[]]
noncomputable def join(F G:List Pr):List Pr:=added (added F G) (mult F G)
theorem qjK:Vf [[]]:=⟨by simp,by simp⟩
theorem qm8:Vf []:=⟨List.Pairwise.nil,by simp⟩
theorem qiM(ρ:Nat->Bool)(hF:Vf F):qy ρ (opp F)=!qy ρ F:=by
 rw[opp,yJ ρ hF qjK];simp[qy]
theorem qcX(ρ:Nat->Bool)(hF:Vf F)(hG:Vf G):qy ρ (join F G)=(qy ρ F || qy ρ G):=by
 rw[join,yJ ρ (qfz hF hG) (qh0 F G),yJ ρ hF hG,qcW ρ hF hG];cases qy ρ F <;> cases qy ρ G <;> rfl
end Fs
namespace L2
open PySem PySem.Spec PyProof.Rows
noncomputable def zO(env:Env):List (Str×NameKind)->List (Str×Addr)->List (Str×Addr)
 | [],c7=>c7
 |(n,k)::r,c7=>zO env r (if (k == NameKind.free)=true then(n,(env.cells.lookup n).getD 0)::c7 else c7)
theorem qcY(env:Env):∀(l:List (Str×NameKind))(c7:List (Str×Addr)),(∀ y∈l,y.2=.free->∃ c,env.cells.lookup y.1=some c) ->
  (forIn l c7 λ(x:Str×NameKind)(cs:List (Str×Addr))=>match x with
   |(name,kind)=>if (kind == NameKind.free)=true then do let a <- cellOf env name;pure (ForInStep.yield ((name,a)::cs)) else pure (ForInStep.yield cs):Sem (List (Str×Addr)))=pure (zO env l c7)
 | [],c7,_=>by rw[Jv];rfl
 |(n,k)::r,c7,h=>by
  rw[U8];by_cases hk:(k == NameKind.free)=true
  ·obtain⟨c,hc⟩:=h (n,k) Y9 (by simpa using hk);have e:cellOf env n=pure c:=by unfold cellOf;rw[show env.cells.lookup n=some c from hc]
   simp only[hk,Vv,e,pure_bind];rw[qcY env r _ λ y hy=>h y (Yf _ hy)];rw[zO,Vy hk,show env.cells.lookup n=some c from hc];rfl
  ·have N0:(k == NameKind.free)=false:=by simpa using hk
   simp only[N0,Ze,Vn,pure_bind];rw[qcY env r _ λ y hy=>h y (Yf _ hy),zO,Vz hk]
theorem yw(h:∀ y∈scope.names,y.2=.free->∃ c,env.cells.lookup y.1=some c):closureFor scope env=pure (zO env scope.names []):=by
 unfold closureFor
 have:=qcY env scope.names [] h
 simp only[bind_pure];exact this
theorem qaE(env:Env):∀(l:List (Str×NameKind))(c7:List (Str×Addr)),(∀ y∈l,y.2=.free->∃ c,env.cells.lookup y.1=some c)->(∀ x c,c7.lookup x=some c->env.cells.lookup x=some c) ->
  ∀ x c,(zO env l c7).lookup x=some c->env.cells.lookup x=some c
 | [],c7,_,ha,x,c,e=>ha x c e
 |(n,k)::r,c7,h,ha,x,c,e=>by
  rw[zO] at e;refine qaE env r _ (λ y hy=>h y (Yf _ hy)) ?_ x c e;clear e;intro x c e;by_cases hk:(k == NameKind.free)=true
  ·rw[Vy hk] at e;obtain⟨c',hc⟩:=h (n,k) Y9 (by simpa using hk);rw[show env.cells.lookup n=some c' from hc] at e;rw[Uh] at e;by_cases hx:(x == n)=true
   ·rw[hx] at e
    have:x=n:=by simpa using hx
    subst this;cases e
    exact hc
   ·rw[show(x == n)=false by simpa using hx] at e;exact ha x c e
  ·rw[Vz hk] at e;exact ha x c e
theorem qfA(env:Env):∀(l:List (Str×NameKind))(c7:List (Str×Addr))(x:Str),(c7.lookup x).isSome=true->((zO env l c7).lookup x).isSome=true
 | [],_,_,h=>h
 |(n,k)::r,c7,x,h=>by
  rw[zO];refine qfA env r _ x ?_;by_cases hk:(k == NameKind.free)=true
  ·rw[Vy hk,Uh];cases x == n with
   |true=>rfl
   |false=>exact h
  ·rw[Vz hk];exact h
theorem vR(env:Env):∀(l:List (Str×NameKind))(c7:List (Str×Addr))(x:Str),(x,NameKind.free)∈l->((zO env l c7).lookup x).isSome=true
 |(n,k)::r,c7,x,h=>by
  rw[zO];rcases Qb.mp h with e|e
  ·cases e
   refine qfA env r _ _ ?_;rw[Vy (by decide),Uh];simp only[Ur,Option.isSome_some]
  ·exact vR env r _ x e
noncomputable def zy(X:Cx)(NY:List Str)(scope:Scope)(C:Addr)(s:Shared)(H:Hp)(fp:List Addr)(pins:List (Addr×Obj)):Cx:=
 { X with N:=NY,s₀:=s,H₀:=H,env:=compEnvC scope (zO X.env scope.names []) C X.env,outer:=X.stack,ex:=fp,fn:=λ _=>false,pn:=X.pn++pins,xe:=λ _ _=>False }
structure CompScope(X:Cx)(NY:List Str)(o:Nat)(caps:List Nat)(scope:Scope):Prop where
 kind:scope.kind=.function
 nd:NY.Nodup
 nocell:∀ y∈scope.names,y.2≠.cell
 frees:∀ y∈scope.names,y.2=.free->(X.env.kindOf y.1=some .cell∨X.env.kindOf y.1=some .free)
 locs:∀ y∈scope.names,y.2=.local->scope.names.lookup y.1=some .local
 capOk:∀(j:Nat)(i:Nat),caps[j]?=some i->∃ x,NY[o+j]?=some x/\X.N[i]?=some x/\scope.names.lookup x=some .free
 len:NY.length=o+caps.length
noncomputable def stY(o:Nat)(caps:List Nat)(σ:St):St:=List.replicate o none++caps.map λ i=>(σ[i]?).getD none
theorem j5{env:Env}:∀{names:List (Str×NameKind)}{x:Str},names.lookup x=some .free ->
  (names.map λ(n,k)=>if (k == NameKind.free && env.scope.kind == .function && env.kindOf n == some .cell) then(n,NameKind.cell) else(n,k)).lookup x=some .cell ∨
  (names.map λ(n,k)=>if (k == NameKind.free && env.scope.kind == .function && env.kindOf n == some .cell) then(n,NameKind.cell) else(n,k)).lookup x=some .free
 | [],_,h=>by simp at h
 |(n,k)::r,x,h=>by
  have ih:=@j5 env r x;show List.lookup x ((if (k == NameKind.free && env.scope.kind == .function && env.kindOf n == some .cell)=true then(n,NameKind.cell) else(n,k))::_)=_∨List.lookup x ((if (k == NameKind.free && env.scope.kind == .function && env.kindOf n == some .cell)=true then(n,NameKind.cell) else(n,k))::_)=_
  cases hx:x == n with
  |true =>
   simp only[Uh,hx] at h;cases h
   by_cases hc:(NameKind.free == NameKind.free && env.scope.kind == .function && env.kindOf n == some .cell)=true
   ·rw[Vy hc];left;simp only[Uh,hx]
   ·rw[Vz hc];right;simp only[Uh,hx]
  |false =>
   simp only[Uh,hx] at h;by_cases hc:(k == NameKind.free && env.scope.kind == .function && env.kindOf n == some .cell)=true
   ·rw[Vy hc];simp only[Uh,hx];exact ih h
   ·rw[Vz hc];simp only[Uh,hx];exact ih h
theorem qaF{env:Env}:∀{names:List (Str×NameKind)}{x:Str}{k:NameKind},(∀ y∈names,y.2≠.cell) ->
  (names.map λ(n,k)=>if (k == NameKind.free && env.scope.kind == .function && env.kindOf n == some .cell) then(n,NameKind.cell) else(n,k)).lookup x=some k->(k=.cell∨k=.free)->names.lookup x=some .free
 | [],_,_,_,h,_=>by simp at h
 |(n,k0)::r,x,k,nc,h,hk=>by
  have ih:=@qaF env r x k (λ y hy=>nc y (Yf _ hy));replace h:List.lookup x ((if (k0 == NameKind.free && env.scope.kind == .function && env.kindOf n == some .cell)=true then(n,NameKind.cell) else(n,k0))::(r.map λ(n,k)=>if (k == NameKind.free && env.scope.kind == .function && env.kindOf n == some .cell) then(n,NameKind.cell) else(n,k)))=some k:=h;have n0:k0≠.cell:=nc (n,k0) Y9;cases hx:x == n with
  |true =>
   by_cases hc:(k0 == NameKind.free && env.scope.kind == .function && env.kindOf n == some .cell)=true
   ·have:k0=.free:=by
     simp only[Ug] at hc;simpa using hc.1.1
    simp only[Uh,hx,this]
   ·rw[Vz hc] at h;simp only[Uh,hx] at h ⊢;cases h
    rcases hk with e|e
    ·exact absurd e n0
    ·rw[e]
  |false =>
   by_cases hc:(k0 == NameKind.free && env.scope.kind == .function && env.kindOf n == some .cell)=true
   ·rw[Vy hc] at h;simp only[Uh,hx] at h ⊢;exact ih h hk
   ·rw[Vz hc] at h;simp only[Uh,hx] at h ⊢;exact ih h hk
theorem Un.but(u:Un fs ex H H' h h1)(hs:Heap.SameBut C h1 h2)(hC:h.objs.size<=C):Un fs ex H H' h h2:=by
 have ne:∀ b o,h.get? b=some o->b≠C:=λ b o e z=>by subst z;exact absurd (Y8 (Qo e) hC) (Qa _)
 refine⟨λ b o e n hb hx=>(hs.2 b (ne b o e)).trans (u.keep b o e n hb hx),λ b o e n hb hx=>?_,u.free,λ b o e hx=>?_,u.tups,u.frzs,u.tbls⟩
 ·obtain⟨sl,q⟩:=u.slot b o e n hb hx;exact⟨sl,(hs.2 b (ne b o e)).trans q⟩
 ·obtain⟨o',q⟩:=u.there b o e hx;exact⟨o',(hs.2 b (ne b o e)).trans q⟩
theorem HOk.but(ok:HOk P w H h)(hs:Heap.SameBut C h h')(hC:H C=none):HOk P w H h':=λ a o e=>by
 refine(ok a o e).stay (λ b u hb q=>(hs.2 b ?_).trans q) (λ _ q=>q) λ _ _ q=>q
 rcases hb with z|z
 ·rw[z];exact λ y=>by rw[y,hC] at e;cases e
 ·exact λ y=>by rw[y,hC] at z;cases z
abbrev Adv:=Nat->St->Hp->(St->Hp->Prop)->Prop
structure Walk(Y:Cx)(tg:Expr)(fp:List Addr)(it:Addr)(tn:Nat->Heap->Prop)(adv:Adv)(stop:Nat->Hp->Prop):Prop where
 obj:∀ i h,tn i h->∀ b∈fp,∃ o,h.get? b=some o/\∀ v,o.data≠.cell v
 keep:∀ i h h',tn i h->(∀ b∈fp,∀ o,h.get? b=some o->h'.get? b=some o)->tn i h'
 item:∀(i:Nat)(pins:List (Addr×Obj))(s:Shared)(σ:St)(H:Hp)(N:St->Hp->Prop),Inv Y pins σ H s->(∀ b∈fp,yY Y pins H b)->tn i s.heap->adv i σ H N ->
  wpAny (model Y.prog Y.w) Y.A (pyNext (.ref it)) (λ r s1=>∃ u,r=some u/\wpAny (model Y.prog Y.w) Y.A (letOwnedTupleGo tg (.ref it) u) (λ _ s2 =>
   wpAny (model Y.prog Y.w) Y.A (assign tg Y.env u) (λ _ s3=>∃ σ' H',Inv Y pins σ' H' s3/\N σ' H'/\tn (i+1) s3.heap/\∀ b∈fp,H' b=none) Y.xe s2) Y.xe s1) Y.xe s
 done:∀(i:Nat)(pins:List (Addr×Obj))(s:Shared)(σ:St)(H:Hp),Inv Y pins σ H s->(∀ b∈fp,yY Y pins H b)->tn i s.heap->stop i H ->
  wpAny (model Y.prog Y.w) Y.A (pyNext (.ref it)) (λ r s1=>r=none/\Inv Y pins σ H s1) Y.xe s
 self:∀(A:Around)(i:Nat)(s:Shared)(Q:Value->Shared->Prop)(E:Value->Shared->Prop),tn i s.heap->Q (.ref it) s->wpAny (model Y.prog Y.w) A (pyIter (.ref it)) Q E s
theorem zE{tg:Expr}{tn:Nat->Heap->Prop} {s5:Shared}(obj:∀ b∈fp,∃ o,s5.heap.get? b=some o/\∀ v,o.data≠.cell v)(keep:∀ h',(∀ b∈fp,∀ o,s5.heap.get? b=some o->h'.get? b=some o)->tn i h')(I6:Inv Y (pins++vH fp s5.heap) σ6 H6 s6):Inv Y pins σ6 H6 s6/\tn i s6.heap/\∀ b∈fp,H6 b=none:=by
 refine⟨I6.unpinned,keep _ λ b hb o e=>(I6.pin (b,o) (XN _ (XN _ (ym hb e)))).1,λ b hb=>?_⟩;obtain⟨o,e,d⟩:=obj b hb;exact(I6.pin (b,o) (XN _ (XN _ (ym hb e)))).2.1
def qd5(J:It)(g:TG):Adv:=λ i σ H N=>J.go i H/\∀ x H',J.yld i H x H'->g x σ H' N
theorem Turn.walk(hc:Y.calm=true)(T:Turn Y.prog Y.w Y.K tg J fp it tn)(hg:PG Y tg g):Walk Y tg fp it tn (qd5 J g) J.stop where
 obj:=T.obj
 keep:=T.keep
 item:=by
  intro i pins s σ H N I hf st ⟨go,step⟩;refine thn (T.item Y rfl rfl rfl hc i pins s σ H Y.xe I hf st go) λ r s4 ⟨u,hr,h4⟩=>⟨u,hr,?_⟩
  refine thn h4 λ _ s5 ⟨x,H5,I5,r5,y5,V0,oV⟩=>?_
  have I5':=I5.pinned (fp:=fp) (λ b hb=>⟨oV b hb,(hf b hb).2⟩) (T.obj _ _ V0);refine thn (hg _ s5 σ H5 x u _ I5' r5 (step x H5 y5)) λ _ s6 ⟨σ6,H6,I6,q6⟩=>?_
  obtain⟨J1,J2,J3⟩:=zE (tg:=tg) (tn:=tn) (i:=i+1) (T.obj _ _ V0) (λ h' k=>T.keep _ _ _ V0 k) I6;exact⟨σ6,H6,J1,q6,J2,J3⟩
 done:=λ i pins s σ H I hf st hs=>T.done Y rfl rfl rfl hc i pins s σ H Y.xe I hf st hs
 self:=T.self
structure It2 where 
 go:Nat->Hp->Prop
 yld:Nat->Hp->List V->Hp->Prop
 stop:Nat->Hp->Prop
structure Turn2(P:Program)(w:World)(K:W.Frag)(tg:Expr)(J:It2)(fp:List Addr)(it:Addr)(tn:Nat->Heap->Prop):Prop where
 obj:∀ i h,tn i h->∀ b∈fp,∃ o,h.get? b=some o/\∀ v,o.data≠.cell v
 keep:∀ i h h',tn i h->(∀ b∈fp,∀ o,h.get? b=some o->h'.get? b=some o)->tn i h'
 item:∀(X:Cx),X.prog=P->X.w=w->X.K=K->X.calm=true->∀(i:Nat)(pins:List (Addr×Obj))(s:Shared)(σ:St)(H:Hp)(E:Value->Shared->Prop),Inv X pins σ H s->(∀ b∈fp,yY X pins H b)->tn i s.heap->J.go i H ->
  wpAny (model P w) X.A (pyNext (.ref it)) (λ r s1=>∃ p,r=some (.ref p) /\
   wpAny (model P w) X.A (letOwnedTupleGo tg (.ref it) (.ref p)) (λ _ s2=>∃ xs us H',Inv X pins σ H' s2/\IsTup s2.heap p us.toArray/\qL xs us/\J.yld i H xs H'/\tn (i+1) s2.heap/\∀ b∈fp,H' b=none) E s1) E s
 done:∀(X:Cx),X.prog=P->X.w=w->X.K=K->X.calm=true->∀(i:Nat)(pins:List (Addr×Obj))(s:Shared)(σ:St)(H:Hp)(E:Value->Shared->Prop),Inv X pins σ H s->(∀ b∈fp,yY X pins H b)->tn i s.heap->J.stop i H ->
  wpAny (model P w) X.A (pyNext (.ref it)) (λ r s1=>r=none/\Inv X pins σ H s1) E s
 self:∀(A:Around)(i:Nat)(s:Shared)(Q:Value->Shared->Prop)(E:Value->Shared->Prop),tn i s.heap->Q (.ref it) s->wpAny (model P w) A (pyIter (.ref it)) Q E s
def qgO(J:It2)(n:Nat)(t:TGs):Adv:=λ i σ H N=>J.go i H/\∀ xs H',J.yld i H xs H'->xs.length=n/\t xs σ H' N
theorem Turn2.walk(hc:Y.calm=true)(T:Turn2 Y.prog Y.w Y.K (.Tuple es k pos) J fp it tn)(hg:PGs Y es t)(hn:(assignEach es Y.env).length=n:=by rfl)(M8:(assignEach es Y.env).findIdx? (·.1)=none:=by rfl):Walk Y (.Tuple es k pos) fp it tn (qgO J n t) J.stop where
 obj:=T.obj
 keep:=T.keep
 item:=by
  intro i pins s σ H N I hf st ⟨go,step⟩;refine thn (T.item Y rfl rfl rfl hc i pins s σ H Y.xe I hf st go) λ r s4 ⟨p,hr,h4⟩=>⟨.ref p,hr,?_⟩
  refine thn h4 λ _ s5 ⟨xs,us,H5,I5,ht,r5,y5,V0,oV⟩=>?_
  have I5':=I5.pinned (fp:=fp) (λ b hb=>⟨oV b hb,(hf b hb).2⟩) (T.obj _ _ V0);obtain⟨hl,hw⟩:=step xs H5 y5;refine assign_Tuple_tuple (I5.ok.hd hc) ht (by simp[hn,<- hl,r5.length]) M8 λ h' hx=>?_
  have I6:Inv Y (pins++vH fp s5.heap) σ H5 { s5 with heap:=h' }:=I5'.kept (t':=s5.toks) λ b o e=>hx b o (Qp (Qo e)) e
  refine thn (hg _ _ σ H5 xs _ N I6 (by simpa using r5) hw) λ _ s6 ⟨σ6,H6,I7,q6⟩=>?_
  obtain⟨J1,J2,J3⟩:=zE (tg:=.Tuple es k pos) (tn:=tn) (i:=i+1) (T.obj _ _ V0) (λ h' k=>T.keep _ _ _ V0 k) I7;exact⟨σ6,H6,J1,q6,J2,J3⟩
 done:=λ i pins s σ H I hf st hs=>T.done Y rfl rfl rfl hc i pins s σ H Y.xe I hf st hs
 self:=T.self
abbrev TI2:=St->Hp->(It2->Hp->Prop)->Prop
def PI2(X:Cx)(tg iter:Expr)(wi:TI2):Prop:=
 ∀(pins:List (Addr×Obj))(s:Shared)(σ:St)(H:Hp)(R:It2->Hp->Prop),Inv X pins σ H s->wi σ H R ->
  wpAny (model X.prog X.w) X.A (eval iter X.env) (λ v s1=>wpAny (model X.prog X.w) X.A (pyIter v) (λ hW s2 =>
   ∃(it:Addr)(fp:List Addr)(tn:Nat->Heap->Prop)(J:It2)(H':Hp),hW=.ref it/\Inv X pins σ H' s2/\Turn2 X.prog X.w X.K tg J fp it tn/\tn 0 s2.heap/\(∀ b∈fp,yY X pins H' b)/\R J H') X.xe s1) X.xe s
def PTs(X:Cx)(C3:List Expr)(tt:TT):Prop:=∀(pins:List (Addr×Obj))(s:Shared)(σ:St)(H:Hp)(Q:Bool->Hp->Prop),Inv X pins σ H s->tt σ H Q ->
 wpAny (model X.prog X.w) X.A (forIn C3 true λ c r=>if r=true then do let ok <- isTrue c X.env (eval c X.env);pure (ForInStep.yield ok) else pure (ForInStep.yield r)) (TP X pins σ Q) X.xe s
def qph:TT:=λ _ H Q=>Q true H
theorem ze:PTs X [] qph:=λ _ _ _ H _ I h=>wpAny_tests_nil ⟨H,I,h⟩
theorem qab(hc:PT X c tt):PTs X [c] tt:=λ pins s σ H Q I h=>wpAny_tests_one (hc pins s σ H Q I h)
section
variable {prog:Program}{w:World}{A:Around}{R:Result->Shared->Prop}{s:Shared}
theorem j6(I:Nat->Shared->Prop)(turn:∀ n s,I n s->wpAny (model prog w) A (pyNext it) (λ r s₁=>match r with
   |none=>R (.ok .next) s₁
   |some v=>wpAny (model prog w) A (letOwnedTupleGo G1 it v) (λ _ s₁'=>wpAny (model prog w) A (assign G1 env v) (λ _ s₂ =>
     wpAny (model prog w) A (forIn C3 true λ c r=>if r=true then do let ok <- isTrue c env (eval c env);pure (ForInStep.yield ok) else pure (ForInStep.yield r)) (λ ok s₃ =>
      if ok=true then wpAny (model prog w) A (eval G0 env) (λ x s₄ =>
       wpAny (model prog w) A (call (.builtin "list.append") [c7,x]) (λ _ s₅=>∃ m,m<n/\I m s₅) (λ _ _=>False) s₄) (λ _ _=>False) s₃
      else ∃ m,m<n/\I m s₃) (λ _ _=>False) s₂) (λ _ _=>False) s₁') (λ _ _=>False) s₁) (λ _ _=>False) s)(n:Nat)(h:I n s):
  codeAny (model prog w) A (.compLoop (.ListComp G0 [⟨G1,iter,C3,0⟩] scope pos) 0 it c7 env) R s:=by
 refine codeAny_loop rfl I (λ n s hI=>?_) n h;show wpAny _ A ((compTurn (.ListComp G0 [⟨G1,iter,C3,0⟩] scope pos) 0 it c7 env).onRaise (λ x=>do noteFrame x env;theTreesLotGoes x)) _ _ s
 refine wpAny_noted ?_;rw[compTurn_list];have no:∀{E:Value->Shared->Prop}(x:Value)(s':Shared),False->E x s':=λ _ _ f=>f.elim
 refine Ve (wpAny_standAt (Ve (Vd (turn n s hI) (λ r s₁ h₁=>?_) no)));cases r with
 |none=>exact Vg h₁
 |some v =>
  refine Ve (Vd h₁ (λ _ s₁' h₁'=>?_) no);refine Ve (Vd h₁' (λ _ s₂ h₂=>Ve (Vd h₂ (λ ok s₃ h₃=>?_) no)) no);cases ok with
  |false=>exact Vg ⟨rfl,h₃⟩
  |true =>
   exact Ve (Ve (Vd h₃ (λ x s₄ h₄=>Ve (Vd h₄ (λ _ s₅ h₅=>Vg (Vg ⟨rfl,h₅⟩)) no)) no))
end
def Kp(o:Nat)(σ0 σ:St):Prop:=σ.drop o=σ0.drop o/\σ.length=σ0.length
theorem Kp.get(k:Kp o (stY o caps σ) σ2):∀(j:Nat)(v:V),(stY o caps σ)[j]?=some (some v)->σ2[j]?=some (some v):=by
 intro j v e;by_cases hj:j<o
 ·unfold stY at e;rw[Xm (by simpa using hj),X1,Vy hj] at e;cases e
 ·have e1:(σ2.drop o)[j-o]?=((stY o caps σ).drop o)[j-o]?:=by rw[k.1]
  rw[Zf,Zf,show o+(j-o)=j by omega] at e1;rw[e1];exact e
theorem qjL(e:(stY o caps σ)[j]?=some (some v)):∃ j' i,j=o+j'/\caps[j']?=some i/\σ[i]?=some (some v):=by
 unfold stY at e;by_cases hj:j<o
 ·rw[Xm (by simpa using hj),X1,Vy hj] at e;cases e
 ·rw[Xh (by simpa using hj),XO,Zn] at e;cases q:caps[j-o]? with
  |none=>rw[q] at e;cases e
  |some i =>
   rw[q] at e;refine⟨j-o,i,by omega,q,?_⟩;cases q2:σ[i]? with
   |none=>rw[Option.map_some,q2] at e;cases e
   |some z =>
    rw[Option.map_some,q2] at e;have e':z=some v:=Option.some.inj e;rw[e']
def yO(o:Nat)(caps:List Nat)(adv:Adv)(stop:Nat->Hp->Prop)(tt:TT)(te:TE)(σ:St)(H1:Hp)(Q:VK):Prop:=
 ∀ D,H1 D=none->∃ W:Nat->Nat->List V->Hp->Prop,(∃ m,W 0 m [] (upd H1 D (.lst [])))/\∀ i m ys H,W i m ys H ->
  (stop i H/\Q (.ref D) H)∨adv i (stY o caps σ) H λ σ2 H2=>Kp o (stY o caps σ) σ2/\tt σ2 H2 λ b H3=>if b=true then te σ2 H3 λ y H4=>H4 D=some (.lst ys)/\ys.length<sizeLine/\∃ m',m'<m/\W (i+1) m' (ys++[y]) (upd H4 D (.lst (ys++[y])))
   else ∃ m',m'<m/\W (i+1) m' ys H3
section
variable {X:Cx}
theorem qfB(S:CompScope X NY o caps scope)(I2:Inv X pins σ H2 s2)(B3:∀ b∈fp,yY X pins H2 b)(mP:∀ b∈fp,∃ ob,s2.heap.get? b=some ob)(hns:h₁.Ns (s2.heap.objs.size+1) λ _=>none)(l7:∀ b ob,s2.heap.get? b=some ob->h₁.get? b=some ob)(hD:∃ n,h₁.get? s2.heap.objs.size=some { cls:=.type "list",data:=.seq ([]:List Value).toArray n })(t':Nat):
  Inv (zy X NY scope (s2.heap.objs.size+1) s2 H2 fp pins) [] (stY o caps σ) (upd H2 s2.heap.objs.size (.lst [])) { s2 with heap:=h₁,toks:=t' }:=by
 have frees:∀ y∈scope.names,y.2=.free->∃ c,X.env.cells.lookup y.1=some c:=λ y hy e=>I2.ok.has _ (S.frees y hy e)
 have r6:∀ x c,(zO X.env scope.names []).lookup x=some c->X.env.cells.lookup x=some c:=qaE X.env scope.names [] frees (λ x c e=>by simp at e);have T7:H2 s2.heap.objs.size=none:=I2.hok.fresh (Q5 _);have oH:H2 (s2.heap.objs.size+1)=none:=I2.hok.fresh (Q7 _);have sH:∀ b ob,s2.heap.get? b=some ob->b≠s2.heap.objs.size+1:=λ b ob e=>Qp (Zt (Qo e))
 have sG:∀ b ob,s2.heap.get? b=some ob->b≠s2.heap.objs.size:=λ b ob e=>Qp (Qo e)
 have oB:HOk X.prog X.w (upd H2 s2.heap.objs.size (.lst [])) h₁:=by
  obtain⟨n,hD⟩:=hD;exact I2.hok.laid l7 (Q5 _) ⟨Q6 _,[],n,.nil,hD⟩
 refine⟨?_,rfl,I2.bare,?_,?_,?_,?_,?_,?_,oB,?_⟩
 ·refine⟨I2.ok.mod,S.kind,I2.ok.glob,I2.ok.blt,Q7 _,λ x y c h1 h2=>I2.ok.inj x y c (r6 x c h1) (r6 y c h2),λ x hx=>?_,λ x c e=>absurd e Za,I2.ok.hd,I2.ok.frames,.inl rfl,λ b hb=>?_,
   I2.bs,Qq I2.ok.bsz I2.sz,λ b ob e hb=>?_,λ b hb z=>?_,I2.stack,I2.stkFree⟩
  ·have x3:scope.names.lookup x=some .free:=by
    rcases hx with q|q
    ·exact qaF (env:=X.env) S.nocell q (.inl rfl)
    ·exact qaF (env:=X.env) S.nocell q (.inr rfl)
   exact Xs.mp (vR X.env scope.names [] x (Yu x3))
  ·obtain⟨ob,e⟩:=mP b hb;exact⟨sH b ob e,λ x c q=>(B3 b hb).2.2.2.2.1 x c (r6 x c q)⟩
  ·rcases(B3 b hb).2.2.2.1 with q | q
   ·exact I2.ok.noex b ob e q
   ·exact absurd (Y8 (Qo e) (Qq I2.ok.bsz q)) (Qa _)
  ·rcases Qb.mp (I2.stkSub b z) with q | q
   ·exact(B3 b hb).2.1 q
   ·exact(B3 b hb).2.2.1 q
 ·exact Un.laid l7 (Q5 _) T7
 ·refine⟨_,hns,λ j x v e1 e2 e3=>?_⟩;obtain⟨j',i,ej,ec,es⟩:=qjL e2;obtain⟨x',n1,n2,n3⟩:=S.capOk j' i ec;rw[<- ej] at n1;have ex:x=x':=Option.some.inj ((show NY[j]?=some x from e1).symm.trans n1);subst ex;have hk:=S.frees (x,.free) (Yu n3) rfl;obtain⟨m,_,hl⟩:=I2.loc;have hv:Vis X.env.scope x:=hk.elim (λ q=>.inr (.inl q)) λ q=>.inr (.inr q)
  obtain⟨u,ru,lk⟩:=hl i x v n2 es hv;refine⟨u,ru,.inr ⟨j5 (env:=X.env) n3,?_⟩⟩;rcases lk with⟨q,_⟩|⟨_,c,ec,cell⟩
  ·rcases hk with z | z
   ·rw[show X.env.kindOf x=some .cell from z] at q;cases q
   ·rw[show X.env.kindOf x=some .free from z] at q;cases q
  ·obtain⟨c',I0⟩:=Xs.mp (vR X.env scope.names [] x (Yu n3))
   have:=r6 x c' I0
   rw[ec] at this;cases this
   obtain⟨ob,e,d⟩:=cell;exact⟨c,I0,ob,l7 c ob e,d⟩
 ·intro x c e;obtain⟨v,ob,q,d⟩:=I2.cell x c (r6 x c e);exact⟨v,ob,l7 c ob q,d⟩
 ·show upd H2 s2.heap.objs.size (.lst []) (s2.heap.objs.size+1)=none
  rw[qp (Ui _)];exact oH
 ·intro x c e;obtain⟨v,ob,q,d⟩:=I2.cell x c (r6 x c e);rw[qp (sG c ob q)];exact I2.freeC x c (r6 x c e)
 ·intro p hp;have E9:p∈X.pn++pins:=by
   have:p∈(X.pn++pins)++[]:=hp
   simpa using this
  obtain⟨e,n,ne,nf,d⟩:=I2.pin p E9;refine⟨l7 _ _ e,by rw[qp (sG _ _ e)];exact n,sH _ _ e,λ z=>?_,d⟩;rcases Qb.mp (I2.stkSub p.1 z) with q|q
  ·exact ne q
  ·exact nf q
 ·show(stY o caps σ).length=NY.length
  unfold stY;rw[Zb,XO,U0,S.len]
theorem qcZ(S:CompScope X NY o caps scope)(I2:Inv X pins σ H2 s2)(B3:∀ b∈fp,yY X pins H2 b)(l0:tn 0 s2.heap)(Wk:∀ C,Walk (zy X NY scope C s2 H2 fp pins) tg fp it tn adv stop)(ht:∀ C,PTs (zy X NY scope C s2 H2 fp pins) C3 tt)(he:∀ C,PE (zy X NY scope C s2 H2 fp pins) G0 te)(h:yO o caps adv stop tt te σ H2 Q):
  wpAny (model X.prog X.w) X.A (newList []) (λ c7 s₃=>wpAny (model X.prog X.w) X.A (newFunctionEnv scope X.env.globals (zO X.env scope.names []) [] X.env.qual none .none (some X.env)) (λ R0 s₄ =>
   codeAny (model X.prog X.w) X.A (.compStart (.ListComp G0 [⟨tg,iter,C3,0⟩] scope pos) 0 (.ref it) c7 { R0 with scope:=relabel scope X.env }) (compPost (model X.prog X.w) X.A X.xe none (EP X pins σ Q) c7 R0.locals) s₄) X.xe s₃) X.xe s2:=by
 refine Z4 (wpAny_newFunctionEnv S.nocell (by intro y hy;simp at hy) (λ h₁ hns₁ N9₁=>?_) S.kind);dsimp only at hns₁ N9₁ ⊢;have hC:(s2.heap.push { cls:=.type "list",dict:=none,data:=.seq ([]:List Value).toArray }).objs.size=s2.heap.objs.size+1:=Jr _ _;rw[hC] at hns₁ N9₁ ⊢;have l7:∀ b ob,s2.heap.get? b=some ob->h₁.get? b=some ob:=λ b ob e =>
  (N9₁.2 b (Qp (Zt (Qo e)))).trans (XB _ (XB _ e))
 have hD:∃ n,h₁.get? s2.heap.objs.size=some { cls:=.type "list",data:=.seq ([]:List Value).toArray n }:=
  ⟨_,(N9₁.2 _ (Qp (Ud _))).trans (XB _ (Yt _ rfl))⟩
 have T7:H2 s2.heap.objs.size=none:=I2.hok.fresh (Q5 _);obtain⟨W,⟨m0,w0⟩,turn⟩:=h _ T7;have cQ:=(Wk 0).obj 0 s2.heap l0;have I4:=qfB S I2 B3 (λ b hb=>(cQ b hb).imp λ _ q=>q.1) (hns:=hns₁) l7 hD (s2.toks+([]:List (Str×Value)).length);have lQ:tn 0 h₁:=(Wk 0).keep _ _ _ l0 λ b _ ob e=>l7 b ob e
 have uU:∀ b∈fp,upd H2 s2.heap.objs.size (.lst []) b=none:=λ b hb=>by
  obtain⟨ob,e,_⟩:=cQ b hb;rw[qp (Qp (Qo e))];exact(B3 b hb).1
 have loop:codeAny (model X.prog X.w) X.A (.compLoop (.ListComp G0 [⟨tg,iter,C3,0⟩] scope pos) 0 (.ref it) (.ref s2.heap.objs.size) (compEnvC scope (zO X.env scope.names []) (s2.heap.objs.size+1) X.env))
   (compPost (model X.prog X.w) X.A X.xe none (EP X pins σ Q) (.ref s2.heap.objs.size) (s2.heap.objs.size+1)) { s2 with heap:=h₁,toks:=s2.toks+([]:List (Str×Value)).length }:=by
  have Wk:=Wk (s2.heap.objs.size+1);have ht:=ht (s2.heap.objs.size+1);have he:=he (s2.heap.objs.size+1);generalize hY:zy X NY scope (s2.heap.objs.size+1) s2 H2 fp pins=Y at Wk ht he I4;have eR:∀{H':Hp},(∀ b∈fp,H' b=none)->∀ b∈fp,yY Y [] H' b:=λ{H'} hn b hb=>by
   subst hY;obtain⟨ob,e,_⟩:=cQ b hb;have k:=I4.ok.exf b hb;refine⟨hn b hb,k.1,I4.ok.exfs b hb,.inl hb,k.2,λ p hp=>?_⟩;have E9:p∈X.pn++pins:=by
    have:p∈(X.pn++pins)++[]:=hp
    simpa using this
   exact(B3 b hb).2.2.2.2.2 p E9
  refine j6 (λ n s'=>∃ i ys H',Inv Y [] (stY o caps σ) H' s'/\tn i s'.heap/\(∀ b∈fp,H' b=none)/\W i n ys H') ?_ m0 ⟨0,[],_,I4,lQ,uU,w0⟩;rintro n s3 ⟨i,ys,H3,I3,G5,aT,w3⟩;have eE:Y.xe=λ _ _=>False:=by subst hY;rfl
  have wJ:Y.prog=X.prog/\Y.w=X.w/\Y.A=X.A/\Y.env=compEnvC scope (zO X.env scope.names []) (s2.heap.objs.size+1) X.env:=by subst hY;exact⟨rfl,rfl,rfl,rfl⟩
  obtain⟨eP,ew,eA,ee⟩:=wJ;rw[<- eP,<- ew,<- eA,<- ee,<- eE];rcases turn i n ys H3 w3 with⟨stp,qn⟩|av
  ·refine thn (Wk.done i [] s3 _ H3 I3 (eR aT) G5 stp) λ r s4 ⟨hr,I5⟩=>?_
   subst hr;obtain⟨m,hn,_⟩:=id I5.loc;have eC:Y.env.locals=s2.heap.objs.size+1:=by rw[ee];rfl
   rw[eC] at hn;refine⟨m,hn,λ h' hs=>?_⟩;have u:=I5.base;have dG:=I5.hok;have A8:=I5.free;rw[eC] at A8;have T4:=I5.bare;have tL:=I5.os;subst hY;have u2:Un (frs X.stack) fp H2 H3 s2.heap h':=Un.but u hs (Q7 _);have dH:HOk X.prog X.w H3 h':=HOk.but dG hs A8;refine⟨.ref s2.heap.objs.size,H3,?_,rfl,qn⟩;obtain⟨hh,g,d,t,nP⟩:=s4;obtain rfl:nP=s2.os:=tL;exact Inv.call (s:=s2) (h':=h') (g':=g) (d':=d) (t':=t) (ch:=fp) I2 u2 dH T4 λ b hb=>⟨(B3 b hb).2.2.2.1,(B3 b hb).2.1,(B3 b hb).2.2.2.2.1,(B3 b hb).2.2.2.2.2⟩
  ·refine thn (Wk.item i [] s3 _ H3 _ I3 (eR aT) G5 av) λ r s4 ⟨u,hr,h4⟩=>?_
   subst hr;refine thn h4 λ _ s5 h5=>thn h5 λ _ s6 ⟨σ6,H6,I6,⟨kp,q6⟩,S0,uT⟩=>?_
   have xE:=I6.pinned (fp:=fp) (eR uT) (Wk.obj _ _ S0);refine thn (ht _ s6 σ6 H6 _ xE q6) λ b s7 ⟨H7,I7,q7⟩=>?_
   cases b with
   |false =>
    obtain⟨m',hm,w7⟩:=q7;obtain⟨J1,J2,J3⟩:=zE (tg:=tg) (tn:=tn) (i:=i+1) (Wk.obj _ _ S0) (λ h' k=>Wk.keep _ _ _ S0 k) I7;exact⟨m',hm,i+1,ys,H7,J1.weak kp.2.symm kp.get,J2,J3,w7⟩
   |true =>
    refine thn (he _ s7 σ6 H7 _ I7 q7) λ y s8 ⟨yv,H8,I8,r8,uI,mC,m',hm,w8⟩=>?_
    refine thn (yb (X:=Y) _ s8 σ6 H8 (.ref s2.heap.objs.size) [yv] _ _ (λ v H'=>v=.non/\H'=upd H8 s2.heap.objs.size (.lst (ys++[yv]))) I8 rfl (.cons r8 .nil) ⟨_,ys,yv,rfl,rfl,uI,mC,rfl,rfl⟩) λ v s9 ⟨_,H9,I9,_,_,e9⟩=>?_
    subst e9;obtain⟨J1,J2,J3⟩:=zE (tg:=tg) (tn:=tn) (i:=i+1) (Wk.obj _ _ S0) (λ h' k=>Wk.keep _ _ _ S0 k) I9;exact⟨m',hm,i+1,ys++[yv],_,J1.weak kp.2.symm kp.get,J2,J3,w8⟩
 exact XM loop ((Wk 0).self _ 0 _ _ _ lQ loop)
def qjM(o:Nat)(caps:List Nat)(wi:TI)(g:TG)(tt:TT)(te:TE):TE:=λ σ H Q=>wi σ H λ J H1=>yO o caps (qd5 J g) J.stop tt te σ H1 Q
theorem zg(S:CompScope X NY o caps scope)(hc:X.calm=true)(hi:PI X tg iter wi)(hg:∀ C s H fp pins,PG (zy X NY scope C s H fp pins) tg g)(ht:∀ C s H fp pins,PTs (zy X NY scope C s H fp pins) C3 tt)(he:∀ C s H fp pins,PE (zy X NY scope C s H fp pins) G0 te)(hs:∀ x,foldedSetIterable iter X.env x=pure x:=by intro _;rfl):PE X (.ListComp G0 [⟨tg,iter,C3,0⟩] scope pos) (qjM o caps wi g tt te):=by
 intro pins s σ H Q I h;rw[eval_ListComp];refine X0 (use:=none) (g:=⟨tg,iter,C3,0⟩) (gs:=[]) rfl hs (yw λ y hy e=>I.ok.has _ (S.frees y hy e)) S.kind S.locs ?_;show wpAny _ _ (eval iter X.env) _ _ s
 refine thn (hi pins s σ H _ I h) λ v s1 h1=>thn h1 λ hW s2 h2=>?_
 obtain⟨it,fp,tn,J,H2,e,I2,T,l0,f2,hr⟩:=h2;subst e;exact qcZ S I2 f2 l0 (λ C=>Turn.walk (Y:=zy X NY scope C s2 H2 fp pins) hc T (hg _ _ _ _ _)) (λ C=>ht _ _ _ _ _) (λ C=>he _ _ _ _ _) hr
def qm9(o:Nat)(caps:List Nat)(wi:TI2)(n:Nat)(t:TGs)(tt:TT)(te:TE):TE:=λ σ H Q=>wi σ H λ J H1=>yO o caps (qgO J n t) J.stop tt te σ H1 Q
theorem qbf(S:CompScope X NY o caps scope)(hc:X.calm=true)(hi:PI2 X (.Tuple es k B0) iter wi)(hg:∀ C s H fp pins,PGs (zy X NY scope C s H fp pins) es t)(hn:∀ env,(assignEach es env).length=n)(M8:∀ env,(assignEach es env).findIdx? (·.1)=none)(ht:∀ C s H fp pins,PTs (zy X NY scope C s H fp pins) C3 tt)(he:∀ C s H fp pins,PE (zy X NY scope C s H fp pins) G0 te)(hs:∀ x,foldedSetIterable iter X.env x=pure x:=by intro _;rfl):PE X (.ListComp G0 [⟨.Tuple es k B0,iter,C3,0⟩] scope pos) (qm9 o caps wi n t tt te):=by
 intro pins s σ H Q I h;rw[eval_ListComp];refine X0 (use:=none) (g:=⟨.Tuple es k B0,iter,C3,0⟩) (gs:=[]) rfl hs (yw λ y hy e=>I.ok.has _ (S.frees y hy e)) S.kind S.locs ?_;show wpAny _ _ (eval iter X.env) _ _ s
 refine thn (hi pins s σ H _ I h) λ v s1 h1=>thn h1 λ hW s2 h2=>?_
 obtain⟨it,fp,tn,J,H2,e,I2,T,l0,f2,hr⟩:=h2;subst e;exact qcZ S I2 f2 l0 (λ C=>Turn2.walk (Y:=zy X NY scope C s2 H2 fp pins) hc T (hg _ _ _ _ _) (hn _) (M8 _)) (λ C=>ht _ _ _ _ _) (λ C=>he _ _ _ _ _) hr
end
noncomputable def ItV(n:Nat)(val:Nat->V):It:=⟨λ i _=>i<n,λ i H x H'=>H'=H/\x=val i,λ i _=>i=n⟩
theorem qaG{K:W.Frag}{St:Nat->Heap->Prop}(val:Nat->V)(W:∀ A:Around,A.handled=none->Walks P w A it [it] [it] n Pv St)(hv:∀ i v,Pv i v->qT (val i) v)(ob:∀ i h,St i h->∃ o nm vs,h.get? it=some o/\o.cls=.type nm/\o.data=.fields vs/\["enumerate","zip","dict_itemiterator","dict_reverseitemiterator","odict_iterator","itertools.zip_longest","itertools.pairwise"].contains nm=false)(self:∀(A:Around)(i:Nat)(s:Shared)(Q:Value->Shared->Prop)(E:Value->Shared->Prop),St i s.heap->Q (.ref it) s->wpAny (model P w) A (pyIter (.ref it)) Q E s):
  Turn P w K tg (ItV n val) [it] it St where
 mem:=by simp
 obj:=λ i h st b hb=>by
  have e:b=it:=by simpa using hb
  subst e;obtain⟨o,nm,vs,e,_,d,_⟩:=ob i h st;exact⟨o,e,λ v z=>by rw[d] at z;cases z⟩
 keep:=λ i h h' st k=>by
  have ha:callerA.handled=none:=rfl;exact(W callerA ha).frame i h h' st k
 item:=by
  intro X hP hw hK hc i pins s σ H E I hf st hg;subst hP hw hK;obtain⟨f0,f1,f2,f3,f4,f5⟩:=hf it (by simp);refine(W X.A (I.ok.hd hc)).item i s _ _ hg st λ v h' tk bK b0 kk=>?_
  have I1:Inv X pins σ H { s with heap:=h',toks:=tk }:=I.turned (λ b o hb e=>kk b o (by simpa using hb) e) f0 f1 f3 f4 f5;obtain⟨o,nm,vs,e,c,d,nn⟩:=ob _ _ b0;exact⟨_,rfl,qhK (s:={ s with heap:=h',toks:=tk }) e c d nn ⟨val i,H,I1,hv i v bK,⟨rfl,rfl⟩,b0,λ b hb=>(hf b hb).1⟩⟩
 done:=by
  intro X hP hw hK hc i pins s σ H E I hf st hg;subst hP hw hK;obtain⟨f0,f1,f2,f3,f4,f5⟩:=hf it (by simp);have hg:i=n:=hg;subst hg;exact(W X.A (I.ok.hd hc)).done s _ _ st λ h' tk kk=>⟨rfl,I.turned (λ b o hb e=>kk b o (by simpa using hb) e) f0 f1 f3 f4 f5⟩
 self:=self
theorem qh1{g:TG}{tb:TS}{D:Ends}(Pv:Nat->St->Hp->Prop)(h0:Pv 0 σ H)(hs:∀ i σ H,i<n->Pv i σ H->g (val i) σ H λ σ2 H2=>tb { D with nx:=Pv (i+1),ct:=Pv (i+1),bk:=D.nx } σ2 H2)(hd:∀ σ H,Pv n σ H->D.nx σ H):
  ∃ W:Nat->Nat->St->Hp->Prop,(∃ m,W 0 m σ H)/\∀ i m σ H,W i m σ H ->
   ((ItV n val).stop i H/\D.nx σ H)∨((ItV n val).go i H/\∃ N:St->Hp->Prop,(∀ σ' H',N σ' H'->∃ m',m'<m/\W (i+1) m' σ' H')/\∀ x H',(ItV n val).yld i H x H'->g x σ H' λ σ2 H2=>tb { D with nx:=N,ct:=N,bk:=D.nx } σ2 H2):=by
 refine⟨λ i m σ H=>m=n-i/\i<=n/\Pv i σ H,⟨n,by simp,Q6 _,h0⟩,?_⟩;rintro i m σ H ⟨rfl,hi,p⟩;by_cases i7:i<n
 ·refine .inr ⟨i7,Pv (i+1),λ σ' H' p'=>⟨n-(i+1),by omega,rfl,i7,p'⟩,λ x H' y=>?_⟩;obtain⟨e,y⟩:=y;subst e y;exact hs i σ _ i7 p
 ·have e:i=n:=by omega
  subst e;exact .inl ⟨rfl,hd σ H p⟩
noncomputable def sgn(z:Str)(i:Nat):V:=.str ⟨#[z.cps.getD i 0]⟩
theorem qeF(h:SignAt z i v):qT (sgn z i) v:=by
 obtain⟨c,u,e,rfl⟩:=h;refine⟨u,?_⟩
 have:z.cps.getD i 0=c:=by rw[Xf,e];rfl
 rw[this]
def qpi(te:TE):TI:=λ σ H R=>te σ H λ x H1=>∃ z,x=.str z/\R (ItV z.cps.size (sgn z)) H1
theorem vT(he:PE X e te):PI X tg e (qpi te):=by
 intro pins s σ H R I h;refine thn (he pins s σ H _ I h) λ v s1 ⟨x,H1,I1,r1,z,ez,q⟩=>?_
 subst ez;obtain⟨t,rfl⟩:=r1;cases ha:z.cps.all (·<128) with
 |false =>
  refine wpAny_pyIter_wide ha ⟨s1.heap.objs.size,[s1.heap.objs.size],_,_,H1,rfl,I1.kept (t':=s1.toks) λ b o e=>XB _ e,
   qaG (sgn z) (λ A hA=>Walks.strWide hA _ z t) (λ i v=>qeF) (λ i h st=>?_) (λ _ _ _ _ _ st h=>wpAny_pyIter_striter_wide st h),⟨_,Yt _ rfl,rfl,rfl⟩,λ b hb=>?_,q⟩
  ·obtain⟨o,e,c,d⟩:=st;exact⟨o,_,_,e,c,d,by decide⟩
  ·have e:b=s1.heap.objs.size:=by simpa using hb
   subst e;exact I1.fpOk (Q5 _) (I1.hok.fresh (Q5 _))
 |true =>
  refine wpAny_pyIter_ascii ha ⟨s1.heap.objs.size,[s1.heap.objs.size],_,_,H1,rfl,I1.kept (t':=s1.toks) λ b o e=>XB _ e,
   qaG (sgn z) (λ A hA=>Walks.strAscii hA _ z t) (λ i v=>qeF) (λ i h st=>?_) (λ _ _ _ _ _ st h=>wpAny_pyIter_striter_ascii st h),⟨_,Yt _ rfl,rfl,rfl⟩,λ b hb=>?_,q⟩
  ·obtain⟨o,e,c,d⟩:=st;exact⟨o,_,_,e,c,d,by decide⟩
  ·have e:b=s1.heap.objs.size:=by simpa using hb
   subst e;exact I1.fpOk (Q5 _) (I1.hok.fresh (Q5 _))
theorem qc0(hg:Gl X x)(hm:X.mg x=none)(hv:bootBuiltins x=some (.type T))(ha:PA X [a] ta)(I:Inv X pins σ H s)(h:ta σ H R)(hk:∀ us s1 vs H1,Inv X pins σ H1 s1->qL vs us->R vs H1->wpAny (model X.prog X.w) X.A (call (.type T) us) Q X.xe s1)(hn:x≠"__name__":=by decide)(hd:(x == ("__debug__":Str))=false:=by decide)(hs:starEach [a] X.env=[(false,eval a X.env)]:=by rfl):wpAny (model X.prog X.w) X.A (eval (.Call (.Name x p) [a] [] pos) X.env) Q X.xe s:=by
 refine Call_ (qaA I hg hm hv (Xe (thn (ha pos pins s σ H _ I h) λ us s1 ⟨vs,H1,I1,r1,q1⟩=>hk us s1 vs H1 I1 r1 q1) hs rfl) hn hd)
noncomputable def qna(K:W.Frag)(a:Addr):It2:=
 ⟨λ i H=>∃ xs x,SqL K H a xs/\xs[i]?=some x,λ i H ys H'=>H'=H/\∃ x,ys=[.int i,x]/\∀ xs,SqL K H a xs->xs[i]?=some x,λ i H=>∃ xs,SqL K H a xs/\xs.length<=i⟩
def qnb(e it a:Addr)(i:Nat)(h:Heap):Prop:=(∃ S4,IsEnum h e it i S4)/\h.IsListIter it a i
theorem qiN{K:W.Frag}(a e it:Addr)(M9:e≠it):Turn2 P w K (.Tuple es k pos) (qna K a) [e,it] e (qnb e it a) where
 obj:=λ i h st b hb=>by
  obtain⟨⟨S4,he⟩,o,ho,c,d⟩:=st;have hb:b=e∨b=it:=by simpa using hb
  rcases hb with z|z
  ·subst z;exact⟨_,he,λ v q=>by cases q⟩
  ·subst z;exact⟨o,ho,λ v q=>by rw[d] at q;cases q⟩
 keep:=λ i h h' st k=>by
  obtain⟨⟨S4,he⟩,p6⟩:=st;exact⟨⟨S4,k e (by simp) _ he⟩,p6.at λ o q=>k it (by simp) o q⟩
 item:=by
  intro X hP hw hK hc i pins s σ H E I hf st hg;subst hP hw hK;obtain⟨xs,x,hq,hx⟩:=hg;obtain⟨its,rv,p,hz⟩:=I.list hq;obtain⟨u,hu,ru⟩:=rv.get hx;obtain⟨⟨S4,he⟩,p6⟩:=st;have fe:=hf e (by simp);have fi:=hf it (by simp);refine wpAny_pyNext_enum_item he p6 p.isList (x:=u) (by simpa using hu) M9 λ h' cE K9 ht hsz hk=>?_
  refine⟨s.heap.objs.size,rfl,wpAny_letOwnedTupleGo_enum cE λ h2 tX o6=>?_⟩;replace o6:Heap.SameBut e h' h2:=o6;have dU:e<s.heap.objs.size:=Qo he;have k2:∀ b o,b≠e->b≠it->s.heap.get? b=some o->h2.get? b=some o:=λ b o h1 h3 q=>o6.extBut b o h1 (hk b o h1 h3 q)
  have I1:Inv X pins σ H { s with heap:=h2,toks:=s.toks+1 }:=by
   refine I.step (g':=s.gens) (d':=s.drawn) (ch:=[e,it]) (λ b hb=>?_) (λ b o _ _ c8 q _=>k2 b o (λ z=>c8 (by simp[z])) (λ z=>c8 (by simp[z])) q)
    (λ b o _ _ c8 q _=>⟨o.slots,k2 b o (λ z=>c8 (by simp[z])) (λ z=>c8 (by simp[z])) q⟩) (λ _ _ _ _ n=>n) (λ b o c8 q=>⟨o,k2 b o (λ z=>c8 (by simp[z])) (λ z=>c8 (by simp[z])) q⟩)
    (λ _ _ q=>q) (λ _ _ _ q=>q) (λ b ps q=>⟨#[],by rw[q];simp⟩) (λ m hm=>?_) (λ b u q=>?_) I.bare
   ·have hb:b=e∨b=it:=by simpa using hb
    rcases hb with z|z
    ·subst z;exact⟨fe.2.2.2.1,fe.2.1,fe.2.2.2.2.1,fe.2.2.2.2.2⟩
    ·subst z;exact⟨fi.2.2.2.1,fi.2.1,fi.2.2.2.2.1,fi.2.2.2.2.2⟩
   ·obtain⟨o,u0,ep,ho,r⟩:=hm;exact⟨o,u0,ep,k2 _ o (Vr fe.2.1) (Vr fi.2.1) ho,r⟩
   ·refine(I.hok b u q).stay (λ c v c8 z=>k2 c v (λ y=>?_) (λ y=>?_) z) (λ _ z=>z) λ _ _ z=>z
    ·rcases c8 with y' | y'
     ·rw[<- y',y,fe.1] at q;cases q
     ·rw[y,fe.1] at y';cases y'
    ·rcases c8 with y' | y'
     ·rw[<- y',y,fi.1] at q;cases q
     ·rw[y,fi.1] at y';cases y'
  refine⟨[.int i,x],[.int i s.toks,u],H,I1,⟨_,(o6.extBut _ _ (Qs dU) ht),rfl,_,rfl⟩,.cons ⟨_,rfl⟩ (.cons ru .nil),⟨rfl,x,rfl,λ ys hy=>by rw[I.list_inj hy hq];exact hx⟩,⟨⟨u,?_⟩,K9.extBut o6.extBut (Vr M9)⟩,λ b hb=>(hf b hb).1⟩
  ·have:((i:Int)+1)=((i+1:Nat):Int):=by omega
   rw[<- this];exact tX
 done:=by
  intro X hP hw hK hc i pins s σ H E I hf st hg;subst hP hw hK;obtain⟨xs,hq,hx⟩:=hg;obtain⟨its,rv,p,hz⟩:=I.list hq;obtain⟨⟨S4,he⟩,p6⟩:=st;obtain⟨f0,f1,f2,f3,f4,f5⟩:=hf it (by simp);have hl:=rv.length;exact wpAny_pyNext_enum_end (I.ok.hd hc) he p6 p.isList (by simp;omega) λ h' eb=>⟨rfl,I.turned (t':=s.toks) (λ b o hb e=>eb b o hb e) f0 f1 f3 f4 f5⟩
 self:=λ A i s Q E st h=>by
  obtain⟨⟨S4,he⟩,p6⟩:=st;exact Z5 he h
def qoe(K:W.Frag)(ta:TA):TI2:=λ σ H R=>ta σ H λ vs H1=>∃ a,vs=[.ref a]/\(∃ xs,SqL K H1 a xs)/\R (qna K a) H1
theorem qlD(hg:Gl X "enumerate")(hm:X.mg "enumerate"=none)(ha:PA X [l] ta)(hs:starEach [l] X.env=[(false,eval l X.env)]:=by rfl):
  PI2 X (.Tuple es k B0) (.Call (.Name "enumerate" p) [l] [] pos) (qoe X.K ta):=by
 intro pins s σ H R I h;refine qc0 (R:=λ vs H1=>∃ a,vs=[.ref a]/\(∃ xs,SqL X.K H1 a xs)/\R (qna X.K a) H1) hg hm boot_enumerate ha I h (λ us s1 vs H1 I1 r1 q1=>?_) (hs:=hs);obtain⟨a,e,⟨xs,hq⟩,q⟩:=q1;subst e;obtain⟨u,rfl,ru⟩:=zT r1;cases ru
 obtain⟨its,rv,pl,hz⟩:=I1.list hq;refine call_enumerate_list pl.isList λ h' he p6 hsz hk=>Z5 he ?_
 refine⟨s1.heap.objs.size+1,[s1.heap.objs.size+1,s1.heap.objs.size],_,_,H1,rfl,I1.kept (t':=s1.toks) hk,qiN a _ _ (Ui _),⟨⟨_,he⟩,p6⟩,λ b hb=>?_,q⟩;have hb:b=s1.heap.objs.size+1∨b=s1.heap.objs.size:=by simpa using hb
 rcases hb with z|z
 ·subst z;exact I1.fpOk (Q7 _) (I1.hok.fresh (Q7 _))
 ·subst z;exact I1.fpOk (Q5 _) (I1.hok.fresh (Q5 _))
noncomputable def ItZ(K:W.Frag)(a b:Addr):It2:=
 ⟨λ i H=>∃ xs ys x y,SqL K H a xs/\SqL K H b ys/\xs[i]?=some x/\ys[i]?=some y,λ i H zs H'=>H'=H/\∃ x y,zs=[x,y]/\(∀ xs,SqL K H a xs->xs[i]?=some x)/\(∀ ys,SqL K H b ys->ys[i]?=some y),
  λ i H=>∃ xs ys,SqL K H a xs/\SqL K H b ys/\(xs.length<=i∨ys.length<=i)⟩
def qof(z TI TO i1 i2 a b:Addr)(i:Nat)(h:Heap):Prop:=IsZip h z TI TO .none/\IsPair h TI (.ref i1) (.ref i2)/\(∃ c d,IsPair h TO c d)/\h.IsListIter i1 a i/\h.IsListIter i2 b i
theorem qjN{K:W.Frag} {TI TO:Addr}(D:ZipApart z TI TO i1 i2 a b):
  Turn2 P w K (.Tuple es k pos) (ItZ K a b) [z,TI,TO,i1,i2] z (qof z TI TO i1 i2 a b) where
 obj:=λ i h st c hc=>by
  obtain⟨hz,K0,⟨c1,d1,B1⟩,⟨o1,M3,cc1,dd1⟩,⟨o2,S6,cc2,nB⟩⟩:=st;have hc:c=z∨c=TI∨c=TO∨c=i1∨c=i2:=by simpa using hc
  rcases hc with e|e|e|e|e
  ·subst e;exact⟨_,hz,λ v q=>by cases q⟩
  ·subst e;exact⟨_,K0,λ v q=>by cases q⟩
  ·subst e;exact⟨_,B1,λ v q=>by cases q⟩
  ·subst e;exact⟨o1,M3,λ v q=>by rw[dd1] at q;cases q⟩
  ·subst e;exact⟨o2,S6,λ v q=>by rw[nB] at q;cases q⟩
 keep:=λ i h h' st k=>by
  obtain⟨hz,K0,⟨c1,d1,B1⟩,h1,h2⟩:=st;exact⟨k z (by simp) _ hz,k TI (by simp) _ K0,⟨c1,d1,k TO (by simp) _ B1⟩,h1.at λ o q=>k i1 (by simp) o q,h2.at λ o q=>k i2 (by simp) o q⟩
 item:=by
  intro X hP hw hK hc i pins s σ H E I hf st hg;subst hP hw hK;obtain⟨xs,ys,x,y,iE,S5,hx,hy⟩:=hg;obtain⟨sM,xK,p1,hz1⟩:=I.list iE;obtain⟨o8,nM,p2,xQ⟩:=I.list S5;obtain⟨u1,E6,rR⟩:=xK.get hx;obtain⟨u2,xW,nN⟩:=nM.get hy;obtain⟨hz,K0,⟨c1,d1,B1⟩,h1,h2⟩:=st;refine wpAny_pyNext_zip_item D hz K0 B1 h1 h2 p1.isList p2.isList (x:=u1) (y:=u2) (by simpa using E6) (by simpa using xW) λ h' hz' oM h1' dZ hp hsz hk=>?_
  refine⟨s.heap.objs.size,rfl,wpAny_letOwnedTupleGo_zip hz' λ dZ nY o6=>?_⟩;rename_i rD;replace o6:Heap.SameBut z h' dZ:=o6;have sP:z<s.heap.objs.size:=Qo hz;have k2:∀ c o,c≠z->c≠TO->c≠i1->c≠i2->s.heap.get? c=some o->dZ.get? c=some o:=λ c o a1 a2 a3 a4 q=>o6.extBut c o a1 (hk c o a1 a2 a3 a4 q)
  have fz:=hf z (by simp);have fO:=hf TO (by simp);have f1:=hf i1 (by simp);have f2:=hf i2 (by simp);have nn:∀ c,c∉[z,TO,i1,i2]->c≠z/\c≠TO/\c≠i1/\c≠i2:=λ c c8=>by simpa using c8
  have I1:Inv X pins σ H { s with heap:=dZ }:=by
   refine I.step (g':=s.gens) (d':=s.drawn) (t':=s.toks) (ch:=[z,TO,i1,i2]) (λ c c8=>?_) (λ c o _ _ c8 q _=>k2 c o (nn c c8).1 (nn c c8).2.1 (nn c c8).2.2.1 (nn c c8).2.2.2 q)
    (λ c o _ _ c8 q _=>⟨o.slots,k2 c o (nn c c8).1 (nn c c8).2.1 (nn c c8).2.2.1 (nn c c8).2.2.2 q⟩) (λ _ _ _ _ n=>n) (λ c o c8 q=>⟨o,k2 c o (nn c c8).1 (nn c c8).2.1 (nn c c8).2.2.1 (nn c c8).2.2.2 q⟩)
    (λ _ _ q=>q) (λ _ _ _ q=>q) (λ c ps q=>⟨#[],by rw[q];simp⟩) (λ m hm=>?_) (λ c u q=>?_) I.bare
   ·have:yY X pins H c:=by
     have c8:c=z∨c=TO∨c=i1∨c=i2:=by simpa using c8
     rcases c8 with e|e|e|e <;> subst e <;> assumption
    exact⟨this.2.2.2.1,this.2.1,this.2.2.2.2.1,this.2.2.2.2.2⟩
   ·obtain⟨o,u0,ep,ho,r⟩:=hm;exact⟨o,u0,ep,k2 _ o (Vr fz.2.1) (Vr fO.2.1) (Vr f1.2.1) (Vr f2.2.1) ho,r⟩
   ·have no:∀ b',H b'=none->∀ c',(c'=c∨H c'=some (.own c))->c'≠b':=λ b' dX c' I0 e=>by
     subst e;rcases I0 with e|e
     ·subst e;rw[dX] at q;cases q
     ·rw[dX] at e;cases e
    exact(I.hok c u q).stay (λ c' v c8 r=>k2 c' v (no z fz.1 c' c8) (no TO fO.1 c' c8) (no i1 f1.1 c' c8) (no i2 f2.1 c' c8) r) (λ _ r=>r) λ _ _ r=>r
  have hpt:IsPair dZ s.heap.objs.size u1 u2:=o6.extBut _ _ (Qs sP) hp;refine⟨[x,y],[u1,u2],H,I1,⟨_,hpt,rfl,_,rfl⟩,.cons rR (.cons nN .nil),⟨rfl,x,y,rfl,λ ws hw=>by rw[I.list_inj hw iE];exact hx,λ ws hw=>by rw[I.list_inj hw S5];exact hy⟩,?_,λ c c8=>(hf c c8).1⟩;refine⟨nY,o6.extBut _ _ D.TIz (hk _ _ D.TIz D.TITO D.TIi1 D.TIi2 K0),⟨_,_,o6.extBut _ _ D.TOz oM⟩,h1'.extBut o6.extBut D.i1z,rD.extBut o6.extBut D.i2z⟩
 done:=by
  intro X hP hw hK hc i pins s σ H E I hf st hg;subst hP hw hK;obtain⟨xs,ys,iE,S5,hx⟩:=hg;obtain⟨sM,xK,p1,hz1⟩:=I.list iE;obtain⟨o8,nM,p2,xQ⟩:=I.list S5;obtain⟨hz,K0,⟨c1,d1,B1⟩,h1,h2⟩:=st;have mQ:=xK.length;have S8:=nM.length;have fz:=hf z (by simp);have fO:=hf TO (by simp);have f1:=hf i1 (by simp);have f2:=hf i2 (by simp);have nn:∀ c,c∉[z,TO,i1,i2]->c≠z/\c≠TO/\c≠i1/\c≠i2:=λ c c8=>by simpa using c8
  refine wpAny_pyNext_zip_end (I.ok.hd hc) D hz K0 B1 h1 h2 p1.isList p2.isList (by rcases hx with q|q;left;simp;omega;right;simp;omega) λ h' k2=>⟨rfl,?_⟩
  refine I.step (g':=s.gens) (d':=s.drawn) (t':=s.toks) (ch:=[z,TO,i1,i2]) (λ c c8=>?_) (λ c o _ _ c8 q _=>k2 c o (nn c c8).1 (nn c c8).2.1 (nn c c8).2.2.1 (nn c c8).2.2.2 q)
   (λ c o _ _ c8 q _=>⟨o.slots,k2 c o (nn c c8).1 (nn c c8).2.1 (nn c c8).2.2.1 (nn c c8).2.2.2 q⟩) (λ _ _ _ _ n=>n) (λ c o c8 q=>⟨o,k2 c o (nn c c8).1 (nn c c8).2.1 (nn c c8).2.2.1 (nn c c8).2.2.2 q⟩)
   (λ _ _ q=>q) (λ _ _ _ q=>q) (λ c ps q=>⟨#[],by rw[q];simp⟩) (λ m hm=>?_) (λ c u q=>?_) I.bare
  ·have:yY X pins H c:=by
    have c8:c=z∨c=TO∨c=i1∨c=i2:=by simpa using c8
    rcases c8 with e|e|e|e <;> subst e <;> assumption
   exact⟨this.2.2.2.1,this.2.1,this.2.2.2.2.1,this.2.2.2.2.2⟩
  ·obtain⟨o,u0,ep,ho,r⟩:=hm;exact⟨o,u0,ep,k2 _ o (Vr fz.2.1) (Vr fO.2.1) (Vr f1.2.1) (Vr f2.2.1) ho,r⟩
  ·have no:∀ b',H b'=none->∀ c',(c'=c∨H c'=some (.own c))->c'≠b':=λ b' dX c' I0 e=>by
    subst e;rcases I0 with e|e
    ·subst e;rw[dX] at q;cases q
    ·rw[dX] at e;cases e
   exact(I.hok c u q).stay (λ c' v c8 r=>k2 c' v (no z fz.1 c' c8) (no TO fO.1 c' c8) (no i1 f1.1 c' c8) (no i2 f2.1 c' c8) r) (λ _ r=>r) λ _ _ r=>r
 self:=λ A i s Q E st h=>Us st.1 h
def qpj(K:W.Frag)(ta:TA):TI2:=λ σ H R=>ta σ H λ vs H1=>∃ a b,vs=[.ref a,.ref b]/\(∃ xs,SqL K H1 a xs)/\(∃ ys,SqL K H1 b ys)/\R (ItZ K a b) H1
theorem qgP(hg:Gl X "zip")(hm:X.mg "zip"=none)(ha:PA X [l1,l2] ta)(hs:starEach [l1,l2] X.env=[(false,eval l1 X.env),(false,eval l2 X.env)]:=by rfl)(o6:starEach [l2] X.env=[(false,eval l2 X.env)]:=by rfl):
  PI2 X (.Tuple es k B0) (.Call (.Name "zip" p) [l1,l2] [] pos) (qpj X.K ta):=by
 intro pins s σ H R I h;refine Call_ (qaA I hg hm boot_zip (Xe (thn (ha pos pins s σ H _ I h) λ us s1 ⟨vs,H1,I1,r1,q1⟩=>?_) (by rw[hs,o6]) (by rw[o6];rfl)));obtain⟨a,b,e,⟨xs,iE⟩,⟨ys,S5⟩,q⟩:=q1;subst e;obtain⟨u1,u2,rfl,rR,nN⟩:=qfn r1;cases rR
 cases nN
 obtain⟨sM,xK,p1,hz1⟩:=I1.list iE;obtain⟨o8,nM,p2,xQ⟩:=I1.list S5;have a1:a<s1.heap.objs.size:=by obtain⟨_,e,_⟩:=p1.isList;exact Qo e
 have a2:b<s1.heap.objs.size:=by obtain⟨_,e,_⟩:=p2.isList;exact Qo e
 refine call_zip_2 p1.isList p2.isList λ h' hz K0 B1 hi1 hi2 hsz hk=>Us hz ?_
 refine⟨s1.heap.objs.size+4,[s1.heap.objs.size+4,s1.heap.objs.size+2,s1.heap.objs.size+3,s1.heap.objs.size,s1.heap.objs.size+1],_,_,H1,rfl,I1.kept (t':=s1.toks) hk,qjN (zipApart_new a1 a2),⟨hz,K0,⟨_,_,B1⟩,hi1,hi2⟩,λ c hc=>?_,q⟩;have hc:c=s1.heap.objs.size+4∨c=s1.heap.objs.size+2∨c=s1.heap.objs.size+3∨c=s1.heap.objs.size∨c=s1.heap.objs.size+1:=by simpa using hc
 have F0:s1.heap.objs.size<=c:=by rcases hc with e|e|e|e|e <;> rw[e] <;> omega
 exact I1.fpOk F0 (I1.hok.fresh F0)
noncomputable abbrev cs(z:Str):List Nat:=z.cps.toList
noncomputable def qk(l:List Nat):Str:=⟨l.toArray⟩
theorem qjO(z:Str):qk (cs z)=z:=rfl
theorem qgQ(h:cs a=cs b):a=b:=by rw[<- qjO a,<- qjO b,h]
noncomputable abbrev vS(l:List Nat):V:=.str (qk l)
theorem qgR(h:vS a=vS b):a=b:=by
 injection h with h
 have:=congrArg cs h
 exact this
theorem j7:∀{ss:List Str}{us:List Value},qL (ss.map V.str) us->StrsAre us ss
 | [],_,r=>by cases r;exact .nil
 |x::ss,_,r=>by
  rw[Qc] at r;cases r with
  |cons h t =>
   obtain⟨t',rfl⟩:=h;exact .cons _ _ (j7 t)
theorem j8:∀{ss:List Str}{us:List Value},StrsAre us ss->qL (ss.map V.str) us
 |_,_,.nil=>.nil
 |_,_,.cons x t h=>.cons ⟨t,rfl⟩ (j8 h)
section
variable {X:Cx}
def qog(K:W.Frag):V->List V->Hp->VK->Prop:=λ x vs H Q=>∃ z p ss,x=.str z/\vs=[.ref p]/\(SqL K H p (ss.map V.str)∨SqT K H p (ss.map V.str))/\(ss.map (·.length)).sum+ss.length*z.length<=16777216/\Q (.str (Txt.join z ss)) H
theorem qac:MtR X "str.join" (qog X.K):=by
 intro pins s σ H x vs v us Q I rx rv h;obtain⟨z,p,ss,rfl,rfl,hq,hz,q⟩:=h;obtain⟨t,rfl⟩:=rx;obtain⟨u,rfl,ru⟩:=zT rv;cases ru
 rcases hq with hq|hq
 ·obtain⟨its,r,pl,_⟩:=I.list hq;exact join_list pl.isList (j7 (by simpa using r)) hz λ t' k=>⟨.str (Txt.join z ss),H,I.tok _,⟨_,rfl⟩,q⟩
 ·obtain⟨its,r,pl,_⟩:=I.tuple hq;exact join_tuple pl (j7 (by simpa using r)) hz λ t' k=>⟨.str (Txt.join z ss),H,I.tok _,⟨_,rfl⟩,q⟩
noncomputable def qbg(ss:List Str):List Str:=(Fs.srt (ss.map cs)).map qk
theorem qiO(a b:List Nat):ltCps a b=decide (a<b):=ltCps_eq a b
theorem qeG(hp:E5.Perm ss)(hs:sortedS E5=true):E5=qbg ss:=by
 have key:∀(p:Str)(l:List Str),risingS p l=true->(∀ x∈l,¬ cs x<cs p)/\(l.map cs).Pairwise (λ x y=>¬ y<x):=by
  intro p l;induction l generalizing p with
  |nil=>intro _;exact⟨by simp,by simp⟩
  |cons a l ih =>
   intro h;simp only[risingS,Ug,Bool.not_eq_true'] at h;obtain⟨h1,h2⟩:=h;have ha:¬ cs a<cs p:=by
    have:=h1
    rw[qiO] at this;exact Zk this
   obtain⟨i1,i2⟩:=ih a h2;refine⟨λ x hx=>?_,?_⟩
   ·rcases Qb.mp hx with e | e
    ·rw[e];exact ha
    ·intro i7
     have:=i1 x e
     by_cases hpa:cs p<cs a
     ·exact this (List.lt_trans i7 hpa)
     ·have e':=Fs.plt_total hpa ha;rw[e'] at i7;exact this i7
   ·rw[Qc];exact Zc.mpr ⟨λ y hy=>by
     obtain⟨x,hx,rfl⟩:=Qu.mp hy;exact i1 x hx,i2⟩
 have hpw:(E5.map cs).Pairwise (λ x y=>¬ y<x):=by
  cases E5 with
  |nil=>simp
  |cons a l =>
   have h:risingS a l=true:=hs;obtain⟨i1,i2⟩:=key a l h;rw[Qc];exact Zc.mpr ⟨λ y hy=>by
    obtain⟨x,hx,rfl⟩:=Qu.mp hy;exact i1 x hx,i2⟩
 have e:=Fs.srt_of (hp.map cs) hpw;unfold qbg;rw[<- e,Qv]
 have:qk ∘ cs=id:=funext λ z=>qjO z
 rw[this,List.map_id]
structure Kind{α:Type}(f:α->V):Prop where
 flat:∀ a,qau (f a)=true
 eq:∀ a b,eqV (f a) (f b)=true ↔ a=b
theorem qc1:Kind V.str:=⟨λ _=>rfl,λ a b=>by show(a == b)=true ↔ a=b;exact Vh⟩
theorem qfC:Kind V.int:=⟨λ _=>rfl,λ a b=>by show(a == b)=true ↔ a=b;exact Vh⟩
noncomputable def qc2{α:Type}(f:α->V)(as bs:List α)(j:Nat):Bool:=match as[j]?,bs[j]? with
 |some a,some b=>eqV (f a) (f b)
 |_,_=>true
theorem qad{α:Type}[DecidableEq α]{f:α->V}(k:Kind f):∀(as bs:List α),((List.range (min as.length bs.length)).all (qc2 f as bs) && as.length == bs.length)=decide (as=bs):=by
 intro as bs;rw[Uz,Ug,Zl,Uj];constructor
 ·rintro⟨h1,h2⟩;have hl:as.length=bs.length:=by simpa using h2
  refine List.ext_getElem? λ j=>?_
  by_cases hj:j<as.length
  ·have:=h1 j (by rw[Jp];omega)
   have ea:as[j]?=some as[j]:=Xv hj;have eb:bs[j]?=some (bs[j]'(by omega)):=Xv (by omega);unfold qc2 at this;rw[ea,eb] at this;rw[ea,eb,(k.eq _ _).mp this]
  ·rw[XW (by omega),XW (by omega)]
 ·rintro rfl;refine⟨λ j hj=>?_,by simp⟩;unfold qc2;cases e:as[j]? with
  |none=>rfl
  |some a=>exact(k.eq a a).mpr rfl
theorem qbh{f:α->V}(k:Kind f){as bs:List α}(ra:qL (as.map f) us)(rb:qL (bs.map f) vs)(j:Nat)(h1:j<us.toArray.size)(h2:j<vs.toArray.size):
  SeqAt.EqAt A s us.toArray[j] vs.toArray[j] (qc2 f as bs j):=by
 have l1:=ra.length;have l2:=rb.length;rw[U0] at l1 l2;rw[Zo] at h1 h2;have ea:as[j]?=some (as[j]'(by omega)):=Xv (by omega);have eb:bs[j]?=some (bs[j]'(by omega)):=Xv (by omega);obtain⟨u,hu,ru⟩:=ra.get (i:=j) (x:=f (as[j]'(by omega))) (by rw[Zn,ea];rfl);obtain⟨v,hv,rv⟩:=rb.get (i:=j) (x:=f (bs[j]'(by omega))) (by rw[Zn,eb];rfl);have hu':us.toArray[j]=u:=by
  have:us[j]?=some us[j]:=Xv h1
  rw[hu] at this;simpa using(Option.some.inj this).symm
 have bK:vs.toArray[j]=v:=by
  have:vs[j]?=some vs[j]:=Xv h2
  rw[hv] at this;simpa using(Option.some.inj this).symm
 rw[hu',bK];unfold qc2;rw[ea,eb];exact qjC ru rv (k.flat _) (k.flat _)
def qoh{α:Type}[DecidableEq α](K:W.Frag)(f:α->V)(neg:Bool):R2:=λ x y H Q=>∃(a b:Addr)(as bs:List α),x=.ref a/\y=.ref b/\((SqT K H a (as.map f)/\SqT K H b (bs.map f))∨(SqL K H a (as.map f)/\SqL K H b (bs.map f)))/\Q (.bl (if neg then !decide (as=bs) else decide (as=bs))) H
theorem qlE{α:Type}[DecidableEq α]{f:α->V}(k:Kind f)(hu:X.A.units<cLine):OpR X (compareOp .Eq) (qoh X.K f false):=by
 intro pins s σ H x y v u Q I rx ry h;obtain⟨a,b,as,bs,rfl,rfl,hq,q⟩:=h;cases rx
 cases ry
 have q:Q (.bl (decide (as=bs))) H:=q;rcases hq with⟨h1,h2⟩|⟨h1,h2⟩
 ·obtain⟨its,r1,p1,_⟩:=I.tuple h1;obtain⟨o8,r2,p2,_⟩:=I.tuple h2;have l1:=r1.length;have l2:=r2.length;rw[U0] at l1 l2;refine SeqAt.eq_tupleAt (show s.heap.IsTuple a its.toArray from p1) (show s.heap.IsTuple b o8.toArray from p2) hu (λ j h1 h2=>qbh k r1 r2 j h1 h2) ⟨.bl (decide (as=bs)),H,I,?_,q⟩;rw[Zo,Zo,<- l1,<- l2,qad k];rfl
 ·obtain⟨its,r1,p1,_⟩:=I.list h1;obtain⟨o8,r2,p2,_⟩:=I.list h2;have l1:=r1.length;have l2:=r2.length;rw[U0] at l1 l2;by_cases hs:its.toArray.size=o8.toArray.size
  ·refine SeqAt.eq_listAt p1.isList p2.isList hs hu (λ j h1 h2=>qbh k r1 r2 j h1 h2) ⟨.bl (decide (as=bs)),H,I,?_,q⟩;have e:=qad k as bs;rw[Zo,Zo] at hs;rw[show as.length=bs.length by omega,Nat.min_self,Ur,Bool.and_true] at e;rw[Zo,show its.length=bs.length by omega,e];rfl
  ·refine SeqAt.eq_list_lengthsAt p1.isList p2.isList (by simpa using hs) hu ⟨.bl (decide (as=bs)),H,I,?_,q⟩;rw[Jh]
   ·rfl
   ·intro e;rw[Zo,Zo,<- l1,<- l2,e] at hs;exact hs rfl
def qnc(K:W.Frag):R2:=λ x y H Q=>∃ a b xs ys,x=.ref a/\y=.ref b/\SqT K H a xs/\SqT K H b ys/\xs.length+ys.length<=sizeLine /\
 ∀ p H',qi H H'->SqT K H' p (xs++ys)->Q (.ref p) H'
theorem qc3(h:H p=none)(o:HO):qi H (upd H p o):=λ b u q=>by rw[qp (zw q h)];exact q
theorem qlF(ht:IsTup s.heap t vs.toArray)(hb:IsTup s.heap b ws.toArray)(h0:vs=[]->Q (.ref b) s)(h1:vs≠[]->ws=[]->Q (.ref t) s)(h2:vs≠[]->ws≠[]->Q (.ref s.heap.objs.size) { s with heap:=s.heap.push { cls:=.type "tuple",data:=.seq (vs++ws).toArray } })(hsz:vs.length+ws.length<=sizeLine):wpAny (model prog w) A (binaryOp .Add (.ref t) (.ref b)) Q E s:=by
 by_cases hv:vs=[]
 ·obtain⟨⟨cls,dd,data,sl⟩,ho,hc,n,hd⟩:=id ht;obtain⟨⟨cls2,nB,data2,xJ⟩,S6,oJ,n2,dW⟩:=id hb;simp only at hc hd oJ dW;subst hc hd oJ dW;exact concat_meets ⟨_,ho,rfl⟩ ⟨_,S6,rfl⟩ noFill_tuple_add seq_tuple_add XC X2 (Xu _ _)
   (tuple_addW0 t b vs.toArray ws.toArray n n2 dd nB sl xJ (by simp[hv])) ⟨ho,S6,h0 hv⟩
 ·exact HT.cat_tup ht hb hv (h1 hv) (h2 hv) hsz
theorem qjP:OpR X (binaryOp .Add) (qnc X.K):=by
 intro pins s σ H x y v u Q I rx ry h;obtain⟨a,b,xs,ys,rfl,rfl,iE,S5,hz,q⟩:=h;cases rx
 cases ry
 obtain⟨its,r1,p1,_⟩:=I.tuple iE;obtain⟨o8,r2,p2,_⟩:=I.tuple S5;have l1:=r1.length;have l2:=r2.length;have e0:its=[]->xs=[]:=λ e=>by rw[e] at l1;exact Xd l1
 have e1:o8=[]->ys=[]:=λ e=>by rw[e] at l2;exact Xd l2
 refine qlF p1 p2 (λ h=>⟨.ref b,H,I,rfl,?_⟩) (λ h h'=>⟨.ref a,H,I,rfl,?_⟩) (λ h h'=>⟨.ref s.heap.objs.size,_,I.laid (a:=s.heap.objs.size) (o:=.tup (xs++ys)) (t':=s.toks) (λ _ _ q=>XB _ q) (Q5 _) ⟨?_,its++o8,r1.append r2,?_⟩,rfl,?_⟩) (by omega)
 ·refine q b H (qi.refl H) ?_;rw[e0 h];exact S5
 ·refine q a H (qi.refl H) ?_;rw[e1 h',U1];exact iE
 ·rw[Zb];exact hz
 ·exact⟨_,Yt _ rfl,rfl,_,rfl⟩
 ·have hf:=I.hok.fresh (Q5 s.heap.objs.size);exact q _ _ (qc3 hf _) (SqT.of qe)
theorem js(hc:X.calm=true):yG X (.builtin "all") (λ xs H Q=>∃(p:Addr)(bs:List Bool),xs=[.ref p]/\SqL X.K H p (bs.map V.bl)/\Q (.bl (bs.all id)) H):=by
 intro pins s σ H xs us Q I r h;obtain⟨p,bs,rfl,hq,q⟩:=h;obtain⟨u,rfl,ru⟩:=zT r;cases ru
 obtain⟨its,rv,pl,hz⟩:=I.list hq;have hl:=rv.length;rw[U0] at hl;have hh:X.A.in1.handled=none:=by simp[I.ok.hd hc]
 have gQ:p<s.heap.objs.size:=by obtain⟨_,e,_⟩:=pl.isList;exact Qo e
 refine call_all_walk (Z2 pl.isList ⟨s.heap.objs.size,_,_,_,_,_,λ i=>bs.getD i true,rfl,Walks.list hh s.heap.objs.size p (Qp gQ) its.toArray,
  ⟨⟨_,Yt _ rfl,rfl,rfl⟩,pl.isList.push _⟩,λ i v s Q E hv hQ=>?_,λ h' tk hk=>?_⟩)
 ·have e:its[i]?=some v:=by simpa using hv
  have hi:i<bs.length:=by rw[hl];exact(Xl.mp e).1
  obtain⟨u,hu,ru⟩:=rv.get (i:=i) (x:=.bl bs[i]) (by rw[Zn,Xv hi];rfl);rw[e] at hu;cases hu
  cases ru
  refine Z1 ?_
  have:bs.getD i true=bs[i]:=by rw[Xj,Xv hi];rfl
  have uG:Q (bs.getD i true) s:=hQ;rw[this] at uG;exact uG
 ·have hf:=I.hok.fresh (Q5 s.heap.objs.size);refine⟨.bl (bs.all id),H,?_,?_,q⟩
  ·have I1:Inv X pins σ H { s with heap:=s.heap.push { cls:=.type "list_iterator",data:=.fields #[.ref p,.int 0 0] } }:=I.kept (t':=s.toks) λ _ _ e=>XB _ e
   refine I.kept (t':=tk) λ b o e=>hk b o (λ z=>?_) (XB _ e)
   have:b=s.heap.objs.size:=by simpa using z
   exact absurd (Qo e) (by rw[this];exact Qa _)
  ·show Value.bool _=Value.bool _
   congr 1
   rw[Zo,<- hl,Uz,Uj,Uj];constructor
   ·intro h b hb;obtain⟨i,hi,e⟩:=Yw hb
    have:=h i (Jp.mpr hi)
    rw[Xj,Xv hi,e] at this;exact this
   ·intro h i hi;have hi:=Jp.mp hi;rw[Xj,Xv hi];exact h _ (Uk hi)
end
theorem qaH{α:Type}:∀(l:List α)(i:Nat)(h:i<l.length),(l[i]::l.eraseIdx i).Perm l
 |x::l,0,_=>Ju _
 |x::l,i+1,h=>by
  have:=qaH l i (by simpa using h)
  rw[List.getElem_cons_succ,X3];exact(List.Perm.swap _ _ _).trans (this.cons x)
section
variable {prog:Program}{w:World}{A:Around}{E:Value->Shared->Prop}{s:Shared}
theorem qeH(hn:n≠0)(h:∀ i d,i<n->Q i { s with drawn:=d }):wpAny M A (choose xG n) Q E s:=λ Γ p hΓ=>by
 show Sem.wp M Γ (Sem.choose xG n Sem.pure) _ _ p s
 rw[Sem.wp];refine⟨hn,?_⟩;rw[Sem.wp];exact h _ _ (Vc _ (Nat.pos_of_ne_zero hn))
theorem yP:∀(n:Nat)(xs:List α)(s:Shared)(Q:List α->Shared->Prop),xs.length=n->(∀ ys d,ys.Perm xs->Q ys { s with drawn:=d })->wpAny M A (drawOrder n xs) Q E s
 |0,xs,s,Q,hl,h=>by
  have:xs=[]:=Xd hl
  subst this;unfold drawOrder;have e:=h [] s.drawn (Ju _);cases s
  exact Vg e
 |n+1,[],s,Q,hl,h=>by simp at hl
 |n+1,x::xs,s,Q,hl,h=>by
  unfold drawOrder;refine Ve (qeH (by simp) λ i d hi=>?_);have e:(x::xs)[i]?=some (x::xs)[i]:=Xv hi;rw[e];dsimp only;refine Ve (yP n ((x::xs).eraseIdx i) _ _ ?_ λ ys d' hp=>Vg ?_)
  ·rw[Xk hi];omega
  ·refine h _ d' ((hp.cons _).trans ?_);exact qaH (x::xs) i hi
def byT(w:World):Prop:=w.params.followText "set-order"=true
def qbP(P:Program)(w:World)(x:Str)(e:Int×Value):Prop:=e.1=(qu P w).hash (.inr x)/\∃ t,e.2=.str x t
def qP(P:Program)(w:World)(h:Heap)(a:Addr)(ys:List Str):Prop:=
 ∃ o es ep t,h.get? a=some o/\o.ExactSet/\o.data=.set es ep t/\Paired (qbP P w) ys es.toList/\ys.Nodup/\ys.length<scanBound/\t.fits es.size=true/\(t.led=true∨byT w)/\(ys=[]∨t.plain=false)
theorem qc4(h:Paired (qbP P w) ys l):ElemsOf (qu P w) l:=by
 induction h with
 |nil=>intro e he;cases he
 |cons h _ ih =>
  intro e he;rcases Qb.mp he with z|z
  ·subst z;obtain⟨h1,t,h2⟩:=h;exact⟨⟨.inr _,by rw[h2];exact zh _ _ _ _,h1⟩,by rw[h2];rfl⟩
  ·exact ih e z
theorem qc5(h:Paired (qbP P w) ys l)(k:Key):(∃ e∈l,(qu P w).is k e.2=true) ↔ ∃ y∈ys,k=.inr y:=by
 induction h with
 |nil=>simp
 | @cons y e ys l h _ ih =>
  obtain⟨h1,t,h2⟩:=h;have hk:(qu P w).is k e.2=true ↔ k=.inr y:=by
   rw[h2];constructor
   ·intro q;exact(qu P w).inj _ _ _ q (zh P w y t)
   ·rintro rfl;exact zh P w y t
  simp only[Qb,exists_eq_or_imp,ih,hk]
theorem yK{F:α->β->Prop}{xs:List α}{l l':List β}(h:Paired F xs l)(p:l'.Perm l):∃ rO,rO.Perm xs/\Paired F rO l':=by
 induction p generalizing xs with
 |nil=>cases h;exact⟨[],Ju _,.nil⟩
 |cons b p ih =>
  cases h with
  |cons h t =>
   obtain⟨rO,h1,h2⟩:=ih t;exact⟨_::rO,h1.cons _,.cons h h2⟩
 |swap a b l =>
  cases h with
  |cons h t =>
   cases t with
   |cons h' t=>exact⟨_,List.Perm.swap _ _ _,.cons h' (.cons h t)⟩
 |trans _ _ i1 i2 =>
  obtain⟨rO,h1,h2⟩:=i2 h;obtain⟨xs'',h3,h4⟩:=i1 h2;exact⟨xs'',h3.trans h1,h4⟩
theorem qX:∀{xs ys:List α}{us vs:List β},Paired F xs us->Paired F ys vs->Paired F (xs++ys) (us++vs)
 |_,_,_,_,.nil,s=>s
 |_,_,_,_,.cons r t,s=>.cons r (qX t s)
theorem qiP(t:SetTable)(es:Array (Int×Value))(h:Int)(x:Value):(layNew t es h x).2.1.led=t.led/\(t.plain=false->(layNew t es h x).2.1.plain=false):=by
 unfold layNew;split
 ·rename_i slot wd e;dsimp only;unfold SetTable.orStandIn;split
  ·exact⟨rfl,λ h=>h⟩
  ·exact⟨rfl,λ _=>rfl⟩
 ·exact⟨rfl,λ _=>rfl⟩
theorem qgS {plain:Bool}(h:SetTable.laid mask finger moves led plain hs=some r):r.1.led=led/\r.1.plain=plain:=by
 unfold SetTable.laid at h;cases e:SetTable.layClean mask hs with
 |none=>rw[e] at h;cases h
 |some o=>rw[e] at h;cases h;exact⟨rfl,rfl⟩
theorem qfD(t:SetTable)(es:Array (Int×Value))(n:Nat):(relayAll t es n).2.1.led=t.led/\(t.plain=false->(relayAll t es n).2.1.plain=false):=by
 unfold relayAll;split
 ·rename_i t' t5 e;have f:=qgS (show SetTable.laid _ _ _ _ _ _=some (t',t5) from e);dsimp only;split
  ·exact⟨f.1,λ h=>f.2.trans h⟩
  ·exact⟨rfl,λ _=>rfl⟩
 ·exact⟨rfl,λ _=>rfl⟩
theorem je{h:Heap}(ho:h.get? a=some o)(hex:o.ExactSet)(hd:o.data=.set es ep t)(hp:Paired (qbP P w) ys u0.toList)(nd:ys.Nodup)(hb:ys.length<scanBound)(hf:t'.fits u0.size=true)(hl:t'.led=true∨byT w)(w6:ys=[]∨t'.plain=false):
  (h.update a (Obj.putSet u0 t')).get? a=some { o with data:=.set u0 (ep+1) t' }/\qP P w (h.update a (Obj.putSet u0 t')) a ys:=by
 have hg:(h.update a (Obj.putSet u0 t')).get? a=some { o with data:=.set u0 (ep+1) t' }:=by
  have:=XQ (Obj.putSet u0 t') ho (by rw[putSet_of u0 t' hd];rfl)
  rw[putSet_of u0 t' hd] at this;exact this
 exact⟨hg,_,u0,ep+1,t',hg,hex,rfl,hp,nd,hb,hf,hl,w6⟩
theorem qfE{g:Bool->Sem Unit}(hg:∀(b:Bool)(s₁:Shared)(Q':Unit->Shared->Prop),Q' () s₁->wpAny (model prog w) A (g b) Q' E s₁)(ho:s.heap.get? a=some o)(hex:o.ExactSet)(hd:o.data=.set es ep t)(V8:Paired (qbP prog w) ys L5.toList)(nd:ys.Nodup)(T8:ys.length<scanBound)(hf2:t2.fits L5.size=true)(hl:t2.led=true∨byT w)(w6:t2.plain=false)(h:∀ h' o7,Heap.SameBut a s.heap h'->o7.Perm ys->qP prog w h' a o7->R (some true) { s with heap:=h' }):
  wpAny (model prog w) A (do
    storeSet a L5 t2
    if (!R9 && t2.tooFull)=true then do
        g (relayAll t2 L5 (SetTable.grown L5.size)).2.2
        storeSet a (relayAll t2 L5 (SetTable.grown L5.size)).1 (relayAll t2 L5 (SetTable.grown L5.size)).2.1
        pure (some true)
     else pure (some true)) R E s:=by
 have c9:L5.size<scanBound:=by rw[<- Ys,<- V8.length];exact T8
 refine Ve (Z6 ho hd ?_ (Z7 c9));obtain⟨M3,cG⟩:=je (P:=prog) (w:=w) ho hex hd V8 nd T8 hf2 hl (.inr w6);have sW:=Yx s.heap a (Obj.putSet L5 t2);split
 ·have hp:=relayAll_perm t2 L5 (SetTable.grown L5.size);have T7:=relayAll_fits t2 L5 (SetTable.grown L5.size);have dS:=qfD t2 L5 (SetTable.grown L5.size);generalize hRl:relayAll t2 L5 (SetTable.grown L5.size)=Rl at hp T7 dS ⊢;obtain⟨es2,t3,aA4⟩:=Rl;dsimp only at hp T7 dS ⊢;obtain⟨o7,hy,aP⟩:=yK V8 hp;have O0:es2.size<scanBound:=by rw[<- Ys,hp.length_eq,Ys];exact c9
  refine Ve (hg _ _ _ ?_);refine Ve (Z6 M3 rfl ?_ (Z7 O0));obtain⟨_,iS⟩:=je (P:=prog) (w:=w) M3 hex rfl aP (hy.nodup_iff.mpr nd) (by rw[hy.length_eq];exact T8) T7 (by rw[dS.1];exact hl) (.inr (dS.2 w6));exact Vg (h _ o7 (sW.trans (Yx _ a _)) hy iS)
 ·exact Vg (h _ ys sW (Ju _) cG)
theorem qfF(hS:qP prog w s.heap a ys)(tD:ys.length+1<scanBound)(h0:x∈ys->Q false s)(h1:x∉ys->∀ h' o7,Heap.SameBut a s.heap h'->o7.Perm (ys++[x])->qP prog w h' a o7->Q true { s with heap:=h' }):
  wpAny (model prog w) A (setAddHashed a (.str x t0) ((qu prog w).hash (.inr x))) Q E s:=by
 obtain⟨o,es,ep,t,ho,hex,hd,hp,nd,hb,hf,hl,w6⟩:=hS;have dU:=qc4 hp;have G9:(qu prog w).is (.inr x) (.str x t0)=true:=zh _ _ _ _;have xY:(Value.str x t0).scannable=true:=rfl;have c9:es.size<scanBound:=by rw[<- Ys,<- hp.length];exact hb
 unfold setAddHashed setAddHashedIn;refine Qk (Ve (Z8 ho hd hf ?_));dsimp only;rw[byScan_of xY c9 dU];simp only[↓reduceIte];unfold setAddByScan;refine Ve ?_;refine Ve (Vk ?_);refine Ve (wpAny_setScan_of G9 ho hd hf dU ?_);cases hr:List.findIdx? (λ e=>(qu prog w).is (.inr x) e.2) es.toList with
 |some j =>
  dsimp only;obtain⟨hj,fU,_⟩:=List.findIdx?_eq_some_iff_getElem.mp hr;obtain⟨y,hy,e⟩:=(qc5 hp (.inr x)).mp ⟨es.toList[j],Uk hj,fU⟩;cases e
  exact Vg (Vg (h0 hy))
 |none =>
  dsimp only;have hx:x∉ys:=λ hx=>by
   obtain⟨e,he,q⟩:=(qc5 hp (.inr x)).mpr ⟨x,hx,rfl⟩
   have:=List.findIdx?_eq_none_iff.mp hr e he
   rw[q] at this;exact Bool.noConfusion this
  have hgw:∀(b:Bool){s₁:Shared}{Q':Unit->Shared->Prop},Q' () s₁->wpAny (model prog w) A (match b with | true=>rule "set.scan.the-table-gave-way" | false=>pure ()) Q' E s₁:=
   λ b s₁ Q' hq=>by cases b <;> first|exact Vg hq|exact Vk hq
  have aO:=layNew_perm t es ((qu prog w).hash (.inr x)) (.str x t0);have aR:=layNew_fits t es ((qu prog w).hash (.inr x)) (.str x t0);have dS:=qiP t es ((qu prog w).hash (.inr x)) (.str x t0);generalize hL:layNew t es ((qu prog w).hash (.inr x)) (.str x t0)=L at aO aR dS ⊢;obtain⟨L5,t1,R9,gave⟩:=L;dsimp only at aO aR dS ⊢;rw[Zu] at aO;obtain⟨ys1,sQ,V8⟩:=yK (qX hp (.cons (F:=qbP prog w) (a:=x) (b:=((qu prog w).hash (.inr x),.str x t0)) ⟨rfl,t0,rfl⟩ .nil)) aO;have lY:ys1.Nodup:=by
   rw[sQ.nodup_iff];exact Zq.mpr ⟨nd,by simp,λ a ha b hb e=>by simp at hb;subst hb;subst e;exact hx ha⟩
  have T8:ys1.length<scanBound:=by rw[sQ.length_eq,Zb];exact tD
  refine Ve (hgw _ ?_);have tU:∀ h' o7,Heap.SameBut a s.heap h'->o7.Perm ys1->qP prog w h' a o7->Q true { s with heap:=h' }:=λ h' o7 N9 hq gH=>h1 hx h' o7 N9 (hq.trans sQ) gH
  split
  ·refine Ve ?_;rw[hashByValue_scannable 8 xY];refine Vg ?_;refine qfE (t2:=_) ?_ ho hex hd V8 lY T8 (SetTable.fits_plain_off aR) (by show t1.led=true∨_;rw[dS.1];exact hl) rfl ?_
   ·intro b s₁ Q' hq;cases b <;> first|exact Vg hq|exact Vk hq
   ·intro h' o7 N9 hq gH;dsimp only;exact Vg (tU h' o7 N9 hq gH)
  ·rename_i hnp;refine Ve (Vg ?_);simp only[↓reduceIte];refine qfE ?_ ho hex hd V8 lY T8 aR (by rw[dS.1];exact hl) (by simpa using hnp) ?_
   ·intro b s₁ Q' hq;cases b <;> first|exact Vg hq|exact Vk hq
   ·intro h' o7 N9 hq gH;dsimp only;exact Vg (tU h' o7 N9 hq gH)
noncomputable abbrev qJ(w:World):Obj:={ cls:=.type "set",dict:=none,data:=.set #[] 0 (.fresh 0 0 (!(w.params.followText "set-order"))) }
theorem jt(e:h.get? a=some (qJ w)):qP prog w h a []:=
 ⟨_,#[],0,_,e,⟨rfl,rfl,rfl⟩,rfl,.nil,List.nodup_nil,by decide,rfl,by
  unfold byT;cases w.params.followText "set-order"
  ·exact .inl rfl
  ·exact .inr rfl,.inl rfl⟩
theorem qiQ(a:Value)(h:Q₁ (.ref s.heap.objs.size) { s with heap:=s.heap.push (qJ w) }):
  codeAny (model prog w) A (.call (.builtin "set.__new__") ⟨[.type "set",a],[]⟩) (wants Q₁ E) s:=by
 refine codeAny_of_tree ?_;show wpAny _ A.in1 (do checkBuiltinCall "set.__new__" ⟨[.type "set",a],[]⟩;again (.builtin "set.__new__" ⟨[.type "set",a],[]⟩)) _ _ s
 refine Ve (Va (F.newCall_set_1 a) (Vg ⟨Ql F.plain_set_new _,Jl F.entry_set_new ?_⟩));rw[Yi F.plain_set_new _];unfold Builtin.«set.__new__» Builtin.Frozenset.newClass;have sU:=sub_set_self;obtain⟨hp,g,d,tk,os⟩:=s;dsimp only
 wp_walk
 refine Ut (Vg ?_);dsimp only;simp only[newObj];refine Ve (wpAny_alloc (Vg ?_));exact Vg h
set_option maxHeartbeats 3200000 in
theorem vU(a:Value)(h:wpAny (model prog w) A.in1.in1 (Builtin.Frozenset.updateFrom "set.__init__" s.heap.objs.size a) (λ _ s2=>s2.TypeIs (.ref s.heap.objs.size) "set"/\Q (.ref s.heap.objs.size) s2) E { s with heap:=s.heap.push (qJ w) }):
  wpAny (model prog w) A (call (.type "set") [a]) Q E s:=by
 obtain⟨c,tl,hmro⟩:=F.called_set.mro;have aA3:=F.called_set.made;have sU:=F.called_set.sub;refine wpAny_call (codeAny_of_tree ?_);show wpAny _ _ (callAny (.type "set") _) _ _ _
 refine Vg ⟨Code.quiet_builtin _ (by decide +kernel),Jl F.entry_type_call ?_⟩;rw[Around.under_plain (weight_type_call_type "set" [a] []) rfl];have h1:=F.called_set.notType;have h2:=F.called_set.canCreate;have hct:=F.typeCall_set_1 a
 repeat (any_goals (first|assumption|wp_step))
 refine Q2 (qiQ a (E:=E) (Q₁:=λ obj s₁=>obj=.ref s.heap.objs.size/\s₁={ s with heap:=s.heap.push (qJ w) }) ⟨rfl,rfl⟩) λ r s₁ hr=>?_
 cases r with
 |error e=>exact hr
 |ok fl =>
  cases fl with
  |ret obj =>
   obtain⟨rfl,rfl⟩:=hr;have hS:(s.heap.push (qJ w)).get? s.heap.objs.size=some (qJ w):=Yt _ rfl;have hT:Shared.TypeIs { s with heap:=s.heap.push (qJ w) } (.ref s.heap.objs.size) "set":=⟨_,hS,rfl⟩;have hli:=F.called_set.init.lookup;have hbi:=F.called_set.init.bind (.ref s.heap.objs.size)
   repeat (any_goals (first|assumption|wp_step))
   refine Q2 (codeAny_call_builtin (R:=wants (λ r s₂=>r=.none/\s₂.TypeIs (.ref s.heap.objs.size) "set"/\Q (.ref s.heap.objs.size) s₂) E) F.called_set.init.plain F.entry_set_init (check_set_init_1 hT ?_)) λ r₂ s₂ hr₂=>?_
   ·unfold Builtin.«set.__init__» noKeywords;generalize hUF:Builtin.Frozenset.updateFrom=UF at h ⊢
    wp_walk
    refine Vd h (λ _ s2 h2=>?_) (λ _ _ x=>x);show wpAny _ _ (ret Value.none) _ _ _
    exact Vg ⟨rfl,h2⟩
   ·cases r₂ with
    |error e=>exact hr₂
    |ok fl₂ =>
     cases fl₂ with
     |ret r =>
      obtain⟨rfl,hT2,hq⟩:=hr₂
      repeat (any_goals (first|assumption|wp_step))
     |_=>exact hr₂.elim
  |_=>exact hr.elim
theorem qjQ(hT:s.TypeIs x T)(h1:isSubtype (.type T) (.type "set")=pure false)(h2:isSubtype (.type T) (.type "frozenset")=pure false)(h:Q false s):
  wpAny (model prog w) A (Builtin.Frozenset.isAnySet x) Q E s:=by
 unfold Builtin.Frozenset.isAnySet;refine Ve (Uu hT h1 ?_);show wpAny _ _ (isInstance x (.type "frozenset")) _ _ s
 exact Uu hT h2 h
theorem qae(hT:s.TypeIs x "set")(h:Q true s):wpAny (model prog w) A (Builtin.Frozenset.isAnySet x) Q E s:=by
 unfold Builtin.Frozenset.isAnySet;refine Ve (Uu hT sub_set_self ?_);exact Vg h
theorem yQ{id:String}(hT:s.TypeIs x T)(h1:isSubtype (.type T) (.type "set")=pure false)(h2:isSubtype (.type T) (.type "frozenset")=pure false)(h3:(Value.type T == Value.type "dict")=false)(h:wpAny (model prog w) A (pyIter x) (λ it s2=>codeAny (model prog w) A (.builtin "set.update.loop" ⟨[.ref S,it],[]⟩) (λ r s3=>r=.ok (.ret .none)/\Q () s3) s2) E s):
  wpAny (model prog w) A (Builtin.Frozenset.updateFrom id S x) Q E s:=by
 unfold Builtin.Frozenset.updateFrom;refine Ve (qjQ hT h1 h2 ?_);simp only[Ze,Vn];refine Ve (Q3 hT ?_);simp only[h3,Ze,Vn];refine Ve (Vd h (λ it s2 h2=>?_) λ _ _ e=>e);refine Ve (wpAny_runValue (Q2 h2 λ r s3 hr=>?_));obtain⟨rfl,hq⟩:=hr;exact Vg hq
theorem vV{St:Nat->Heap->Prop}(W:Walks prog w A.in1 I fp wr n P St)(S:Addr)(hSf:S∉fp)(val:Nat->Str)(hval:∀ i v,P i v->∃ t,v=.str (val i) t)(hb:n+1<scanBound):
  ∀(k i:Nat)(s:Shared)(ys:List Str),n-i=k->i<=n->St i s.heap->qP prog w s.heap S ys->ys.length<=i->(∀ x,x∈ys ↔ ∃ j,j<i/\val j=x) ->
   (∀ h' tk o7,(∀ b o,b∉S::wr->s.heap.get? b=some o->h'.get? b=some o)->qP prog w h' S o7->(∀ x,x∈o7 ↔ ∃ j,j<n/\val j=x)->R (.ok (.ret .none)) { s with heap:=h',toks:=tk }) ->
   codeAny (model prog w) A (.builtin "set.update.loop" ⟨[.ref S,.ref I],[]⟩) R s:=by
 have hSw:S∉wr:=λ h=>hSf (W.sub _ h)
 have stay:∀{h h':Heap}{ys:List Str},qP prog w h S ys->(∀ o,h.get? S=some o->h'.get? S=some o)->qP prog w h' S ys:=λ hS k=>by
  obtain⟨o,es,ep,t,ho,rest⟩:=hS;exact⟨o,es,ep,t,k o ho,rest⟩
 intro k;induction k with
 |zero =>
  intro i s ys hk hi M8 hS hl hm hR;have dQ:i=n:=by omega
  subst dQ;refine Jl F.entry_set_update_loop ?_;rw[Yi X6 _];show wpAny _ A.in1 (pyNext (.ref I) >>= _) _ _ s
  refine Ve (W.done s _ _ M8 λ h' tk V9=>?_);show wpAny _ A.in1 (ret Value.none) _ _ _
  exact Vg (hR h' tk ys (λ b o hb e=>V9 b o (λ z=>hb (Yf _ z)) e) (stay hS λ o e=>V9 S o hSw e) hm)
 |succ k ih =>
  intro i s ys hk hi M8 hS hl hm hR;have i7:i<n:=by omega
  refine Jl F.entry_set_update_loop ?_;rw[Yi X6 _];show wpAny _ A.in1 (pyNext (.ref I) >>= _) _ _ s
  refine Ve (W.item i s _ _ i7 M8 λ v h1 tk hP sV V9=>?_);obtain⟨t,rfl⟩:=hval i v hP;have cG:qP prog w h1 S ys:=stay hS λ o e=>V9 S o hSw e
  refine Ve (Qk ?_);unfold setAdd;refine Qk ?_;refine Ve ((qu prog w).pyHash (k:=.inr (val i)) (zh _ _ _ _) ?_);have sD:∀ x,(x∈ys∨x=val i) ↔ ∃ j,j<i+1/\val j=x:=λ x=>by
   rw[hm x];constructor
   ·rintro(⟨j,hj,e⟩ | e)
    ·exact⟨j,by omega,e⟩
    ·exact⟨i,by omega,e.symm⟩
   ·rintro⟨j,hj,e⟩;by_cases hji:j=i
    ·subst hji;exact .inr e.symm
    ·exact .inl ⟨j,by omega,e⟩
  refine qfF (s:={ s with heap:=h1,toks:=tk+1 }) cG (by omega) (λ hx=>?_) (λ hx h2 ys2 N9 hp iS=>?_)
  ·refine Vg ⟨Ql X6 _,ih (i+1) _ ys (by omega) i7 sV cG (by omega) (λ x=>?_) λ h3 tk3 ys3 pZ hS3 tP=>?_⟩
   ·rw[<- sD x];exact⟨.inl,λ z=>z.elim id λ e=>e ▸ hx⟩
   ·exact hR h3 tk3 ys3 (λ b o hb e=>pZ b o hb (V9 b o (λ z=>hb (Yf _ z)) e)) hS3 tP
  ·refine Vg ⟨Ql X6 _,ih (i+1) _ ys2 (by omega) i7 (W.frame _ _ _ sV λ b hb o e=>?_) iS (by rw[hp.length_eq,Zb];simp;omega) (λ x=>?_) λ h3 tk3 ys3 pZ hS3 tP=>?_⟩
   ·exact(N9.2 b (λ z=>hSf (z ▸ hb))).trans e
   ·rw[<- sD x,hp.mem_iff,Uy,Zg]
   ·refine hR h3 tk3 ys3 (λ b o hb e=>pZ b o hb ((N9.2 b (λ z=>hb (z ▸ Y9))).trans (V9 b o (λ z=>hb (Yf _ z)) e))) hS3 tP
end
noncomputable def qeI(P:Program)(w:World)(a:Addr)(xs:List Str):HO:=.ext λ h=>∃ ys,ys.Perm xs/\qP P w h a ys
theorem qh2(hp:ys.Perm xs)(hS:qP P w h a ys):zp P w H h a (qeI P w a xs):=by
 refine⟨⟨ys,hp,hS⟩,?_,?_⟩
 ·obtain⟨o,_,_,_,e,_⟩:=hS;exact⟨o,e⟩
 ·rintro h1 h2 ⟨zs,hz,o,es,ep,t,e,rest⟩ k;exact⟨zs,hz,o,es,ep,t,k o e,rest⟩
theorem Inv.set(I:Inv X pins σ H s)(h:H a=some (qeI X.prog X.w a xs)):∃ ys,ys.Perm xs/\qP X.prog X.w s.heap a ys:=
 (I.hok a _ h).1
theorem qP.typeIs{s:Shared}(h:qP P w s.heap a ys):s.TypeIs (.ref a) "set":=by
 obtain⟨o,es,ep,t,e,hx,_⟩:=h;exact⟨o,e,hx.1⟩
namespace F
theorem sub_tuple_set:isSubtype (.type "tuple") (.type "set")=pure false:=by rw[J5];kernel_rfl
theorem sub_tuple_frozenset:isSubtype (.type "tuple") (.type "frozenset")=pure false:=by rw[J5];kernel_rfl
theorem sub_str_set:isSubtype (.type "str") (.type "set")=pure false:=by rw[J5];kernel_rfl
theorem sub_str_frozenset:isSubtype (.type "str") (.type "frozenset")=pure false:=by rw[J5];kernel_rfl
end F
section
variable {X:Cx}
def qpk(K:W.Frag)(P:Program)(w:World):List V->Hp->VK->Prop:=λ xs H Q=>∃ ss:List Str,(((∃ p,xs=[.ref p]/\(SqL K H p (ss.map V.str)∨SqT K H p (ss.map V.str)))∨∃ z,xs=[.str z]/\ss=(cs z).map λ c=>qk [c]))/\ss.length+1<scanBound /\
 ∀ l ys,H l=none->ys.Nodup->(∀ x,x∈ys ↔ x∈ss)->Q (.ref l) (upd H l (qeI P w l ys))
theorem qbi(hc:X.calm=true):yG X (.type "set") (qpk X.K X.prog X.w):=by
 intro pins s σ H xs us Q I r h;obtain⟨ss,xG,hb,q⟩:=h;have hf:H s.heap.objs.size=none:=I.hok.fresh (Q5 _);have hh:X.A.in1.in1.in1.handled=none:=by simp[I.ok.hd hc]
 have G8:(s.heap.push (qJ X.w)).get? s.heap.objs.size=some (qJ X.w):=Yt _ rfl;have fin:∀(h':Heap)(tk:Nat)(o7:List Str),(∀ b o,b<s.heap.objs.size->s.heap.get? b=some o->h'.get? b=some o)->qP X.prog X.w h' s.heap.objs.size o7->(∀ x,x∈o7 ↔ x∈ss) ->
   Shared.TypeIs { s with heap:=h',toks:=tk } (.ref s.heap.objs.size) "set"/\EP X pins σ Q (.ref s.heap.objs.size) { s with heap:=h',toks:=tk }:=by
  intro h' tk o7 hk hS hm;refine⟨hS.typeIs (s:={ s with heap:=h',toks:=tk }),.ref s.heap.objs.size,_,I.laid (a:=s.heap.objs.size) (o:=qeI X.prog X.w s.heap.objs.size o7) (t':=tk) (λ b o e=>hk b o (Qo e) e) (Q5 _) (qh2 (Ju _) hS),rfl,q _ o7 hf ?_ hm⟩;obtain⟨_,_,_,_,_,_,_,_,nd,_⟩:=hS;exact nd
 have V5:∀(o7:List Str),(∀ x,x∈o7 ↔ ∃ j,j<ss.length/\ss.getD j default=x)->∀ x,x∈o7 ↔ x∈ss:=λ o7 hm x=>by
  rw[hm x];constructor
  ·rintro⟨j,hj,e⟩;rw[Xj,Xv hj] at e;rw[<- e];exact Uk hj
  ·intro hx;obtain⟨j,hj,e⟩:=Yw hx;exact⟨j,hj,by rw[Xj,Xv hj];exact e⟩
 have uL:∀{its:List Value},qL (ss.map V.str) its->∀(i:Nat)(v:Value),its.toArray[i]?=some v->∃ t,v=.str (ss.getD i default) t:=λ{its} rv i v hv=>by
  have e:its[i]?=some v:=by simpa using hv
  have hl:=rv.length;rw[U0] at hl;have hi:i<ss.length:=by rw[hl];exact(Xl.mp e).1
  obtain⟨u,hu,ru⟩:=rv.get (i:=i) (x:=.str ss[i]) (by rw[Zn,Xv hi];rfl);rw[e] at hu;cases hu
  obtain⟨t,rfl⟩:=ru;exact⟨t,by rw[Xj,Xv hi];rfl⟩
 rcases xG with⟨p,rfl,hq⟩|⟨z,rfl,ez⟩
 ·obtain⟨u,rfl,ru⟩:=zT r;cases ru
  rcases hq with hq|hq
  ·obtain⟨its,rv,pl,hz⟩:=I.list hq;have hl:=rv.length;rw[U0] at hl;have gQ:p<s.heap.objs.size:=by obtain⟨_,e,_⟩:=pl.isList;exact Qo e
   have mQ:(s.heap.push (qJ X.w)).IsList p its.toArray:=pl.isList.push _;have sz:(s.heap.push (qJ X.w)).objs.size=s.heap.objs.size+1:=Jr _ _;refine vU (.ref p) (yQ (s:={ s with heap:=s.heap.push (qJ X.w) }) mQ.typeIs F.sub_list_set F.sub_list_frozenset (by decide) (Z2 mQ ?_));refine vV (Walks.list hh _ p (by rw[sz];exact Qp (Zt gQ)) its.toArray) s.heap.objs.size (by rw[sz];simp;exact Qs gQ) (λ i=>ss.getD i default) (uL rv) (by rw[Zo,<- hl];exact hb)
    (its.toArray.size-0) 0 _ [] rfl (Q6 _) ⟨⟨_,Yt _ rfl,rfl,rfl⟩,mQ.push _⟩ (jt (XB _ G8)) (Q5 _) (by simp) λ h' tk o7 hk hS hm=>⟨rfl,?_⟩
   refine fin h' tk o7 (λ b o hb e=>hk b o (by simp[sz];exact⟨Qp hb,Qp (Zt hb)⟩) (XB _ (XB _ e))) hS (V5 o7 λ x=>?_);rw[hm x,Zo,<- hl]
  ·obtain⟨its,rv,pl,hz⟩:=I.tuple hq;have hl:=rv.length;rw[U0] at hl;have gQ:p<s.heap.objs.size:=by obtain⟨_,e,_⟩:=pl;exact Qo e
   have mQ:(s.heap.push (qJ X.w)).IsTuple p its.toArray:=by
    obtain⟨o,e,rest⟩:=pl;exact⟨o,XB _ e,rest⟩
   have sz:(s.heap.push (qJ X.w)).objs.size=s.heap.objs.size+1:=Jr _ _;have hT:Shared.TypeIs { s with heap:=s.heap.push (qJ X.w) } (.ref p) "tuple":=by
    obtain⟨o,e,c,rest⟩:=mQ;exact⟨o,e,c⟩
   refine vU (.ref p) (yQ (s:={ s with heap:=s.heap.push (qJ X.w) }) hT F.sub_tuple_set F.sub_tuple_frozenset (by decide) (wpAny_pyIter_tuple mQ ?_));have S8:((s.heap.push (qJ X.w)).push { cls:=.type "tuple_iterator",data:=.fields #[.ref p,.int 0 0] }).IsTuple p its.toArray:=by
    obtain⟨o,e,rest⟩:=mQ;exact⟨o,XB _ e,rest⟩
   refine vV (Walks.tuple hh _ p (by rw[sz];exact Qp (Zt gQ)) its.toArray) s.heap.objs.size (by rw[sz];simp;exact Qs gQ) (λ i=>ss.getD i default) (uL rv) (by rw[Zo,<- hl];exact hb)
    (its.toArray.size-0) 0 _ [] rfl (Q6 _) ⟨⟨_,Yt _ rfl,rfl,rfl⟩,S8⟩ (jt (XB _ G8)) (Q5 _) (by simp) λ h' tk o7 hk hS hm=>⟨rfl,?_⟩
   refine fin h' tk o7 (λ b o hb e=>hk b o (by simp[sz];exact⟨Qp hb,Qp (Zt hb)⟩) (XB _ (XB _ e))) hS (V5 o7 λ x=>?_);rw[hm x,Zo,<- hl]
 ·obtain⟨u,rfl,ru⟩:=zT r;obtain⟨t,rfl⟩:=ru;have hl:ss.length=z.cps.size:=by rw[ez,U0];simp
  have sz:(s.heap.push (qJ X.w)).objs.size=s.heap.objs.size+1:=Jr _ _;refine vU (.str z t) (yQ (s:={ s with heap:=s.heap.push (qJ X.w) }) (Vi _ z t) F.sub_str_set F.sub_str_frozenset (by decide) (wpAny_pyIter_str λ o St W M8=>?_));refine vV (W _ hh) s.heap.objs.size (by rw[sz];simp) (λ i=>ss.getD i default) (λ i v hv=>?_) (by rw[<- hl];exact hb)
   (z.cps.size-0) 0 _ [] rfl (Q6 _) M8 (jt (XB _ G8)) (Q5 _) (by simp) λ h' tk o7 hk hS hm=>⟨rfl,?_⟩
  ·obtain⟨c,u,e,rfl⟩:=hv;refine⟨u,?_⟩;have e':(cs z)[i]?=some c:=by rw[XS];exact e
   rw[Xj,ez,Zn,e'];rfl
  ·refine fin h' tk o7 (λ b o hb e=>hk b o (by simp[sz];exact⟨Qp hb,Qp (Zt hb)⟩) (XB _ (XB _ e))) hS (V5 o7 λ x=>?_);rw[hm x,<- hl]
end
noncomputable def qjR(mask i:Nat):Nat:=(i*5+1) % (mask+1)
noncomputable def lit(mask:Nat):Nat->Nat->Nat
 |0,i=>i
 |k+1,i=>lit mask k (qjR mask i)
theorem qco(mask:Nat):∀ a b i,lit mask (a+b) i=lit mask b (lit mask a i)
 |0,b,i=>by rw[Qw];rfl
 |a+1,b,i=>by rw[Nat.add_right_comm];exact qco mask a b (qjR mask i)
def vW(mask:Nat):Prop:=∀ i j,i<=mask->j<=mask->∃ k,k<=mask/\lit mask k i=j
noncomputable def qjS(mask:Nat):Nat->Nat->List Nat
 |0,_=>[]
 |n+1,i=>i::qjS mask n (qjR mask i)
theorem qfG(mask:Nat):∀ n i j,j∈qjS mask n i->∃ k,k<n/\lit mask k i=j
 |0,_,_,h=>by cases h
 |n+1,i,j,h=>by
  rcases Qb.mp h with e|e
  ·exact⟨0,Nat.succ_pos _,e.symm⟩
  ·obtain⟨k,hk,e⟩:=qfG mask n _ _ e;exact⟨k+1,Nat.succ_lt_succ hk,e⟩
theorem qlG(h:(List.range (mask+1)).all (λ j=>(qjS mask (mask+1) 0).contains j)=true)(hz:lit mask (mask+1) 0=0):vW mask:=by
 have cov:∀ j,j<=mask->∃ k,k<=mask/\lit mask k 0=j:=λ j hj=>by
  have:=Uj.mp h j (Jp.mpr (by omega))
  obtain⟨k,hk,e⟩:=qfG mask _ _ _ (XT.mp this);exact⟨k,by omega,e⟩
 intro i j hi hj;obtain⟨a,ha,ea⟩:=cov i hi;obtain⟨b,hb,eb⟩:=cov j hj;by_cases E7:a<=b
 ·refine⟨b-a,by omega,?_⟩;rw[<- ea,<- qco,show a+(b-a)=b by omega,eb]
 ·refine⟨mask+1-a+b,by omega,?_⟩;rw[<- ea,<- qco,show a+(mask+1-a+b)=(mask+1)+b by omega,qco,hz,eb]
theorem qd6:∀(l:List Nat)(c7 j:Nat),(l.foldl (λ a x=>a ||| (1 <<< x)) c7).testBit j=(c7.testBit j || l.contains j)
 | [],c7,j=>by simp
 |x::l,c7,j=>by
  rw[U9,qd6 l,Nat.testBit_or,Nat.one_shiftLeft,Nat.testBit_two_pow,List.contains_cons,Bool.or_assoc];congr 1
  congr 1
  by_cases h:x=j
  ·subst h;simp
  ·rw[Jh h];exact(Y6.mpr (Vr h)).symm
theorem y7(h:(qjS mask (mask+1) 0).foldl (λ a x=>a ||| (1 <<< x)) 0=2^(mask+1)-1)(hz:lit mask (mask+1) 0=0):vW mask:=by
 refine qlG (Uj.mpr λ j hj=>?_) hz;have hj:=Jp.mp hj;have e:=qd6 (qjS mask (mask+1) 0) 0 j;rw[h,Nat.testBit_two_pow_sub_one,J4 hj,Nat.zero_testBit,Qe] at e;exact e.symm
theorem qmH:vW 7:=y7 (by decide +kernel) (by decide +kernel)
theorem qnd:vW 15:=y7 (by decide +kernel) (by decide +kernel)
theorem qne:vW 31:=y7 (by decide +kernel) (by decide +kernel)
theorem qnf:vW 63:=y7 (by decide +kernel) (by decide +kernel)
theorem qlH:vW 127:=y7 (by decide +kernel) (by decide +kernel)
theorem qlI:vW 255:=y7 (by decide +kernel) (by decide +kernel)
theorem qlJ:vW 511:=y7 (by decide +kernel) (by decide +kernel)
theorem qjT:vW 1023:=y7 (by decide +kernel) (by decide +kernel)
theorem qjU:vW 2047:=y7 (by decide +kernel) (by decide +kernel)
theorem qbj{α β:Type}{f g:α->Option β}:∀{l:List α},(∀ x∈l,f x=g x)->l.filterMap f=l.filterMap g
 | [],_=>rfl
 |a::l,h=>by
  rw[Yr,Yr,h a Y9,qbj λ x hx=>h x (Yf _ hx)]
noncomputable def pos(mask:Nat):Nat->Nat->Nat->Nat
 |0,i,_=>i
 |t+1,i,p=>pos mask t (SetTable.leap mask i p).1 (SetTable.leap mask i p).2
theorem qd7:∀(fuel i p:Nat),SetTable.layClean.free mask owner fuel i p=none->∀ t,t<fuel->(owner.getD (pos mask t i p) (some 0)).isNone=false
 |0,_,_,_,t,ht=>absurd ht (Nat.not_lt_zero _)
 |fuel+1,i,p,h,t,ht=>by
  unfold SetTable.layClean.free at h;cases e:(List.range (SetTable.runEnd mask i+1-i)).find? λ k=>(owner.getD (i+k) (some 0)).isNone with
  |some k=>rw[e] at h;cases h
  |none =>
   rw[e] at h;cases t with
   |zero =>
    have hr:i<=SetTable.runEnd mask i:=by unfold SetTable.runEnd;split <;> omega
    have:=List.find?_eq_none.mp e 0 (Jp.mpr (by omega))
    rw[Nat.add_zero] at this;show(owner.getD i (some 0)).isNone=false
    exact Zv.mpr this
   |succ t=>exact qd7 fuel _ _ h t (by omega)
theorem qd8:∀(fuel i p j:Nat),SetTable.layClean.free mask owner fuel i p=some j->owner.getD j (some 0)=none
 |0,_,_,_,h=>by unfold SetTable.layClean.free at h;cases h
 |fuel+1,i,p,j,h=>by
  unfold SetTable.layClean.free at h;cases e:(List.range (SetTable.runEnd mask i+1-i)).find? λ k=>(owner.getD (i+k) (some 0)).isNone with
  |some k =>
   rw[e] at h;cases h
   have:=List.find?_some e
   simpa using this
  |none=>rw[e] at h;exact qd8 fuel _ _ _ h
theorem j9(mask:Nat):∀(a b i p:Nat),∃ i',pos mask (a+b) i p=pos mask b i' (p / 32^a)/\(i<=mask->i'<=mask)
 |0,b,i,p=>⟨i,by simp,id⟩
 |a+1,b,i,p=>by
  obtain⟨i',e,h⟩:=j9 mask a b (SetTable.leap mask i p).1 (SetTable.leap mask i p).2;refine⟨i',?_,λ _=>h ?_⟩
  ·rw[show a+1+b=(a+b)+1 by omega];show pos mask (a+b) _ _=_
   rw[e]
   have:(SetTable.leap mask i p).2 / 32^a=p / 32^(a+1):=by
    show p / 32 / 32^a=_
    rw[XH,Qt,Qx]
   rw[this]
  ·show(_ % _)<=_
   exact Nat.le_of_lt_succ (Vc _ (Nat.succ_pos _))
theorem qc6(mask:Nat):∀(t i:Nat),pos mask t i 0=lit mask t i
 |0,_=>rfl
 |t+1,i=>by
  show pos mask t ((i*5+1+0 / 32) % (mask+1)) (0 / 32)=lit mask t ((i*5+1) % (mask+1))
  rw[Nat.zero_div,Nat.add_zero];exact qc6 mask t _
theorem qlK(g:vW mask)(hi:i<=mask)(hp:p<2^64)(hj:j0<=mask)(h0:owner.getD j0 (some 0)=none):
  ∃ j,SetTable.layClean.free mask owner (SetTable.turns mask) i p=some j:=by
 cases e:SetTable.layClean.free mask owner (SetTable.turns mask) i p with
 |some j=>exact⟨j,rfl⟩
 |none =>
  exfalso
  obtain⟨i',_,hi'⟩:=j9 mask 13 0 i p;have hz:p / 32^13=0:=Nat.div_eq_of_lt (Y8 hp (by decide));obtain⟨i',ei,hi'⟩:=j9 mask 13 0 i p;obtain⟨k,hk,ek⟩:=g i' j0 (hi' hi) hj;obtain⟨i2,e2,h2⟩:=j9 mask 13 k i p;obtain⟨k2,dJ,ek2⟩:=g i2 j0 (h2 hi) hj;have same:∀ b,∃ i',pos mask (13+b) i p=lit mask b i'/\i'=pos mask 13 i p:=λ b=>by
   obtain⟨i3,e3,_⟩:=j9 mask 13 b i p;obtain⟨i4,e4,_⟩:=j9 mask 13 0 i p;rw[hz,qc6] at e3 e4;exact⟨pos mask 13 i p,by
    have gen:∀(a b i p:Nat),pos mask (a+b) i p=pos mask b (pos mask a i p) (p / 32^a):=by
     intro a;induction a with
     |zero=>intro b i p;simp[pos]
     |succ a ih =>
      intro b i p;rw[show a+1+b=(a+b)+1 by omega];show pos mask (a+b) _ _=pos mask b (pos mask a _ _) _
      rw[ih]
      have:(SetTable.leap mask i p).2 / 32^a=p / 32^(a+1):=by
       show p / 32 / 32^a=_
       rw[XH,Qt,Qx]
      rw[this]
    rw[gen 13 b i p,hz,qc6],rfl⟩
  have F0:pos mask 13 i p<=mask:=by
   obtain⟨i4,e4,h4⟩:=j9 mask 13 0 i p;rw[show 13+0=13 from rfl,hz] at e4;rw[e4];exact h4 hi
  obtain⟨k,hk,ek⟩:=g _ j0 F0 hj;obtain⟨i5,e5,e6⟩:=same k
  have:=qd7 _ _ _ e (13+k) (by unfold SetTable.turns;omega)
  rw[e5,e6,ek,h0] at this;cases this
noncomputable def ow(owner:Array (Option Nat))(mask:Nat):List Nat:=(List.range (mask+1)).filterMap λ j=>owner.getD j none
theorem qax {v:Nat}(h1:f j=none)(h2:f' j=some v)(h3:∀ i,i≠j->f' i=f i):∀{l:List Nat},l.Nodup->j∈l->(l.filterMap f').Perm (v::l.filterMap f)
 | [],_,h=>by cases h
 |a::l,nd,h=>by
  have G6:=U2.mp nd;by_cases ha:a=j
  ·subst ha;rw[Xw h2,Xx h1]
   have:l.filterMap f'=l.filterMap f:=qbj λ x hx=>h3 x λ e=>G6.1 (e ▸ hx)
   rw[this]
  ·have hm:j∈l:=by
    rcases Qb.mp h with e|e
    ·exact absurd e.symm ha
    ·exact e
   have ih:=qax h1 h2 h3 G6.2 hm;cases e:f a with
   |none=>rw[Xx e,Xx ((h3 a ha).trans e)];exact ih
   |some b=>rw[Xw e,Xw ((h3 a ha).trans e)];exact(ih.cons b).trans (List.Perm.swap _ _ _)
theorem qeJ{owner:Array (Option Nat)}(h:owner.getD j (some 0)=none):j<owner.size/\owner.getD j none=none:=by
 rw[Xf] at h ⊢;cases e:owner[j]? with
 |none=>rw[e] at h;cases h
 |some o =>
  rw[e] at h;exact⟨(Array.getElem?_eq_some_iff.mp e).1,h⟩
theorem qgT(hs:owner.size=mask+1)(h:(ow owner mask).length<=mask):∃ j,j<=mask/\owner.getD j (some 0)=none:=by
 by_cases bS:∃ j,j<=mask/\owner.getD j (some 0)=none
 ·exact bS
 ·exfalso
  have all:∀ j∈List.range (mask+1),∃ v,owner.getD j none=some v:=λ j hj=>by
   have hj:=Jp.mp hj
   have:owner.getD j (some 0)≠none:=λ e=>bS ⟨j,by omega,e⟩
   rw[Xf] at this ⊢;cases e:owner[j]? with
   |none=>have:=Array.getElem?_eq_none_iff.mp e;omega
   |some o =>
    rw[e] at this;cases o with
    |none=>exact absurd rfl this
    |some v=>exact⟨v,rfl⟩
  have len:∀ l:List Nat,(∀ j∈l,∃ v,owner.getD j none=some v)->(l.filterMap λ j=>owner.getD j none).length=l.length:=by
   intro l;induction l with
   |nil=>intro _;rfl
   |cons a l ih =>
    intro h;obtain⟨v,hv⟩:=h a Y9;have e1:(List.filterMap (λ j=>owner.getD j none) (a::l))=v::List.filterMap (λ j=>owner.getD j none) l:=by
     rw[Yr];rw[hv]
    rw[e1,Uc,Uc,ih λ j hj=>h j (Yf _ hj)]
  have:=len _ all
  rw[Zw] at this;unfold ow at h;omega
theorem qlL(h:Int):SetTable.bits h<2^64:=by
 unfold SetTable.bits;have h1:0<=h % (2^64:Int):=Ja _ (by decide);have h2:h % (2^64:Int)<2^64:=Zh _ (by decide);omega
noncomputable def qlM(mask:Nat)(c7:Option (Array (Option Nat)×Nat))(h:Int):Option (Array (Option Nat)×Nat):=do
  let (owner,k) <- c7
  let j <- SetTable.layClean.free mask owner (SetTable.turns mask) (SetTable.bits h % (mask+1)) (SetTable.bits h)
  pure (owner.setIfInBounds j (some k),k+1)
theorem qfH(g:vW mask):∀(hs:List Int)(owner:Array (Option Nat))(k:Nat),owner.size=mask+1->(ow owner mask).Perm (List.range k)->k+hs.length<=mask ->
  ∃ o',hs.foldl (qlM mask) (some (owner,k))=some (o',k+hs.length)/\o'.size=mask+1/\(ow o' mask).Perm (List.range (k+hs.length))
 | [],owner,k,hs,hp,_=>⟨owner,rfl,hs,hp⟩
 |h::hs,owner,k,hsz,hp,hk=>by
  rw[Uc] at hk;obtain⟨j0,hj0,e0⟩:=qgT hsz (by rw[hp.length_eq,Zw];omega);obtain⟨j,ej⟩:=qlK g (owner:=owner) (i:=SetTable.bits h % (mask+1)) (p:=SetTable.bits h) (Nat.le_of_lt_succ (Vc _ (Nat.succ_pos _))) (qlL h) hj0 e0;obtain⟨hjs,hjn⟩:=qeJ (qd8 _ _ _ _ ej);have step:qlM mask (some (owner,k)) h=some (owner.setIfInBounds j (some k),k+1):=by
   unfold qlM;show(SetTable.layClean.free mask owner (SetTable.turns mask) (SetTable.bits h % (mask+1)) (SetTable.bits h) >>= _)=_
   rw[ej];rfl
  have E9:(ow (owner.setIfInBounds j (some k)) mask).Perm (List.range (k+1)):=by
   have:=qax (f:=λ j=>owner.getD j none) (f':=λ i=>(owner.setIfInBounds j (some k)).getD i none) (j:=j) (v:=k) hjn
    (by show(owner.setIfInBounds j (some k)).getD j none=_;rw[Xf,Array.getElem?_setIfInBounds_self_of_lt hjs];rfl)
    (λ i hi=>by show(owner.setIfInBounds j (some k)).getD i none=_;rw[Xf,Array.getElem?_setIfInBounds_ne (Vr hi),<- Xf])
    (l:=List.range (mask+1)) List.nodup_range (Jp.mpr (by omega))
   refine this.trans ?_;rw[show List.range (k+1)=List.range k++[k] from Jb];exact(List.Perm.cons k hp).trans (List.perm_append_comm (l₁:=[k]) (l₂:=List.range k))
  obtain⟨o',e,h1,h2⟩:=qfH g hs (owner.setIfInBounds j (some k)) (k+1) (by rw[Array.size_setIfInBounds];exact hsz) E9 (by omega);refine⟨o',?_,h1,?_⟩
  ·rw[U9,step,e,Uc];congr 2;omega
  ·rw[Uc,show k+(hs.length+1)=k+1+hs.length by omega];exact h2
theorem qfI(g:vW mask)(hs:Array Int)(hk:hs.size<=mask):∃ o',SetTable.layClean mask hs=some o'/\o'.size=mask+1/\(ow o' mask).Perm (List.range hs.size):=by
 have h0:(ow (Array.replicate (mask+1) none) mask).Perm (List.range 0):=by
  have:ow (Array.replicate (mask+1) none) mask=[]:=by
   unfold ow;rw[List.filterMap_eq_nil_iff];intro j hj;rw[Xf,Array.getElem?_replicate];split <;> rfl
  rw[this];exact Ju _
 obtain⟨o',e,h1,h2⟩:=qfH g hs.toList (Array.replicate (mask+1) none) 0 (by simp) h0 (by simpa using hk);refine⟨o',?_,h1,by simpa using h2⟩;unfold SetTable.layClean;rw[<- Array.foldl_toList]
 have:(List.foldl (qlM mask) (some (Array.replicate (mask+1) none,0)) hs.toList).map (·.1)=some o':=by rw[e];rfl
 exact this
theorem qh3(g:vW mask)(finger moves:Nat)(led plain:Bool)(hs:Array Int)(hk:hs.size<=mask):
  ∃ t t5,SetTable.laid mask finger moves led plain hs=some (t,t5)/\t.fits hs.size=true/\t.led=led/\t.plain=plain/\t.mask=mask/\t.dummies=#[]/\t.place.size=hs.size/\t5.toList.Perm (List.range hs.size):=by
 obtain⟨o',e,h1,h2⟩:=qfI g hs hk;have c9:((List.range (mask+1)).filterMap λ j=>(o'.getD j none).map (j,·)).length=hs.size:=by
  rw[<- U0 (f:=(·.2)),List.map_filterMap]
  have:(List.range (mask+1)).filterMap (λ x=>Option.map (λ x=>x.2) ((o'.getD x none).map (x,·)))=ow o' mask:=by
   unfold ow;refine qbj λ j _=>?_
   cases o'.getD j none with
   |none=>rfl
   |some v=>rfl
  rw[this,h2.length_eq,Zw]
 refine⟨_,_,by unfold SetTable.laid;rw[e];rfl,?_,rfl,rfl,rfl,rfl,?_,?_⟩
 ·unfold SetTable.fits SetTable.fill;rw[Zo,U0,c9];simpa using hk
 ·dsimp only;rw[Zo,U0,c9]
 ·show(((List.range (mask+1)).filterMap λ j=>(o'.getD j none).map (j,·)).map (·.2)).Perm _
  rw[List.map_filterMap]
  have:(List.range (mask+1)).filterMap (λ x=>Option.map (λ x=>x.2) ((o'.getD x none).map (x,·)))=ow o' mask:=by
   unfold ow;refine qbj λ j _=>?_
   cases o'.getD j none with
   |none=>rfl
   |some v=>rfl
  rw[this];exact h2
theorem qgU{α:Type}(es:Array α){t5:List Nat}(hp:t5.Perm (List.range es.size)):(t5.filterMap (es[·]?)).Perm es.toList:=by
 refine(hp.filterMap _).trans ?_
 have:∀(l:List α),(List.range l.length).filterMap (λ i=>l[i]?)=l:=by
  intro l;induction l with
  |nil=>rfl
  |cons a l ih =>
   have e:(List.filterMap (λ i=>(a::l)[i]?) (0::List.map Nat.succ (List.range l.length)))=a::List.filterMap (λ i=>(a::l)[i]?) (List.map Nat.succ (List.range l.length)):=by
    rw[Yr];rfl
   rw[Uc,List.range_succ_eq_map,e,List.filterMap_map];exact congrArg (a::·) ih
 have h:=this es.toList;rw[Ys] at h;have e:(λ i=>es.toList[i]?)=λ i=>es[i]?:=funext λ i=>XS
 rw[e] at h;rw[h]
namespace F
theorem slot_set_iterator_next:Slot "set_iterator" "__next__" "set_iterator.__next__":=
 .of (owner:="set_iterator") (n:="__next__") (by rw[Jm,Ye];kernel_rfl) (by decide +kernel) (by decide +kernel) (by decide +kernel)
  (by first|exact .inl (by decide +kernel)|exact .inr (by decide +kernel)) (by rw[J5];kernel_rfl)
theorem entry_set_iterator_next:entryFor table "set_iterator.__next__"=some Builtin.«set_iterator.__next__»:=entryFor_of_fast (by kernel_rfl)
theorem args_set_iterator_next_1(a:Value):argsOk "set_iterator.__next__" ⟨[a],[]⟩:=by unfold argsOk;kernel_rfl
theorem slot_set_iterator_iter:Slot "set_iterator" "__iter__" "set_iterator.__iter__":=
 .of (owner:="set_iterator") (n:="__iter__") (by rw[Jm,Ye];kernel_rfl) (by decide +kernel) (by decide +kernel) (by decide +kernel)
  (by first|exact .inl (by decide +kernel)|exact .inr (by decide +kernel)) (by rw[J5];kernel_rfl)
theorem entry_set_iterator_iter:entryFor table "set_iterator.__iter__"=some Builtin.«dict_keyiterator.__iter__»:=
 J6 (id':="dict_keyiterator.__iter__") (by kernel_rfl) rfl (by decide +kernel) (by kernel_rfl)
theorem args_set_iterator_iter_1(a:Value):argsOk "set_iterator.__iter__" ⟨[a],[]⟩:=by unfold argsOk;kernel_rfl
theorem entry_set_iter:entryFor table "set.__iter__"=some Builtin.«frozenset.__iter__»:=
 J6 (id':="frozenset.__iter__") (by kernel_rfl) rfl (by decide +kernel) (by kernel_rfl)
theorem args_set_iter_1(a:Value):argsOk "set.__iter__" ⟨[a],[]⟩:=by unfold argsOk;kernel_rfl
theorem entry_set_xor:entryFor table "set.__xor__"=some Builtin.«frozenset.__xor__»:=
 J6 (id':="frozenset.__xor__") (by kernel_rfl) rfl (by decide +kernel) (by kernel_rfl)
end F
theorem qbk(next:Nat->Nat):∀(fuel k:Nat)(left:List α)(out:Array α),fuel=left.length->(pickOrder.go next fuel k left out).toList.Perm (out.toList++left)
 |0,k,left,out,h=>by
  have:left=[]:=Xd h.symm
  subst this;unfold pickOrder.go;rw[U1]
 |fuel+1,k,left,out,h=>by
  unfold pickOrder.go;have i7:next k % left.length<left.length:=Vc _ (by omega);rw[Xv i7];dsimp only;refine(qbk next fuel (k+1) _ _ (by rw[Xk i7];omega)).trans ?_;rw[Zu,Zx];exact List.Perm.append_left _ (qaH left _ i7)
theorem qd9(next:Nat->Nat)(xs:Array α):(pickOrder next xs).toList.Perm xs.toList:=by
 unfold pickOrder
 have:=qbk next xs.size 0 xs.toList #[] (by simp)
 simpa using this
section
variable {prog:Program}{w:World}{A:Around}{E:Value->Shared->Prop}{s:Shared}
theorem qiR(ho:s.heap.get? a=some o)(hd:o.data=.set es ep t)(hf:t.fits es.size=true)(hl:t.led=true∨byT w)(h:∀ u0 d,u0.toList.Perm es.toList->Q u0 { s with drawn:=d }):wpAny (model prog w) A (setWalk a) Q E s:=by
 have h0:∀ u0,u0.toList.Perm es.toList->Q u0 s:=λ u0 hp=>by
  have:=h u0 s.drawn hp
  cases s;exact this
 unfold setWalk;refine Ve (Z8 ho hd hf ?_);dsimp only;unfold setsByText;refine Ve (Ve (Ut (Vg ?_)));dsimp only;refine Jn (λ hb=>?_) (λ hb=>?_)
 ·refine Ve (Ut (Vg ?_));exact h0 _ (qd9 _ _)
 ·refine Jn (λ fX=>?_) (λ fX=>?_)
  ·refine Ve (yP es.size es.toList _ _ (by simp) λ ys d hp=>Vg ?_);exact h _ d (by simpa using hp)
  ·refine Ve ?_;have bM:t.led=true:=hl.resolve_right hb;show wpAny _ _ (if (!t.led && decide (es.size > 1))=true then _ else _) _ _ s
   rw[bM];simp only[Qh,Jq,Ze,Vn];exact Vg (Vg (h0 _ (Ju _)))
noncomputable abbrev itO(first:Value)(i:Nat)(S:Addr)(n ep:Nat):Obj:={ cls:=.type "set_iterator",data:=.fields #[first,.int i 0,.ref S,.int n 0,.int ep 0] }
theorem qfJ {sl:Nat}(p6:s.heap.get? I=some (itO (.int sl 0) i S n ep))(ho:s.heap.get? S=some o)(hd:o.data=.set es ep t)(hf:t.fits es.size=true)(hn:es.size=n)(hN:∀(Q:Option (Value×Nat)->Shared->Prop)(E:Value->Shared->Prop),Q (some (x,nx)) s->wpAny (model prog w) A.in1 (setNext S sl i ep) Q E s)(hQ:∀ h',h'.get? I=some (itO (.int nx 0) (i+1) S n ep)->Heap.SameBut I s.heap h'->Q (some x) { s with heap:=h' }):wpAny (model prog w) A (pyNext (.ref I)) Q E s:=by
 have hT:s.TypeIs (.ref I) "set_iterator":=⟨_,p6,rfl⟩;unfold pyNext;refine Ve (Qm (XA (name:=Str.ofString "__next__") hT F.slot_set_iterator_next
  (Uv F.slot_set_iterator_next hT F.entry_set_iterator_next ?_ (F.args_set_iterator_next_1 _))))
 unfold Builtin.«set_iterator.__next__»;show wpAny _ _ (fieldsOf (.ref I) >>= _) _ _ s
 refine Ve (J7 p6 rfl ?_);show wpAny _ _ (setEntries S >>= _) _ _ s
 refine Ve (Y7 ho hd hf ?_);rw[hn];simp only[Z9,Ze,Vn];show wpAny _ _ (setNext S (sl:Int).toNat (i:Int).toNat (ep:Int).toNat >>= _) _ _ s
 simp only[Zp];refine Ve (hN _ _ ?_);dsimp only;refine Ve (Zm p6 (by simp) λ h1 O6 aN=>?_);refine Ve (Zm O6 (by simp) λ h2 hit2 o6=>?_);refine Vg ⟨x,rfl,Vg (hQ h2 ?_ (aN.trans o6))⟩;rw[hit2];rfl
theorem qfK {sl:Nat}(hh:A.handled=none)(p6:s.heap.get? I=some (itO (.int sl 0) i S n ep))(ho:s.heap.get? S=some o)(hd:o.data=.set es ep t)(hf:t.fits es.size=true)(hn:es.size=n)(hN:∀(Q:Option (Value×Nat)->Shared->Prop)(E:Value->Shared->Prop),Q none s->wpAny (model prog w) A.in1 (setNext S sl i ep) Q E s)(hQ:∀ h',Heap.ExtBut I s.heap h'->Q none { s with heap:=h' }):wpAny (model prog w) A (pyNext (.ref I)) Q E s:=by
 have hT:s.TypeIs (.ref I) "set_iterator":=⟨_,p6,rfl⟩;unfold pyNext;refine Ve (Qm (XA (name:=Str.ofString "__next__") hT F.slot_set_iterator_next
  (Uv F.slot_set_iterator_next hT F.entry_set_iterator_next ?_ (F.args_set_iterator_next_1 _))))
 unfold Builtin.«set_iterator.__next__»;show wpAny _ _ (fieldsOf (.ref I) >>= _) _ _ s
 refine Ve (J7 p6 rfl ?_);show wpAny _ _ (setEntries S >>= _) _ _ s
 refine Ve (Y7 ho hd hf ?_);rw[hn];simp only[Z9,Ze,Vn];show wpAny _ _ (setNext S (sl:Int).toNat (i:Int).toNat (ep:Int).toNat >>= _) _ _ s
 simp only[Zp];refine Ve (hN _ _ ?_);dsimp only;refine Ve (wpAny_setField p6 rfl (by simp) ?_);show wpAny _ _ (newExc (.type "StopIteration") [] >>= _) _ _ _
 refine Ve ?_;simp only[newExc,newTuple];refine Ve (Z4 ?_ (by size_fits));refine Ve (m:=firstArgMember _ _) (Va (a:=Value.none) (by first|rfl|(simp only[firstArgMember];rfl)) ?_);refine Z4 ?_ (by size_fits);simp only[raiseNew];refine Ve (wpAny_handled ?_)
 first|rw[show A.in1.handled=none from hh]|rw[hh]
 refine Ve (Vg (wpAny_throw ?_));refine Ve (Uu (T:="StopIteration") (b:=true) ⟨_,Yt _ rfl,rfl⟩ J8 ?_);exact Vg (hQ _ (((Yx ..).extBut.push _).push _))
theorem qjV {k:Nat}(p6:s.heap.get? I=some (itO (.ref T) i S n ep))(hp:s.heap.IsTuple T pl)(ho:s.heap.get? S=some o)(hd:o.data=.set es ep t)(hf:t.fits es.size=true)(hn:es.size=n)(hk:pl[i]?=some (.int k 0))(hx:es[k]?=some (hx,x))(hQ:∀ h',h'.get? I=some (itO (.ref T) (i+1) S n ep)->Heap.SameBut I s.heap h'->Q (some x) { s with heap:=h' }):wpAny (model prog w) A (pyNext (.ref I)) Q E s:=by
 have hT:s.TypeIs (.ref I) "set_iterator":=⟨_,p6,rfl⟩;obtain⟨ot,mM,_,nt,oI⟩:=hp;unfold pyNext;refine Ve (Qm (XA (name:=Str.ofString "__next__") hT F.slot_set_iterator_next
  (Uv F.slot_set_iterator_next hT F.entry_set_iterator_next ?_ (F.args_set_iterator_next_1 _))))
 unfold Builtin.«set_iterator.__next__»;show wpAny _ _ (fieldsOf (.ref I) >>= _) _ _ s
 refine Ve (J7 p6 rfl ?_);show wpAny _ _ (setEntries S >>= _) _ _ s
 refine Ve (Y7 ho hd hf ?_);rw[hn];simp only[Z9,Ze,Vn];show wpAny _ _ (seqItems? (.ref T) >>= _) _ _ s
 refine Ve (J9 mM oI ?_);simp only[Zp,hk];show wpAny _ _ (setNextDrawn S (k:Int).toNat (ep:Int).toNat >>= _) _ _ s
 simp only[Zp];unfold setNextDrawn;refine Ve (Ve (Z8 ho hd hf ?_));simp only[Z9,Ze,Vn,hx];refine Vg ?_;refine Ve (Zm p6 (by simp) λ h1 O6 aN=>?_);refine Vg ⟨x,rfl,Vg (hQ h1 ?_ aN)⟩;rw[O6];rfl
theorem qjW(hh:A.handled=none)(p6:s.heap.get? I=some (itO (.ref T) i S n ep))(hp:s.heap.IsTuple T pl)(ho:s.heap.get? S=some o)(hd:o.data=.set es ep t)(hf:t.fits es.size=true)(hn:es.size=n)(hk:pl[i]?=none)(hQ:∀ h',Heap.ExtBut I s.heap h'->Q none { s with heap:=h' }):wpAny (model prog w) A (pyNext (.ref I)) Q E s:=by
 have hT:s.TypeIs (.ref I) "set_iterator":=⟨_,p6,rfl⟩;obtain⟨ot,mM,_,nt,oI⟩:=hp;unfold pyNext;refine Ve (Qm (XA (name:=Str.ofString "__next__") hT F.slot_set_iterator_next
  (Uv F.slot_set_iterator_next hT F.entry_set_iterator_next ?_ (F.args_set_iterator_next_1 _))))
 unfold Builtin.«set_iterator.__next__»;show wpAny _ _ (fieldsOf (.ref I) >>= _) _ _ s
 refine Ve (J7 p6 rfl ?_);show wpAny _ _ (setEntries S >>= _) _ _ s
 refine Ve (Y7 ho hd hf ?_);rw[hn];simp only[Z9,Ze,Vn];show wpAny _ _ (seqItems? (.ref T) >>= _) _ _ s
 refine Ve (J9 mM oI ?_);simp only[Zp,hk];refine Ve (Zm p6 (by simp) λ h1 O6 aN=>?_);refine Ve (wpAny_setField O6 rfl (by simp) ?_);show wpAny _ _ (newExc (.type "StopIteration") [] >>= _) _ _ _
 refine Ve ?_;simp only[newExc,newTuple];refine Ve (Z4 ?_ (by size_fits));refine Ve (m:=firstArgMember _ _) (Va (a:=Value.none) (by first|rfl|(simp only[firstArgMember];rfl)) ?_);refine Z4 ?_ (by size_fits);simp only[raiseNew];refine Ve (wpAny_handled ?_)
 first|rw[show A.in1.handled=none from hh]|rw[hh]
 refine Ve (Vg (wpAny_throw ?_));refine Ve (Uu (T:="StopIteration") (b:=true) ⟨_,Yt _ rfl,rfl⟩ J8 ?_);exact Vg (hQ _ ((((aN.trans (Yx ..))).extBut.push _).push _))
theorem qeK(p6:s.heap.get? I=some (itO first i S n ep))(h:Q (.ref I) s):wpAny (model prog w) A (pyIter (.ref I)) Q E s:=by
 have hT:s.TypeIs (.ref I) "set_iterator":=⟨_,p6,rfl⟩;refine wpAny_pyIter_slot hT F.slot_set_iterator_iter (Uv F.slot_set_iterator_iter hT F.entry_set_iterator_iter ?_ (F.args_set_iterator_iter_1 _));show wpAny _ _ (ret (.ref I)) _ _ s
 exact Vg ⟨_,rfl,"set_iterator",_,hT,F.slot_set_iterator_next.lookup,h⟩
theorem qaI:∀{xs:List α}{l:List β},Paired F xs l->∀(k:Nat)(b:β),l[k]?=some b->∃ a,xs[k]?=some a/\F a b
 |_,_,.nil,k,b,h=>by simp at h
 |_,_,.cons r t,0,b,h=>by simp at h;subst h;exact⟨_,rfl,r⟩
 |_,_,.cons r t,k+1,b,h=>by
  obtain⟨a,h1,h2⟩:=qaI t k b (by simpa using h);exact⟨a,by simpa using h1,h2⟩
theorem ju:∀{xs:List α}{l:List β},Paired F xs l->∀(k:Nat)(a:α),xs[k]?=some a->∃ b,l[k]?=some b/\F a b
 |_,_,.nil,k,b,h=>by simp at h
 |_,_,.cons r t,0,b,h=>by simp at h;subst h;exact⟨_,rfl,r⟩
 |_,_,.cons r t,k+1,b,h=>by
  obtain⟨a,h1,h2⟩:=ju t k b (by simpa using h);exact⟨a,by simpa using h1,h2⟩
abbrev qc7(zs:List Str)(i:Nat)(v:Value):Prop:=∃ t,v=.str (zs.getD i default) t
theorem qea{α:Type}[Inhabited α]{l:List α}{i:Nat}{x:α}(h:l[i]?=some x):l.getD i default=x:=by rw[Xj,h];rfl
theorem qc8{ys:List Str}{p:List Nat}(hp:p.Perm (List.range ys.length)):(p.map λ k=>ys.getD k default).Perm ys:=by
 refine(hp.map _).trans ?_
 have:∀(l:List Str),(List.range l.length).map (λ k=>l.getD k default)=l:=by
  intro l;refine List.ext_getElem (by simp) λ i h1 h2=>?_
  simp at h1;simp[h1]
 rw[this]
theorem Walks.setDrawn(hh:A.handled=none)(hIT:T≠I)(uH:S≠I){p:List Nat}(hp:p.Perm (List.range ys.length))(hd:o.data=.set es ep t)(hf:t.fits es.size=true)(V7:Paired (qbP prog w) ys es.toList):
  Walks prog w A I [I,T,S] [I] ys.length (qc7 (p.map λ k=>ys.getD k default)) (λ i h=>h.get? I=some (itO (.ref T) i S ys.length ep)/\h.IsTuple T ((p.map λ k=>(.int (k:Nat) 0:Value)).toArray)/\h.get? S=some o) where
 sub:=λ b hb=>by simp at hb;simp[hb]
 frame:=λ i h h' st k=>⟨k I (by simp) _ st.1,let ⟨o,ho,r⟩:=st.2.1;⟨o,k T (by simp) _ ho,r⟩,k S (by simp) _ st.2.2⟩
 item:=λ i s Q E hi st hQ=>by
  have hn:es.size=ys.length:=by rw[<- Ys,<- V7.length]
  have hip:i<p.length:=by rw[hp.length_eq,Zw];exact hi
  have hk:p[i]<ys.length:=Jp.mp (hp.mem_iff.mp (Uk hip));obtain⟨e,he,h1,t',h2⟩:=ju V7 p[i] ys[p[i]] (Xv hk);have tW:es[p[i]]?=some (e.1,e.2):=by rw[<- XS];exact he
  refine qjV (k:=p[i]) (x:=e.2) (hx:=e.1) st.1 st.2.1 st.2.2 hd hf hn ?_ tW λ h' K9 G2=>?_
  ·simp[hip]
  ·refine hQ _ h' s.toks ⟨t',?_⟩ ⟨K9,?_,?_⟩ λ b o hb e=>G2.extBut b o (λ h=>hb (by simp[h])) e
   ·rw[h2];congr 1
    rw[Xj,Zn,Xv hip];show _=ys.getD p[i] default
    rw[Xj,Xv hk];rfl
   ·obtain⟨o,ho,r⟩:=st.2.1;exact⟨o,(G2.2 T hIT).trans ho,r⟩
   ·exact(G2.2 S uH).trans st.2.2
 done:=λ s Q E st hQ=>by
  have hn:es.size=ys.length:=by rw[<- Ys,<- V7.length]
  refine qjW hh st.1 st.2.1 st.2.2 hd hf hn ?_ λ h' iO=>hQ h' s.toks λ b o hb e=>iO b o (λ h=>hb (by simp[h])) e
  have:p.length=ys.length:=by rw[hp.length_eq,Zw]
  simp[this]
 self:=λ i s Q E st hQ=>qeK st.1 hQ
theorem Walks.setText(hb:byT w)(hh:A.handled=none)(uH:S≠I) {ys:List Str}(hd:o.data=.set es ep t)(hf:t.fits es.size=true)(hn:es.size=ys.length)(he:u0=pickOrder (w.params.setOrder S ep) es)(V7:Paired (qbP prog w) zs u0.toList)(hz:zs.length=ys.length):
  Walks prog w A I [I,S] [I] ys.length (qc7 zs) (λ i h=>h.get? I=some (itO (.int (0:Nat) 0) i S ys.length ep)/\h.get? S=some o) where
 sub:=λ b hb=>by simp at hb;simp[hb]
 frame:=λ i h h' st k=>⟨k I (by simp) _ st.1,k S (by simp) _ st.2⟩
 item:=λ i s Q E hi st hQ=>by
  obtain⟨e,tW,h1,t',h2⟩:=ju V7 i (zs[i]'(by omega)) (Xv (by omega));refine qfJ (nx:=0) (x:=e.2) st.1 st.2 hd hf hn ?_ λ h' K9 G2=>?_
  ·intro Q E h;unfold setNext;refine Ve (Z8 st.2 hd hf ?_);dsimp only;unfold setsByText;refine Ve (Ve (Ut (Vg ?_)));dsimp only;refine Jn (λ _=>?_) (λ fV=>absurd hb fV);simp only[Z9,Ze,Vn];unfold setWalk;refine Ve (Ve (Z8 st.2 hd hf ?_));dsimp only;unfold setsByText;refine Ve (Ve (Ut (Vg ?_)));dsimp only;refine Jn (λ _=>?_) (λ fV=>absurd hb fV);refine Ve (Ut (Vg (Vg ?_)));have e1:(pickOrder (w.params.setOrder S ep) es)[i]?=some e:=by rw[<- he,<- XS];exact tW
   show Q (((pickOrder (w.params.setOrder S ep) es)[i]?).map λ e=>(e.2,0)) s
   rw[e1];exact h
  ·refine hQ _ h' s.toks ⟨t',?_⟩ ⟨K9,(G2.2 S uH).trans st.2⟩ λ b o hb e=>G2.extBut b o (λ h=>hb (by simp[h])) e
   rw[h2,qea (Xv (by omega))]
 done:=λ s Q E st hQ=>by
  refine qfK hh st.1 st.2 hd hf hn ?_ λ h' iO=>hQ h' s.toks λ b o hb e=>iO b o (λ h=>hb (by simp[h])) e
  intro Q E h;unfold setNext;refine Ve (Z8 st.2 hd hf ?_);dsimp only;unfold setsByText;refine Ve (Ve (Ut (Vg ?_)));dsimp only;refine Jn (λ _=>?_) (λ fV=>absurd hb fV);simp only[Z9,Ze,Vn];unfold setWalk;refine Ve (Ve (Z8 st.2 hd hf ?_));dsimp only;unfold setsByText;refine Ve (Ve (Ut (Vg ?_)));dsimp only;refine Jn (λ _=>?_) (λ fV=>absurd hb fV);refine Ve (Ut (Vg (Vg ?_)));have e1:(pickOrder (w.params.setOrder S ep) es)[ys.length]?=none:=by
   rw[<- he,<- XS,XW];rw[<- V7.length];omega
  show Q (((pickOrder (w.params.setOrder S ep) es)[ys.length]?).map λ e=>(e.2,0)) s
  rw[e1];exact h
 self:=λ i s Q E st hQ=>qeK st.1 hQ
theorem Walks.setOne(hb:¬ byT w)(hh:A.handled=none)(uH:S≠I)(hd:o.data=.set es ep t)(hf:t.fits es.size=true)(hl:t.led=true)(V7:Paired (qbP prog w) ys es.toList)(h1:ys.length<=1):
  Walks prog w A I [I,S] [I] ys.length (qc7 ys) (λ i h=>h.get? I=some (itO (.int (if i=0 then 0 else t.place.getD 0 0+1:Nat) 0) i S ys.length ep)/\h.get? S=some o) where
 sub:=λ b hb=>by simp at hb;simp[hb]
 frame:=λ i h h' st k=>⟨k I (by simp) _ st.1,k S (by simp) _ st.2⟩
 item:=λ i s Q E hi st hQ=>by
  have hi0:i=0:=by omega
  subst hi0;have hn:es.size=ys.length:=by rw[<- Ys,<- V7.length]
  obtain⟨e,tW,q1,t',q2⟩:=ju V7 0 (ys[0]'hi) (Xv hi);have iI:t.place.size=1:=by
   simp only[SetTable.fits,Ug,Vh] at hf;omega
  have w6:t.place[0]?=some (t.place.getD 0 0):=by
   rw[Xf,Xn (by omega)];rfl
  refine qfJ (nx:=t.place.getD 0 0+1) (x:=e.2) st.1 st.2 hd hf hn ?_ λ h' K9 G2=>?_
  ·intro Q E h;unfold setNext;refine Ve (Z8 st.2 hd hf ?_);dsimp only;unfold setsByText;refine Ve (Ve (Ut (Vg ?_)));dsimp only;refine Jn (λ iQ=>absurd iQ hb) (λ _=>?_);refine Jn (λ iQ=>absurd iQ ?_) (λ _=>?_)
   ·show ¬ ((!t.plain && decide (es.size > 1))=true)
    rw[show decide (es.size > 1)=false from Jh (by omega),Js];exact Za
   refine Ve ?_;show wpAny _ _ (if (!t.led && !es.isEmpty)=true then _ else _) _ _ s
   rw[hl];simp only[Qh,Jq,Ze,Vn];refine Vg ?_;have eb:SetTable.below t.place 0=0:=by
    unfold SetTable.below;rw[iI];unfold SetTable.below.go;simp
    unfold SetTable.below.go;rfl
   refine Vg ?_;simp only[Vv,eb];have ee:es[0]?=some (e.1,e.2):=by rw[<- XS];exact tW
   rw[ee,w6];exact h
  ·refine hQ _ h' s.toks ⟨t',?_⟩ ⟨?_,(G2.2 S uH).trans st.2⟩ λ b o hb e=>G2.extBut b o (λ h=>hb (by simp[h])) e
   ·rw[q2,qea (Xv hi)]
   ·rw[K9,Vz (by omega)]
 done:=λ s Q E st hQ=>by
  have hn:es.size=ys.length:=by rw[<- Ys,<- V7.length]
  refine qfK hh st.1 st.2 hd hf hn ?_ λ h' iO=>hQ h' s.toks λ b o hb e=>iO b o (λ h=>hb (by simp[h])) e
  intro Q E h;unfold setNext;refine Ve (Z8 st.2 hd hf ?_);dsimp only;unfold setsByText;refine Ve (Ve (Ut (Vg ?_)));dsimp only;refine Jn (λ iQ=>absurd iQ hb) (λ _=>?_);refine Jn (λ iQ=>absurd iQ ?_) (λ _=>?_)
  ·show ¬ ((!t.plain && decide (es.size > 1))=true)
   rw[show decide (es.size > 1)=false from Jh (by omega),Js];exact Za
  refine Ve ?_;show wpAny _ _ (if (!t.led && !es.isEmpty)=true then _ else _) _ _ s
  rw[hl];simp only[Qh,Jq,Ze,Vn];refine Vg (Vg ?_);have iI:t.place.size=ys.length:=by
   simp only[SetTable.fits,Ug,Vh] at hf;omega
  have key:es[SetTable.below t.place (if ys.length=0 then 0 else t.place.getD 0 0+1)]?=none:=by
   by_cases h0:ys.length=0
   ·rw[Array.getElem?_eq_none (by omega)]
   ·rw[Vz h0];have sQ:ys.length=1:=by omega
    have eb:SetTable.below t.place (t.place.getD 0 0+1)=1:=by
     unfold SetTable.below;rw[iI,sQ];unfold SetTable.below.go
     have:t.place.getD 0 (t.place.getD 0 0+1)<t.place.getD 0 0+1:=by
      have e:t.place.getD 0 (t.place.getD 0 0+1)=t.place.getD 0 0:=by
       rw[Xf,Xf,Xn (by omega)];rfl
      rw[e];exact Ud _
     simp only[Nat.zero_lt_one,Vv,Nat.reduceAdd,Nat.reduceDiv,this];unfold SetTable.below.go;rfl
    rw[eb,Array.getElem?_eq_none (by omega)]
  rw[key];exact h
 self:=λ i s Q E st hQ=>qeK st.1 hQ
theorem qjX(hS:qP prog w s.heap S ys)(h:∀(I:Addr)(h':Heap)(d:Drawn)(zs:List Str)(fp:List Addr)(St:Nat->Heap->Prop),zs.Perm ys->(∀ b o,s.heap.get? b=some o->h'.get? b=some o)->s.heap.objs.size<=I->I∈fp->(∀ b∈fp,b<h'.objs.size/\(b=S∨s.heap.objs.size<=b)) ->
   (∀ A:Around,A.handled=none->Walks prog w A I fp [I] ys.length (qc7 zs) St)->St 0 h'->Q (.ref I) { s with heap:=h',drawn:=d }):wpAny (model prog w) A (pyIter (.ref S)) Q E s:=by
 have hTy:=hS.typeIs (s:=s);obtain⟨o,es,ep,t,ho,hex,hd,V7,nd,hb,hf,hl,w6⟩:=hS;have hn:es.size=ys.length:=by rw[<- Ys,<- V7.length]
 have i7:S<s.heap.objs.size:=Qo ho;have hsz:ys.length<=sizeLine:=Qr (Y8 hb (by decide));refine wpAny_pyIter_slot hTy PySem.F.slot_set_iter (Uv PySem.F.slot_set_iter hTy F.entry_set_iter ?_ (F.args_set_iter_1 _));unfold Builtin.«frozenset.__iter__»;show wpAny _ _ (Builtin.Frozenset.sizeOf S >>= _) _ _ s
 unfold Builtin.Frozenset.sizeOf;refine Ve (Ve (Y7 ho hd hf (Vg ?_)));unfold setDrawn;refine Ve (Ve (Z8 ho hd hf ?_));dsimp only;unfold setsByText;refine Ve (Ve (Ut (Vg (Vg ?_))));show wpAny _ _ (if (!w.params.followText "set-order" && (!t.plain && decide (es.size > 1)))=true then _ else _) _ _ s
 refine Jn (λ hc=>?_) (λ hc=>?_)
 ·refine Ve (yP es.size (List.range es.size) _ _ (by simp) λ p d hp=>?_);rw[hn] at hp;have hpl':p.length=ys.length:=by rw[hp.length_eq,Zw]
  refine Ve (wpAny_newTuple (items:=p.map λ(i:Nat)=>rawInt i) ?_ (by rw[U0,hpl'];exact hsz));refine Ve (Ua (XB _ ho) hd hf ?_);rw[hn];refine Ve (Z4 (Vg ⟨_,rfl,"set_iterator",_,⟨_,Yt _ rfl,rfl⟩,F.slot_set_iterator_next.lookup,?_⟩));have nL:(s.heap.push { cls:=Value.type "tuple",data:=Data.seq (p.map λ(i:Nat)=>rawInt i).toArray }).objs.size=s.heap.objs.size+1:=Jr _ _;refine h _ _ d (p.map λ k=>ys.getD k default) [_,s.heap.objs.size,S] _ (qc8 hp) (λ b o e=>XB _ (XB _ e)) ?_ (by simp) ?_ (λ A hA=>Walks.setDrawn hA (I:=(s.heap.push { cls:=Value.type "tuple",data:=Data.seq (p.map λ(i:Nat)=>rawInt i).toArray }).objs.size) (T:=s.heap.objs.size) (by rw[nL];exact Qp (Ud _)) (by rw[nL];exact Qp (Zt i7)) hp hd hf V7) ⟨?_,?_,?_⟩
  ·show _<=(s.heap.push _).objs.size
   rw[nL];omega
  ·intro b hb;rw[Jr,nL];simp only[nL,Qb,List.not_mem_nil,or_false] at hb;rcases hb with e | e | e <;> rw[e]
   ·exact⟨Ud _,.inr (Q7 _)⟩
   ·exact⟨Zt (Ud _),.inr (Q5 _)⟩
   ·exact⟨Zt (Zt i7),.inl rfl⟩
  ·exact Yt _ rfl
  ·exact⟨_,XB _ (Yt _ rfl),rfl,_,rfl⟩
  ·exact XB _ (XB _ ho)
 ·refine Ve (Vg ?_);refine Ve (Ua ho hd hf ?_);rw[hn];refine Ve (Z4 (Vg ⟨_,rfl,"set_iterator",_,⟨_,Yt _ rfl,rfl⟩,F.slot_set_iterator_next.lookup,?_⟩));have szb:∀ b∈[s.heap.objs.size,S],b<(s.heap.push (itO (.int (0:Nat) 0) 0 S ys.length ep)).objs.size/\(b=S∨s.heap.objs.size<=b):=by
   intro b hb;rw[Jr];simp only[Qb,List.not_mem_nil,or_false] at hb;rcases hb with e|e <;> rw[e]
   ·exact⟨Ud _,.inr (Q5 _)⟩
   ·exact⟨Zt i7,.inl rfl⟩
  by_cases hbt:byT w
  ·obtain⟨zs,hz,hpz⟩:=yK V7 (qd9 (w.params.setOrder S ep) es);exact h s.heap.objs.size _ s.drawn zs [s.heap.objs.size,S] _ hz (λ b o e=>XB _ e) (Q5 _) (by simp) szb (λ A hA=>Walks.setText hbt hA (Qp i7) hd hf hn rfl hpz hz.length_eq) ⟨Yt _ rfl,XB _ ho⟩
  ·have c9:ys.length<=1:=by
    have hft:w.params.followText "set-order"=false:=Zv.mpr hbt;rw[hft] at hc;rcases w6 with e | e
    ·rw[e];simp
    ·rw[e] at hc;simp only[Bool.not_false,Bool.true_and,decide_eq_true_eq] at hc;omega
   exact h s.heap.objs.size _ s.drawn ys [s.heap.objs.size,S] _ (Ju _) (λ b o e=>XB _ e) (Q5 _) (by simp) szb (λ A hA=>Walks.setOne hbt hA (Qp i7) hd hf (hl.resolve_right hbt) V7 c9) ⟨Yt _ rfl,XB _ ho⟩
theorem qjY(hT:s.TypeIs (.ref r) "set")(h:Q false s):wpAny (model prog w) A (Builtin.List.listLengthHint (.ref r)) Q E s:=by
 unfold Builtin.List.listLengthHint;refine Ve (Jk hT PySem.F.slot_set_len.lookup ?_);generalize hid:("set.__len__":String)=id0
 wp_delta
 rw[show splitId id0=some ("set","__len__") from by subst hid;decide +kernel];subst hid;refine Ve (Uu (T:="set") (b:=true) hT (by rw[J5];kernel_rfl) ?_);refine Jn (λ E7=>absurd E7 (by decide)) (λ _=>?_);refine Jn (λ _=>?_) (λ E7=>absurd (by decide +kernel) E7);refine Ve (Q3 hT ?_);exact Vg h
theorem qeb(hh:A.handled=none)(hS:qP prog w s.heap S ys)(h:∀(h':Heap)(tk:Nat)(d:Drawn)(c7:List Value)(zs:List Str),(∀ b o,s.heap.get? b=some o->h'.get? b=some o)->s.heap.objs.size<h'.objs.size->zs.Perm ys->StrsAre c7 zs->R c7 { s with heap:=h',toks:=tk,drawn:=d }):
  wpAny (model prog w) A (collect (.ref S)) R E s:=by
 have i7:S<s.heap.objs.size:=by obtain⟨o,_,_,_,ho,_⟩:=hS;exact Qo ho
 have hsz:ys.length<=sizeLine:=by
  obtain⟨_,_,_,_,_,_,_,_,_,hb,_⟩:=hS;exact Qr (Y8 hb (by decide))
 unfold collect;refine Ve (wpAny_runValue (Jl entry_proto_collect' ?_));rw[Yi PySem.F.plain_proto_collect _];show wpAny _ A.in1 (newList [] >>= λ l=>again (.builtin "list.__iadd__" ⟨[l,.ref S],[]⟩)) _ _ s
 refine Ve (Z4 ?_);refine Vg ⟨Ql PySem.F.plain_list_iadd _,Jl entry_list_iadd' ?_⟩;rw[Yi PySem.F.plain_list_iadd _];have hL:(s.heap.push { cls:=.type "list",data:=.seq ([]:List Value).toArray }).get? s.heap.objs.size=some { cls:=.type "list",data:=.seq #[] }:=Yt _ rfl;show wpAny _ A.in1 (Builtin.List.listExtendWith (.ref s.heap.objs.size) (.ref S) (.ref s.heap.objs.size)) _ _ _
 have cG:qP prog w (s.heap.push { cls:=.type "list",data:=.seq ([]:List Value).toArray }) S ys:=by
  obtain⟨o,es,ep,t,ho,rest⟩:=hS;exact⟨o,es,ep,t,XB _ ho,rest⟩
 unfold Builtin.List.listExtendWith;refine Ve (Q3 (T:="set") (cG.typeIs (s:={ s with heap:=s.heap.push { cls:=.type "list",data:=.seq ([]:List Value).toArray } })) ?_);have h1:Builtin.List.listSameRef (.ref s.heap.objs.size) (.ref S)=false:=by simp[Builtin.List.listSameRef];exact Qs i7
 simp only[h1,show(Value.type "set" == Value.type "list")=false by decide,show(Value.type "set" == Value.type "tuple")=false by decide,Qf,Ze,Vn];refine Ve (qjX (s:={ s with heap:=s.heap.push { cls:=.type "list",data:=.seq ([]:List Value).toArray } }) cG λ I h2 d zs fp St hz dJ hI hIfp B3 W st=>?_);have nL:(s.heap.push { cls:=.type "list",data:=.seq ([]:List Value).toArray }).objs.size=s.heap.objs.size+1:=Jr _ _;have hI':s.heap.objs.size+1<=I:=by have:(s.heap.push { cls:=.type "list",data:=.seq ([]:List Value).toArray }).objs.size<=I:=hI;omega
 have oN:=dJ _ _ hL;have iS:qP prog w h2 S ys:=by
  obtain⟨o,es,ep,t,ho,rest⟩:=cG;exact⟨o,es,ep,t,dJ _ _ ho,rest⟩
 refine Ve (Qk (qjY (iS.typeIs (s:={ s with heap:=h2,drawn:=d })) ?_));have V9:∀ b o,s.heap.get? b=some o->h2.get? b=some o:=λ b o e=>dJ b o (XB _ e)
 have hnf:s.heap.objs.size∉fp:=λ hm=>by
  rcases(B3 _ hm).2 with e|e
  ·exact absurd i7 (by rw[<- e];exact Qa _)
  ·have e:(s.heap.push { cls:=.type "list",data:=.seq ([]:List Value).toArray }).objs.size<=s.heap.objs.size:=e;rw[nL] at e;exact absurd e (Nat.not_succ_le_self _)
 have key:∀(h:Heap)(c₁:Nat),St 0 h->(∀ b o,b≠s.heap.objs.size->h2.get? b=some o->h.get? b=some o) ->
   h.get? s.heap.objs.size=some { cls:=.type "list",data:=.seq #[] c₁ } ->
   codeAny (model prog w) A (.builtin "list.extend.loop" ⟨[.ref s.heap.objs.size,.ref I,.ref s.heap.objs.size],[]⟩) (λ r s'=>∃ h' tk R1 c',r=.ok (.ret (.ref s.heap.objs.size))/\s'={ s with heap:=h',toks:=tk,drawn:=d } /\
    (∀ b o,s.heap.get? b=some o->h'.get? b=some o)/\h'.get? s.heap.objs.size=some { cls:=.type "list",dict:=none,data:=.seq R1 c',slots:=#[] }/\ItemsOf (qc7 zs) R1 ys.length) { s with heap:=h,drawn:=d }:=by
  intro h c₁ M8 hk hS₁;refine codeAny_extend_loopS (W _ (by simpa using hh)).toS hsz s.heap.objs.size hnf _ ys.length 0 _ #[] c₁ rfl (Q6 _) M8 hS₁ (ItemsOf.nil _) λ s' R1 c' hm gH iR=>?_
  rw[Moved.eq_with hm];refine⟨s'.heap,s'.toks,R1,c',rfl,rfl,λ b o e=>hm.heap b o (λ hmem=>?_) (hk b o (Qp (Qo e)) (V9 b o e)),gH,iR⟩;have i7:=Qo e;rcases Qb.mp hmem with e'|hmem
  ·rw[e'] at i7;exact Qa _ i7
  ·rw[Zg.mp hmem] at i7;exact absurd (Y8 i7 (Nat.le_of_succ_le hI')) (Qa _)
 have fin:∀ r s',(∃ h' tk R1 c',r=(.ok (.ret (.ref s.heap.objs.size)):Result)/\s'={ s with heap:=h',toks:=tk,drawn:=d } /\
    (∀ b o,s.heap.get? b=some o->h'.get? b=some o)/\h'.get? s.heap.objs.size=some { cls:=.type "list",dict:=none,data:=.seq R1 c',slots:=#[] }/\ItemsOf (qc7 zs) R1 ys.length) ->
   match r with | .ok (.ret v)=>wpAny (model prog w) A (do
    let .ref a:=v | unsupported "internal:collect"
    let o <- load a
    match o.data with
    |.seq xs _=>pure xs.toList
    | _=>unsupported "internal:collect") R E s' | _=>True:=by
  rintro r s' ⟨h',tk,R1,c',rfl,rfl,hk,gH,iR⟩;show wpAny _ A (load s.heap.objs.size >>= _) _ _ _
  refine Ve (wpAny_load gH (Vg (h h' tk d R1.toList zs hk (Qo gH) hz ?_)));have sP:zs.length=ys.length:=hz.length_eq
  have:∀(as:List Value)(zs:List Str),as.length=zs.length->(∀(j:Nat) v,as[j]?=some v->qc7 zs j v)->StrsAre as zs:=by
   intro as;induction as with
   |nil=>intro zs hl _;cases zs with
    |nil=>exact .nil
    |cons _ _=>simp at hl
   |cons a as ih =>
    intro zs hl hh;cases zs with
    |nil=>simp at hl
    |cons z zs =>
     obtain⟨t,e⟩:=hh 0 a rfl;have e:a=.str z t:=e;subst e;exact .cons _ _ (ih zs (by simpa using hl) λ j v e=>by
      obtain⟨t,e2⟩:=hh (j+1) v (by simpa using e);exact⟨t,by simpa using e2⟩)
  exact this _ _ (by rw[Ys,iR.1,sP]) λ j v e=>iR.2 j v (by rw[<- XS];exact e)
 refine Jn (λ _=>?_) (λ _=>Vg ⟨Ql PySem.F.plain_extend_loop _,Q2 (key _ _ st (λ b o _ e=>e) oN) λ r s' hr=>?_⟩)
 ·refine Ve (Vk ?_);refine Ve ?_;show wpAny _ _ (updateSeq s.heap.objs.size (·.push .none) >>= λ _=>updateSeq s.heap.objs.size (·.pop)) _ _ _
  refine Ve (wpAny_updateSeq oN rfl ?_);have hS₂:=XQ (Obj.mapSeq (·.push Value.none)) oN rfl;refine wpAny_updateSeq (hz:=by seq_fits) hS₂ rfl ?_;have hS₃:=XQ (Obj.mapSeq (·.pop)) hS₂ rfl;refine Vg ⟨Ql PySem.F.plain_extend_loop _,Q2 (key _ _ ?_ (λ b o hb e=>?_) hS₃) λ r s' hr=>?_⟩
  ·refine(W A hh).frame 0 _ _ st λ b hb o e=>?_
   have hbS:b≠s.heap.objs.size:=λ h=>hnf (h ▸ hb)
   exact(XD _ _ (Vr hbS)).trans ((XD _ _ (Vr hbS)).trans e)
  ·exact(XD _ _ (Vr hb)).trans ((XD _ _ (Vr hb)).trans e)
  ·have:=fin r s' hr
   obtain⟨_,_,_,_,rfl,_⟩:=hr;exact this
 ·have:=fin r s' hr
  obtain⟨_,_,_,_,rfl,_⟩:=hr;exact this
theorem qjZ(hh:A.handled=none)(hS:qP prog w s.heap S ys)(W2:ys.length<64)(h:∀(l:Addr)(h':Heap)(tk e:Nat)(d:Drawn)(out:Array Value)(E5:List Str),(∀ b o,s.heap.get? b=some o->h'.get? b=some o)->s.heap.objs.size<=l->h'.get? l=some (seqObj "list" out e)->StrsAre out.toList E5->E5.Perm ys->sortedS E5=true ->
   Q (.ref l) { s with heap:=h',toks:=tk,drawn:=d }):wpAny (model prog w) A (call (.builtin "sorted") [.ref S]) Q E s:=by
 refine Xo kind_sorted plain_sorted entry_sorted (args_sorted1 _) ?_;unfold Builtin.«sorted»;refine Ve (m:=checkCount "sorted" 1 1 _) (Vg ?_);refine Ve (qeb (by simpa using hh) hS λ h1 tk d vs zs hk F0 hz hA=>?_);have hl:vs.length<64:=by
  have:vs.length=zs.length:=hA.length
  rw[this,hz.length_eq];exact W2
 refine Ve (Qn ?_);have iM:(h1.push (seqObj "list" vs.toArray 0)).get? h1.objs.size=some (seqObj "list" vs.toArray 0):=Yt _ rfl;refine Ve (Qk (Uv slot_list_sort ⟨_,iM,rfl⟩ entry_list_sort (list_sort_treeK strKind_oneLt iM hA.keysOf (λ v₁ v₂ rest e=>keyKind_strs (by rw[<- e];exact hA)) hl λ b0 a1 a2=>⟨_,rfl,?_⟩) (args_list_sort _)));obtain⟨E5,b1,b2,b3⟩:=sorted_out_str hA a1 a2;obtain⟨e,he⟩:=sortedHeap_at (out:=(arrOf b0).map (·.2)) iM;refine Vg ⟨_,rfl,h h1.objs.size _ tk e d _ E5 (λ b o q=>?_) (Qr F0) he b1 (b2.trans hz) b3⟩;have q1:=hk b o q;have hb:=Qo q1;rw[sortedHeap_old (Qp hb) (by rw[Jr];exact Zt hb)];exact XB _ q1
end
section
variable {X:Cx}
theorem qdL(hc:X.calm=true):yG X (.builtin "sorted") (λ xs H Q=>∃ p ys,xs=[.ref p]/\H p=some (qeI X.prog X.w p ys)/\ys.length<64/\∀ l,H l=none->Q (.ref l) (upd H l (.lst ((qbg ys).map V.str)))):=by
 intro pins s σ H xs us Q I r h;obtain⟨p,ys,rfl,hp,W2,q⟩:=h;obtain⟨u,rfl,ru⟩:=zT r;cases ru
 obtain⟨o7,E9,hS⟩:=I.set hp;refine qjZ (I.ok.hd hc) hS (by rw[E9.length_eq];exact W2) λ l h' tk e d out E5 hk F0 he h1 h2 h3=>?_
 have es:=qeG (h2.trans E9) h3;subst es;have hf:=I.hok.fresh F0;refine⟨.ref l,upd H l (.lst ((qbg ys).map V.str)),I.call' (s':={ s with heap:=h',toks:=tk,drawn:=d }) (ch:=[]) rfl (Un.laid hk F0 hf) (I.hok.laid hk F0 ⟨?_,out.toList,e,j8 h1,he⟩) I.bare (λ _ z=>nomatch z),rfl,q _ hf⟩
 have:(qbg ys).length=ys.length:=(h2.trans E9).length_eq
 rw[U0,this];exact Qr (Y8 W2 (by decide))
end
theorem qmI:∀ n,n<1024->((SetTable.sizeAbove (2*n)-1=7∨SetTable.sizeAbove (2*n)-1=15∨SetTable.sizeAbove (2*n)-1=31∨SetTable.sizeAbove (2*n)-1=63∨SetTable.sizeAbove (2*n)-1=127∨SetTable.sizeAbove (2*n)-1=255∨SetTable.sizeAbove (2*n)-1=511∨SetTable.sizeAbove (2*n)-1=1023∨SetTable.sizeAbove (2*n)-1=2047)/\n<=SetTable.sizeAbove (2*n)-1):=by decide +kernel
theorem qgV(h:n<1024):vW (SetTable.sizeAbove (2*n)-1):=by
 rcases(qmI n h).1 with e|e|e|e|e|e|e|e|e <;> rw[e]
 ·exact qmH
 ·exact qnd
 ·exact qne
 ·exact qnf
 ·exact qlH
 ·exact qlI
 ·exact qlJ
 ·exact qjT
 ·exact qjU
section
variable {prog:Program}{w:World}{A:Around}{E:Value->Shared->Prop}{s:Shared}
theorem jh{t:SetTable}:t.fits n=true ↔ (t.place.size=n/\t.place.size+t.dummies.size<=t.mask):=by
 unfold SetTable.fits;rw[Ug,Vh];exact⟨λ ⟨a,b⟩=>⟨a,Ub b⟩,λ ⟨a,b⟩=>⟨a,J4 b⟩⟩
theorem qbl(xs:Array α)(i:Nat):(SetTable.eraseAt xs i).toList=xs.toList.eraseIdx i:=by
 unfold SetTable.eraseAt;rw[Yy,Yj,Yj,List.eraseIdx_eq_take_drop_succ,Xp,Xp,Jw,Nat.sub_zero];congr 1
 exact XF (by simp)
theorem qbm(xs:Array α)(h:i<xs.size):(SetTable.eraseAt xs i).size+1=xs.size:=by
 rw[<- Ys,qbl,Xk (by simpa using h),Ys];omega
theorem qdM(xs:Array α)(p:Nat)(x:α):(SetTable.insertAt xs p x).size=xs.size+1:=by
 unfold SetTable.insertAt;simp
 omega
theorem qbn:∀{xs:List α}{l:List β}(i:Nat),Paired F xs l->Paired F (xs.eraseIdx i) (l.eraseIdx i)
 |_,_,_,.nil=>.nil
 |_,_,0,.cons _ t=>t
 |_,_,i+1,.cons r t=>.cons r (qbn i t)
theorem ji{α:Type}:∀{l:List α}{i:Nat}{x y:α},l.Nodup->l[i]?=some x->(y∈l.eraseIdx i ↔ (y∈l/\y≠x))
 | [],_,_,_,_,h=>by simp at h
 |a::l,0,x,y,nd,h=>by
  have ex:a=x:=by simpa using h
  subst ex;have G6:=U2.mp nd;show y∈l ↔ _
  constructor
  ·intro hy;exact⟨Yf _ hy,λ e=>G6.1 (e ▸ hy)⟩
  ·rintro⟨hy,M9⟩;rcases Qb.mp hy with e | e
   ·exact absurd e M9
   ·exact e
 |a::l,i+1,x,y,nd,h=>by
  have G6:=U2.mp nd;have hx:l[i]?=some x:=by simpa using h
  have ih:=ji (y:=y) G6.2 hx;rw[X3,Qb,ih,Qb];have dY:a≠x:=λ e=>G6.1 (e ▸ Yh hx)
  constructor
  ·rintro(e | ⟨h1,h2⟩)
   ·exact⟨.inl e,e ▸ dY⟩
   ·exact⟨.inr h1,h2⟩
  ·rintro⟨e | h1,h2⟩
   ·exact .inl e
   ·exact .inr ⟨h1,h2⟩
theorem qeL(hS:qP prog w s.heap a ys)(h0:x∉ys->Q false s)(h1:x∈ys->∀ h' o7,Heap.SameBut a s.heap h'->(∀ y,y∈o7 ↔ (y∈ys/\y≠x))->o7.length<=ys.length->qP prog w h' a o7->Q true { s with heap:=h' }):
  wpAny (model prog w) A (setDiscardHashed a (.str x t0) ((qu prog w).hash (.inr x))) Q E s:=by
 obtain⟨o,es,ep,t,ho,hex,hd,hp,nd,hb,hf,hl,w6⟩:=hS;have dU:=qc4 hp;have G9:(qu prog w).is (.inr x) (.str x t0)=true:=zh _ _ _ _;have xY:(Value.str x t0).scannable=true:=rfl;have c9:es.size<scanBound:=by rw[<- Ys,<- hp.length];exact hb
 unfold setDiscardHashed setFind setFindIn;refine Ve (Ve (Z8 ho hd hf ?_));dsimp only;rw[byScan_of xY c9 dU];simp only[↓reduceIte];refine Ve (Vk ?_);refine Ve (wpAny_setScan_of G9 ho hd hf dU ?_);cases hr:List.findIdx? (λ e=>(qu prog w).is (.inr x) e.2) es.toList with
 |none =>
  dsimp only;refine Vg (Vg (h0 λ hx=>?_));obtain⟨e,he,q⟩:=(qc5 hp (.inr x)).mpr ⟨x,hx,rfl⟩
  have:=List.findIdx?_eq_none_iff.mp hr e he
  rw[q] at this;exact Bool.noConfusion this
 |some j =>
  dsimp only;refine Vg ?_;dsimp only;rw[Qw];obtain⟨hj,fU,_⟩:=List.findIdx?_eq_some_iff_getElem.mp hr;have hjs:j<es.size:=by simpa using hj
  obtain⟨y,hy,hye,t',hye2⟩:=qaI hp j es.toList[j] (Xv hj);have exy:y=x:=by
   have:=(qu prog w).inj _ _ _ fU (by rw[hye2];exact zh prog w y t')
   exact(Sum.inr.inj this).symm
  subst exy;refine Ve (Z8 ho hd hf ?_);dsimp only;have hsz:=qbm es hjs;refine Ve (Z6 ho hd ?_ (Z7 (by omega)));have V8:Paired (qbP prog w) (ys.eraseIdx j) (SetTable.eraseAt es j).toList:=by rw[qbl];exact qbn j hp
  obtain⟨iI,mS⟩:=jh.mp hf;have hpj':t.place[j]?=some (t.place[j]'(by omega)):=Xn (by omega);have eX:t.drop j={ t with place:=SetTable.eraseAt t.place j,dummies:=SetTable.insertAt t.dummies (SetTable.below t.dummies (t.place[j]'(by omega))) (t.place[j]'(by omega)) }:=by
   unfold SetTable.drop;rw[hpj']
  have hf1:(t.drop j).fits (SetTable.eraseAt es j).size=true:=by
   rw[eX];have e1:=qbm t.place (i:=j) (by omega);have e2:=qdM t.dummies (SetTable.below t.dummies (t.place[j]'(by omega))) (t.place[j]'(by omega));refine jh.mpr ⟨?_,?_⟩
   ·show(SetTable.eraseAt t.place j).size=_
    omega
   ·show(SetTable.eraseAt t.place j).size+(SetTable.insertAt t.dummies (SetTable.below t.dummies (t.place[j]'(by omega))) (t.place[j]'(by omega))).size<=t.mask
    omega
  have F0:(ys.eraseIdx j).length<=ys.length:=List.length_eraseIdx_le _ _;obtain⟨_,cG⟩:=je (P:=prog) (w:=w) ho hex hd V8 (nd.sublist (List.eraseIdx_sublist _ _)) (Nat.lt_of_le_of_lt F0 hb) hf1 (by rw[eX];exact hl) (by
   rcases w6 with e|e
   ·rw[e];exact .inl rfl
   ·exact .inr (by rw[eX];exact e))
  refine Ve (wpAny_point ?_);exact Vg (h1 (Yh hy) _ _ (Yx _ _ _) (λ z=>ji nd hy) F0 cG)
theorem qec {α:Type}(f:α->β->Sem (ForInStep β))(I:List α->β->Shared->Prop)(Q:β->Shared->Prop)(turn:∀ x rest b s,I (x::rest) b s->wpAny M A (f x b) (λ r s'=>match r with|.yield b'=>I rest b' s'|.done b'=>Q b' s') E s)(fin:∀ b s,I [] b s->Q b s)(xs:Array α)(b:β)(h:I xs.toList b s):wpAny M A (forIn xs b f) Q E s:=by
 rw[<- Array.forIn_toList];exact wpAny_forIn_list f I Q turn fin _ b h
theorem qfL(hA:qP prog w s.heap a ys)(hB:qP prog w s.heap b zs)(h:Q true s):wpAny (model prog w) A (setsQuiet [a,b]) Q E s:=by
 have one:∀{c:Addr}{us:List Str},qP prog w s.heap c us->∀{R:Array (Int×Value)->Shared->Prop},(∀ es:Array (Int×Value),(∀ e∈es,∃ x t,e.2=.str x t)->R es s)->wpAny (model prog w) A (setEntries c) R E s:=by
  intro c us hC R hR;obtain⟨o,es,ep,t,ho,hex,hd,hp,nd,hb,hf,hl,w6⟩:=hC;refine Y7 ho hd hf (hR es λ e he=>?_);have iO:e∈es.toList:=by simpa using he
  obtain⟨k,hk⟩:=XX.mp iO;obtain⟨y,_,_,t',e2⟩:=qaI hp k e hk;exact⟨y,t',e2⟩
 unfold setsQuiet;refine Ve (wpAny_forIn_list _ (λ rest r s'=>s'=s/\r=⟨none,()⟩/\∀ c∈rest,c=a∨c=b) _ ?turn ?fin _ _ ⟨rfl,rfl,by simp⟩)
 case turn =>
  rintro c rest r s' ⟨rfl,rfl,hc⟩;have hC:∃ us,qP prog w s'.heap c us:=by
   rcases hc c Y9 with e|e
   ·exact⟨_,e ▸ hA⟩
   ·exact⟨_,e ▸ hB⟩
  obtain⟨us,hC⟩:=hC;refine Ve (one hC λ es hes=>?_);refine Ve (qec _ (λ rest r V2=>V2=s'/\r=⟨none,()⟩/\∀ e∈rest,∃ x t,e.2=.str x t) _ ?turn2 ?fin2 _ _ ⟨rfl,rfl,λ e he=>hes e (by simpa using he)⟩)
  case turn2 =>
   rintro e aA2 r V2 ⟨rfl,rfl,he⟩;obtain⟨x,t,ex⟩:=he e Y9;obtain⟨e1,e2⟩:=e;have ex:e2=.str x t:=ex;subst ex;exact Vg ⟨rfl,rfl,λ e h=>he e (Yf _ h)⟩
  case fin2 =>
   rintro r V2 ⟨rfl,rfl,_⟩;exact Vg ⟨rfl,rfl,λ c h=>hc c (Yf _ h)⟩
 case fin =>
  rintro r s' ⟨rfl,rfl,_⟩;exact Vg h
theorem qci(M9:f≠a)(hA:qP prog w s.heap a ys)(hF:qP prog w s.heap f zs)(h:∀ u0 o7 h' d,o7.Perm ys->Paired (qbP prog w) o7 u0.toList->Heap.SameBut f s.heap h'->qP prog w h' f zs->Q u0 { s with heap:=h',drawn:=d }):wpAny (model prog w) A (setWalkUnseen a [f] (some f)) Q E s:=by
 obtain⟨o,es,ep,t,ho,hex,hd,hp,nd,hb,hf,hl,w6⟩:=id hA;have c9:es.size=ys.length:=by rw[<- Ys,<- hp.length]
 have same:Heap.SameBut f s.heap s.heap:=⟨rfl,λ _ _=>rfl⟩;have walk:wpAny (model prog w) A (setWalk a) Q E s:=qiR ho hd hf hl λ u0 d pU=>by
  obtain⟨o7,h1,h2⟩:=yK hp pU;exact h u0 o7 s.heap d h1 h2 same hF
 unfold setWalkUnseen;refine Ve (Z8 ho hd hf ?_);dsimp only;unfold setsByText;refine Ve (Ve (Ut (Vg ?_)));dsimp only;refine Jn (λ _=>?_) (λ hc=>?_)
 ·exact walk
 ·refine Ve (qfL hA hF ?_);simp only[Qh,Ze,Vn];refine Ve (Vk ?_);obtain⟨o2,es2,ep2,t2,S6,hex2,dW,aP,pR,W0,hf2,S8,tJ⟩:=id hF;have O0:es2.size<scanBound:=by rw[<- Ys,<- aP.length];exact W0
  refine Ve (Z8 S6 dW hf2 ?_);dsimp only;have fV:¬ byT w:=λ hb=>hc (by
   have:w.params.followText "set-order"=true:=hb
   show(w.params.followText "set-order" || _ || _)=true
   rw[this];rfl)
  have bM:t.led=true:=hl.resolve_right fV;have tR:t2.led=true:=S8.resolve_right fV;refine Jn (λ _=>?_) (λ _=>?_)
  ·refine Ve (Z6 S6 dW ?_ (Z7 O0));obtain⟨_,iS⟩:=je (P:=prog) (w:=w) (t':={ t2 with led:=t2.led && t.led,plain:=t2.plain && t.plain }) S6 hex2 dW aP pR W0 (jh.mpr (jh.mp hf2)) (.inl (by show(t2.led && t.led)=true;rw[bM,tR];rfl)) (by
    rcases tJ with e|e
    ·exact .inl e
    ·exact .inr (by show(t2.plain && t.plain)=false;rw[e];rfl))
   exact Vg (h es ys _ s.drawn (Ju _) hp (Yx _ _ _) iS)
  ·exact Vg (h es ys s.heap s.drawn (Ju _) hp same hF)
theorem qcj(M9:r≠l)(hL:qP prog w s.heap l ys)(hR:qP prog w s.heap r zs)(hb:ys.length+zs.length+1<scanBound)(h:∀ us h' d,(∀ x,x∈us ↔ ((x∈zs/\x∉ys)∨(x∈ys/\x∉zs)))->Heap.SameBut r s.heap h'->qP prog w h' r us->Q () { s with heap:=h',drawn:=d }):
  wpAny (model prog w) A (Builtin.Frozenset.symmetricDifferenceUpdate nm r (.ref l)) Q E s:=by
 have oK:=hL.typeIs (s:=s);obtain⟨o,es,ep,t,ho,hex,hd,hp,nd,hbl,hf,hl,w6⟩:=id hL;unfold Builtin.Frozenset.symmetricDifferenceUpdate;have e1:(Value.ref l == Value.ref r)=false:=by
  have:¬ (Value.ref l=Value.ref r):=λ e=>M9 (by injection e with e;exact e.symm)
  simpa using this
 rw[e1];simp only[Ze,Vn];refine Ve (Q3 oK ?_);rw[show(Value.type "set" == Value.type "dict")=false by decide];simp only[Ze,Vn];refine Ve (qae oK ?_);simp only[Vv];refine Ve (Vg ?_);show wpAny _ _ (setEpoch l >>= _) _ _ s
 refine Ve (Ua ho hd hf ?_);refine Qk ?_;refine Ve (qci M9 hL hR λ u0 o7 h1 d hpy pU aN uF=>?_);have G6:o7.Nodup:=hpy.nodup_iff.mpr nd;refine Ve (qec _ (λ rest u s'=>∃ qs ps us h',o7=qs++ps/\Paired (qbP prog w) ps rest/\s'={ s with heap:=h',drawn:=d }/\Heap.SameBut r s.heap h'/\qP prog w h' r us /\
   (∀ x,x∈us ↔ ((x∈zs/\x∉qs)∨(x∈qs/\x∉zs)))/\us.length<=zs.length+qs.length) _ ?turn ?fin _ _ ⟨[],o7,zs,h1,rfl,pU,rfl,aN,uF,by simp,by simp⟩)
 case turn =>
  rintro⟨eh,ex⟩ rest u s' ⟨qs,ps,us,h',e,cA,rfl,G2,hU,hm,hul⟩;cases cA with
  | @cons p _ ps _ hpe1 cA =>
   obtain⟨q1,t',q2⟩:=hpe1;have q1:eh=(qu prog w).hash (.inr p):=q1;have q2:ex=.str p t':=q2;subst q1 q2;have iK:p∉qs:=λ hq=>by
    rw[e] at G6;exact(Zq.mp G6).2.2 p hq p Y9 rfl
   have c9:qs.length+ps.length+1=ys.length:=by
    have:=hpy.length_eq
    rw[e,Zb,Uc] at this;omega
   have go:∀(h2:Heap)(gK:List Str),Heap.SameBut r h' h2->qP prog w h2 r gK->(∀ x,x∈gK ↔ ((x∈zs/\x∉qs++[p])∨(x∈qs++[p]/\x∉zs)))->gK.length<=zs.length+(qs++[p]).length ->
     wpAny (model prog w) A (Builtin.Frozenset.unchanged nm l ep) (λ _ s'=>wpAny (model prog w) A (pure (ForInStep.yield PUnit.unit)) (λ r_1 rQ=>match r_1 with
      |.yield b'=>∃ qs ps us h',o7=qs++ps/\Paired (qbP prog w) ps rest/\rQ={ s with heap:=h',drawn:=d }/\Heap.SameBut r s.heap h'/\qP prog w h' r us/\(∀ x,x∈us ↔ ((x∈zs/\x∉qs)∨(x∈qs/\x∉zs)))/\us.length<=zs.length+qs.length
      |.done b'=>wpAny (model prog w) A (pure ()) Q E rQ) E s') E { s with heap:=h2,drawn:=d }:=by
    intro h2 gK o6 uE pV S8;unfold Builtin.Frozenset.unchanged;have S6:h2.get? l=some o:=(o6.2 l (Vr M9)).trans ((G2.2 l (Vr M9)).trans ho);refine Ve (Ua S6 hd hf ?_);simp only[Z9,Ze,Vn];refine Vg (Vg ⟨qs++[p],ps,gK,h2,by rw[e,Zx];rfl,cA,rfl,G2.trans o6,uE,pV,S8⟩)
   refine Ve (Qk (Ve (qeL (s:={ s with heap:=h',drawn:=d }) hU (λ iH=>?_) (λ iH h2 gK o6 pV hle2 uE=>?_))))
   ·simp only[Bool.not_false,Vv];refine Ve (qfF (s:={ s with heap:=h',drawn:=d }) hU (by omega) (λ hx=>absurd hx iH) (λ _ h2 gK o6 aP uE=>?_));refine Vg (Ve (go h2 gK o6 uE (λ x=>?_) ?_))
    ·rw[aP.mem_iff,Uy,Zg,hm x,Uy,Zg];have hz:p∉zs:=λ hz=>iH ((hm p).mpr (.inl ⟨hz,iK⟩))
     by_cases hxp:x=p
     ·subst hxp;simp[hz]
     ·simp[hxp]
    ·rw[aP.length_eq,Zb,Zb];simp;omega
   ·simp only[Qh,Ze,Vn];refine Vg (Ve (go h2 gK o6 uE (λ x=>?_) ?_))
    ·rw[pV x,hm x,Uy,Zg];have hz:p∈zs:=by
      rcases(hm p).mp iH with⟨h1,_⟩|⟨h1,_⟩
      ·exact h1
      ·exact absurd h1 iK
     by_cases hxp:x=p
     ·subst hxp;simp[hz]
     ·simp[hxp]
    ·rw[Zb];simp;omega
 case fin =>
  rintro u s' ⟨qs,ps,us,h',e,cA,rfl,G2,hU,hm,hul⟩;cases cA
  rw[U1] at e;refine Vg (h us h' d (λ x=>?_) G2 hU);rw[hm x,<- e,hpy.mem_iff]
theorem qlN(M9:r≠o)(hr:s.heap.get? r=some (qJ w))(hO:qP prog w s.heap o ys)(hn:ys.length<1024)(h:∀ us h',us.Perm ys->Heap.SameBut r s.heap h'->qP prog w h' r us->Q () { s with heap:=h' }):wpAny (model prog w) A (setMerge r o wI) Q E s:=by
 obtain⟨ob,es,ep,t,ho,hex,hd,hp,nd,hb,hf,hl,w6⟩:=id hO;have c9:es.size=ys.length:=by rw[<- Ys,<- hp.length]
 have bM:((!(w.params.followText "set-order")) && t.led)=true∨byT w:=by
  by_cases hb:byT w
  ·exact .inr hb
  ·refine .inl ?_;have e1:w.params.followText "set-order"=false:=Zv.mpr hb;rw[e1,hl.resolve_right hb];rfl
 unfold setMerge;have e1:(r == o)=false:=by simpa using M9
 rw[e1];simp only[Ze,Vn];refine Ve (Z8 ho hd hf ?_);dsimp only;by_cases h0:es.isEmpty=true
 ·rw[h0];simp only[Vv];have e0:ys=[]:=by
   have:es.size=0:=by simpa using h0
   exact Xd (by omega)
  have:=h [] s.heap (by rw[e0]) ⟨rfl,λ _ _=>rfl⟩ (jt hr)
  cases s
  exact Vg this
 ·have uK:es.isEmpty=false:=Zv.mpr h0;have hpos:0<es.size:=by
   rcases Nat.eq_zero_or_pos es.size with e|e
   ·exact absurd (by simpa using e) h0
   ·exact e
  have O5:t.plain=false:=by
   rcases w6 with e|e
   ·have:ys.length=0:=by rw[e];rfl
    omega
   ·exact e
  rw[uK];simp only[Ze,Vn];have O0:es.size<scanBound:=by rw[c9];exact hb
  have lV:∀(s1:Shared)(T:SetTable)(ep1:Nat),s1.heap.get? r=some { cls:=.type "set",dict:=none,data:=.set #[] ep1 T }->Heap.SameBut r s.heap s1.heap->s1={ s with heap:=s1.heap }->T.place=#[]->T.dummies=#[]->T.led=(!(w.params.followText "set-order"))->vW T.mask->es.size<=T.mask ->
    wpAny (model prog w) A (do
     let (_,_,ts) <- setState r
     match ts.road t with
     |.slotForSlot=>storeSet r es { t with finger:=ts.finger,led:=ts.led && t.led,moves:=ts.moves,plain:=ts.plain && t.plain }
     |.clean =>
      let (es,t) <- (do
        let some (t,t5):=(SetTable.laid ts.mask ts.finger ts.moves (led:=ts.led && t.led) (plain:=ts.plain && t.plain) (es.map (·.1))) | unsupported "internal:set-table-without-room"
        let u0:=t5.filterMap (es[·]?)
        if u0.size != es.size then unsupported "internal:set-table-lost-an-element"
        pure (u0,t))
      storeSet r es t
     |.oneByOne =>
      for (h,x) in <- setWalkUnseen o [r] (some r) do
       let _ <- holding [x] (setAddHashed r x h)
       wI
       if (<- setState o).2.1 != ep then unsupported "set.changed-during-merge") Q E s1:=by
   intro s1 T ep1 G4 aN L5 nZ tY hld hg F0;have hf1:T.fits (#[]:Array (Int×Value)).size=true:=jh.mpr ⟨by rw[nZ];rfl,by rw[nZ,tY];simp⟩;refine Ve (Z8 G4 rfl hf1 ?_);dsimp only;have mS:T.fill=0:=by unfold SetTable.fill;rw[nZ,tY];rfl
   unfold SetTable.road;rw[mS];simp only[Z9,Ze,Vn];by_cases hc:(T.mask == t.mask && t.dummies.isEmpty)=true
   ·rw[Vy hc];dsimp only;refine Z6 G4 rfl ?_ (Z7 O0);obtain⟨_,hS⟩:=je (P:=prog) (w:=w) (t':={ t with finger:=T.finger,led:=T.led && t.led,moves:=T.moves,plain:=T.plain && t.plain }) G4 ⟨rfl,rfl,rfl⟩ rfl hp nd hb (jh.mpr (jh.mp hf)) (by rw[hld];exact bM) (.inr (by show(T.plain && t.plain)=false;rw[O5,Js]));rw[L5];exact h ys _ (Ju _) (aN.trans (Yx _ _ _)) hS
   ·rw[Vz hc];dsimp only;obtain⟨t',t5,el,q1,q2,q3,q4,q5,q6,q7⟩:=qh3 hg T.finger T.moves (T.led && t.led) (T.plain && t.plain) (es.map (·.1)) (by simpa using F0);rw[el];dsimp only;have pU:(t5.filterMap (es[·]?)).toList.Perm es.toList:=by
     rw[Array.toList_filterMap];exact qgU es (by simpa using q7)
    have hsz:(t5.filterMap (es[·]?)).size=es.size:=by rw[<- Ys,pU.length_eq,Ys]
    rw[hsz];simp only[Z9,Ze,Vn];refine Ve (Vg ?_);dsimp only;obtain⟨us,hu,iH⟩:=yK hp pU;refine Z6 G4 rfl ?_ (Z7 (by rw[hsz];exact O0));obtain⟨_,hS⟩:=je (P:=prog) (w:=w) (t':=t') G4 ⟨rfl,rfl,rfl⟩ rfl iH (hu.nodup_iff.mpr nd) (by rw[hu.length_eq];exact hb) (by rw[hsz];simpa using q1) (by rw[q2,hld];exact bM) (.inr (by rw[q3,O5,Js]));rw[L5];exact h us _ hu (aN.trans (Yx _ _ _)) hS
  have T7:(SetTable.fresh 0 0 (!(w.params.followText "set-order"))).fits (#[]:Array (Int×Value)).size=true:=rfl;unfold setRoomFor;refine Ve (Ve (Z8 hr rfl T7 ?_));have hrf:(SetTable.fresh 0 0 (!(w.params.followText "set-order"))).roomFor es.size=if es.size*5 ≥ 21 then some (es.size*2) else none:=by
   unfold SetTable.roomFor SetTable.fill SetTable.fresh;simp
  dsimp only;rw[hrf];by_cases h5:es.size*5 ≥ 21
  ·rw[Vy h5];dsimp only;unfold setRelay;refine Ve (Z8 hr rfl T7 ?_);dsimp only;have dI:es.size<1024:=by omega
   have hgm:=qgV dI;have hmm:=qmI es.size dI;rw[Qx es.size 2];have xX:¬ SetTable.sizeAbove (2*es.size) > sizeLine:=by
    have h256:SetTable.sizeAbove (2*es.size)<=2048:=by
     rcases hmm.1 with e|e|e|e|e|e|e|e|e <;> omega
    have:(2048:Nat)<=sizeLine:=by decide
    omega
   rw[Vz xX];obtain⟨t',t5,el,q1,q2,q3,q4,q5,q6,q7⟩:=qh3 hgm (SetTable.fresh 0 0 (!(w.params.followText "set-order"))).finger ((SetTable.fresh 0 0 (!(w.params.followText "set-order"))).movedTo (SetTable.sizeAbove (2*es.size)-1)) (SetTable.fresh 0 0 (!(w.params.followText "set-order"))).led (SetTable.fresh 0 0 (!(w.params.followText "set-order"))).plain ((#[]:Array (Int×Value)).map (·.1)) (by simp);have er:(SetTable.fresh 0 0 (!(w.params.followText "set-order"))).relaid ((#[]:Array (Int×Value)).map (·.1)) (2*es.size)=some (t',t5):=el;rw[er];have eo:t5=#[]:=by
    have:=q7.length_eq
    simp at this;exact this
   subst eo;refine Ve (m:=(do
        if ((#[]:Array Nat).filterMap ((#[]:Array (Int×Value))[·]?)).size != (#[]:Array (Int×Value)).size then unsupported "internal:set-table-lost-an-element"
        pure (((#[]:Array Nat).filterMap ((#[]:Array (Int×Value))[·]?)),t'):Sem (Array (Int×Value)×SetTable))) ?_
   rw[show((#[]:Array Nat).filterMap ((#[]:Array (Int×Value))[·]?))=#[] from rfl];simp only[Z9,Ze,Vn];refine Vg ?_;dsimp only;refine Z6 hr rfl ?_ (by decide);have hg2:(s.heap.update r (Obj.putSet #[] t')).get? r=some { cls:=.type "set",dict:=none,data:=.set #[] (0+1) t' }:=by
    have:=XQ (Obj.putSet (#[]:Array (Int×Value)) t') hr (by rw[putSet_of #[] t' rfl];rfl)
    rw[putSet_of #[] t' rfl] at this;exact this
   refine lV { s with heap:=s.heap.update r (Obj.putSet #[] t') } t' 1 hg2 (Yx _ _ _) rfl ?_ q5 q2 (by rw[q4];exact hgm) (by rw[q4];exact hmm.2);exact Array.eq_empty_of_size_eq_zero (by simpa using q6)
  ·rw[Vz h5];dsimp only;refine Vg ?_;exact lV s _ 0 hr ⟨rfl,λ _ _=>rfl⟩ rfl rfl rfl rfl qmH (by show es.size<=7;omega)
theorem qj0(h:Q (.ref s.heap.objs.size) { s with heap:=s.heap.push (qJ w) }):wpAny (model prog w) A (newSet (.type "set")) Q E s:=by
 unfold newSet setsByText;refine Ve (Ve (Ut (Vg ?_)));dsimp only;simp only[newObj];exact Ve (wpAny_alloc (Vg h))
theorem qoi(hL:qP prog w s.heap l ys)(hR:qP prog w s.heap r zs)(hn:zs.length<1024)(hm:ys.length<1024)(h:∀ us h' d,us.Nodup->(∀ x,x∈us ↔ ((x∈zs/\x∉ys)∨(x∈ys/\x∉zs)))->(∀ b o,s.heap.get? b=some o->h'.get? b=some o)->qP prog w h' s.heap.objs.size us->Q (.ref s.heap.objs.size) { s with heap:=h',drawn:=d }):
  wpAny (model prog w) A (binaryOp .BitXor (.ref l) (.ref r)) Q E s:=by
 have oK:=hL.typeIs (s:=s);have hTr:=hR.typeIs (s:=s);have pX:l<s.heap.objs.size:=by obtain⟨_,_,_,_,e,_⟩:=hL;exact Qo e
 have tE:r<s.heap.objs.size:=by obtain⟨_,_,_,_,e,_⟩:=hR;exact Qo e
 refine wpAny_binaryOp_same (op:=.BitXor) oK hTr PySem.F.fills_set_xor PySem.F.slot_set_xor (Uv PySem.F.slot_set_xor oK F.entry_set_xor ?_ (PySem.F.args_set_xor_2 _ _));unfold Builtin.«frozenset.__xor__»;show wpAny _ _ ((Builtin.Frozenset.isAnySet (.ref l) <&&> Builtin.Frozenset.isAnySet (.ref r)) >>= _) _ _ s
 refine Ve (Ve (qae oK ?_));show wpAny _ _ (Builtin.Frozenset.isAnySet (.ref r)) _ _ s
 refine qae hTr ?_;simp only[Qh,Ze,Vn];refine Ve (Vg ?_);refine Ve ?_;show wpAny _ _ (Builtin.Frozenset.baseOf l >>= _) _ _ s
 unfold Builtin.Frozenset.baseOf;refine Ve ?_;refine Ve (Uu oK sub_set_self (Vg ?_));show wpAny _ _ (Builtin.Frozenset.newFrom _ (.type "set") (.ref r) >>= _) _ _ s
 refine Ve ?_;unfold Builtin.Frozenset.newFrom;refine Ve (qj0 ?_);have oE:∀ b o,s.heap.get? b=some o->(s.heap.push (qJ w)).get? b=some o:=λ b o e=>XB _ e
 have up:∀{h h':Heap}{a:Addr}{us:List Str},qP prog w h a us->(∀ o,h.get? a=some o->h'.get? a=some o)->qP prog w h' a us:=λ hS k=>by
  obtain⟨o,es,ep,t,ho,rest⟩:=hS;exact⟨o,es,ep,t,k o ho,rest⟩
 have uF:qP prog w (s.heap.push (qJ w)) r zs:=up hR λ o e=>oE r o e
 have G8:(s.heap.push (qJ w)).get? s.heap.objs.size=some (qJ w):=Yt _ rfl;refine Ve (Vg ?_);refine Ve (Qk ?_);unfold Builtin.Frozenset.updateFrom;refine Ve (qae (uF.typeIs (s:={ s with heap:=s.heap.push (qJ w) })) ?_);simp only[Vv];show wpAny _ _ (Builtin.Frozenset.merge _ s.heap.objs.size r) _ _ _
 unfold Builtin.Frozenset.merge;obtain⟨o,es,ep,t,ho,hex,hd,hp,nd,hb,hf,hl,w6⟩:=id uF;refine Ve (Ua ho hd hf ?_);refine qlN (s:={ s with heap:=s.heap.push (qJ w) }) (Vr (Qp tE)) G8 uF hn λ us h2 hu o6 hU=>?_
 have dJ:∀ b o,s.heap.get? b=some o->h2.get? b=some o:=λ b o e=>(o6.2 b (Qp (Qo e))).trans (oE b o e)
 refine Vg ?_;refine Ve (Vg ?_);refine Ve (Qk ?_);have oN:qP prog w h2 l ys:=up hL λ o e=>dJ l o e
 refine qcj (s:={ s with heap:=h2 }) (Vr (Qp pX)) oN hU ?_ λ vs h3 d tP hs3 hV=>?_
 ·have:=hu.length_eq
  have rB:(2048:Nat)<scanBound:=by decide
  omega
 ·refine Vg (Vg ⟨_,rfl,(λ e=>by cases e),?_⟩);refine h vs h3 d ?_ (λ x=>?_) (λ b o e=>(hs3.2 b (Qp (Qo e))).trans (dJ b o e)) hV
  ·obtain⟨_,_,_,_,_,_,_,_,nd,_⟩:=hV;exact nd
  ·rw[tP x,hu.mem_iff]
end
section
variable {X:Cx}
def qpl(P:Program)(w:World):R2:=λ x y H Q=>∃ a b ys zs,x=.ref a/\y=.ref b/\H a=some (qeI P w a ys)/\H b=some (qeI P w b zs)/\ys.length<1024/\zs.length<1024 /\
 ∀ l us,H l=none->us.Nodup->(∀ x,x∈us ↔ ((x∈ys/\x∉zs)∨(x∈zs/\x∉ys)))->Q (.ref l) (upd H l (qeI P w l us))
theorem qj1:OpR X (binaryOp .BitXor) (qpl X.prog X.w):=by
 intro pins s σ H x y v u Q I rx ry h;obtain⟨a,b,ys,zs,rfl,rfl,ha,hb,hn,hm,q⟩:=h;cases rx
 cases ry
 obtain⟨o7,hy,cG⟩:=I.set ha;obtain⟨zs',hz,iS⟩:=I.set hb;refine qoi cG iS (by rw[hz.length_eq];exact hm) (by rw[hy.length_eq];exact hn) λ us h' d nd hm hk hU=>?_
 have hf:=I.hok.fresh (Q5 s.heap.objs.size);refine⟨.ref s.heap.objs.size,_,I.call' (s':={ s with heap:=h',drawn:=d }) (ch:=[]) rfl (Un.laid hk (Q5 _) hf) (I.hok.laid hk (Q5 _) (qh2 (Ju us) hU)) I.bare (λ _ z=>nomatch z),rfl,q _ us hf nd λ x=>?_⟩;rw[hm x,hy.mem_iff,hz.mem_iff];exact Or.comm
end
namespace F
theorem qaJ:Slot "reversed" "__init__" "object.__init__":=
 .of (owner:="object") (n:="__init__") (by rw[Jm,Ye];kernel_rfl) (by decide +kernel) (by decide +kernel) (by decide +kernel)
  (by first|exact .inl (by decide +kernel)|exact .inr (by decide +kernel)) (by rw[J5];kernel_rfl)
theorem called_reversed:TypeCalled "reversed" "reversed.__new__" "object.__init__":=
 ⟨by decide +kernel,by decide +kernel,⟨_,_,PySem.F.mro_reversed⟩,PySem.F.made_reversed,by decide +kernel,by rw[J5];kernel_rfl,qaJ⟩
theorem no_str_reversed:typeLookup (.type "str") "__reversed__"=pure none:=by rw[Jm,Ye];kernel_rfl
theorem sub_str_dict:isSubtype (.type "str") (.type "dict")=pure false:=by rw[J5];kernel_rfl
theorem slot_reversed_next:Slot "reversed" "__next__" "reversed.__next__":=
 .of (owner:="reversed") (n:="__next__") (by rw[Jm,Ye];kernel_rfl) (by decide +kernel) (by decide +kernel) (by decide +kernel)
  (by first|exact .inl (by decide +kernel)|exact .inr (by decide +kernel)) (by rw[J5];kernel_rfl)
theorem entry_reversed_next:entryFor table "reversed.__next__"=some Builtin.«reversed.__next__»:=entryFor_of_fast (by kernel_rfl)
theorem args_reversed_next_1(a:Value):argsOk "reversed.__next__" ⟨[a],[]⟩:=by unfold argsOk;kernel_rfl
theorem slot_reversed_iter:Slot "reversed" "__iter__" "reversed.__iter__":=
 .of (owner:="reversed") (n:="__iter__") (by rw[Jm,Ye];kernel_rfl) (by decide +kernel) (by decide +kernel) (by decide +kernel)
  (by first|exact .inl (by decide +kernel)|exact .inr (by decide +kernel)) (by rw[J5];kernel_rfl)
theorem entry_reversed_iter:entryFor table "reversed.__iter__"=some Builtin.«dict_keyiterator.__iter__»:=
 J6 (id':="dict_keyiterator.__iter__") (by kernel_rfl) (by first | rfl | decide +kernel) (by decide +kernel) (by kernel_rfl)
theorem args_reversed_iter_1(a:Value):argsOk "reversed.__iter__" ⟨[a],[]⟩:=by unfold argsOk;kernel_rfl
theorem boot_reversed:bootBuiltins "reversed"=some (.type "reversed"):=by decide +kernel
end F
section
variable {prog:Program}{w:World}{A:Around}{E:Value->Shared->Prop}{s:Shared}
noncomputable abbrev qdN(z:Str)(t:Tok)(i:Int):Obj:={ cls:=.type "reversed",data:=.fields #[.str z t,.int i 0] }
theorem qck(z:Str)(t:Tok)(hz:z.length<=sizeLine):MeetsIn prog w (Builtin.«reversed.__new__» ⟨[.type "reversed",.str z t],[]⟩)
  (λ _ R s=>∀ tk,R (.ok (.ret (.ref s.heap.objs.size))) { s with heap:=s.heap.push (qdN z t ((z.length:Int)-1)),toks:=tk }):=
 .of_wp λ A R s h=>by
  have hn:=vJ;unfold Builtin.«reversed.__new__»;refine Ve (Va (newClass_reversed _) ?_)
  try dsimp only
  refine Ve (Va (a:=()) (by first|rfl|kernel_rfl) ?_);refine Ve (Va (a:=()) (by first|rfl|kernel_rfl) ?_)
  try dsimp only
  refine Ve (Jk (Vi s z t) F.no_str_reversed ?_)
  try dsimp only
  refine Ve ?_;show wpAny _ _ (isInstance (.str z t) (.type "dict") >>= _) _ _ s
  refine Ve (Uu (Vi s z t) F.sub_str_dict ?_);simp only[Ze,Vn];refine Ve (Jk (Vi s z t) slot_str_getitem.lookup ?_)
  try dsimp only
  refine Jn (λ _=>Vg ?_) (λ E7=>absurd (by decide +kernel) E7);simp only[Qh,Ze,Vn];refine Ve (len_str (by omega) ?_);refine Ve (Vg ?_);dsimp only;refine Ve (m:=newObj (.type "reversed") (.fields #[.str z t,rawInt ((z.length:Int)-1)])) (Z4 ?_);exact Vg ⟨_,rfl,h _⟩
theorem qbo(hz:z.length<=sizeLine)(h:∀ tk,Q (.ref s.heap.objs.size) { s with heap:=s.heap.push (qdN z t ((z.length:Int)-1)),toks:=tk }):
  wpAny (model prog w) A (call (.type "reversed") [.str z t]) Q E s:=
 callType_newIn F.called_reversed (by decide) (PySem.F.typeCall_reversed_1 _) (PySem.F.newCall_reversed_1 _) (λ obj=>PySem.F.args_object_init_2 obj _) PySem.F.entry_reversed_new (qck z t hz)
  λ tk=>⟨⟨_,Yt _ rfl,rfl⟩,h tk⟩
theorem qj2{i:Nat}(p6:s.heap.get? I=some (qdN z t (i:Int)))(hz:z.length<=sizeLine)(hc:z.cps[i]?=some c)(hQ:∀ h' tk u,h'.get? I=some (qdN z t ((i:Int)-1))->Heap.SameBut I s.heap h'->Q (some (.str ⟨#[c]⟩ u)) { s with heap:=h',toks:=tk }):wpAny (model prog w) A (pyNext (.ref I)) Q E s:=by
 have hT:s.TypeIs (.ref I) "reversed":=⟨_,p6,rfl⟩;have hn:=vJ;have hil:i<z.length:=(Array.getElem?_eq_some_iff.mp hc).1;unfold pyNext;refine Ve (Qm (XA (name:=Str.ofString "__next__") hT F.slot_reversed_next
  (Uv F.slot_reversed_next hT F.entry_reversed_next ?_ (F.args_reversed_next_1 _))))
 unfold Builtin.«reversed.__next__»;refine Ve (Va (a:=(Value.ref I,[])) rfl ?_)
 try dsimp only
 refine Ve (Vb p6 rfl (x:=.str z t) rfl ?_);refine Ve (Vb p6 rfl (x:=.int (i:Int) 0) rfl ?_);dsimp only;rw[Vz (by omega)];refine Ve (Jk (Vi s z t) slot_str_getitem.lookup ?_);simp only[Option.isNone_some,Ze,Vn];refine Ve (wpAny_mkInt ?_);refine Ve (Qm (getItem_str (c:=c) (by
  have e1:decide ((i:Int) < -(2^63:Int))=false:=Jh (by omega);have e2:decide ((i:Int) ≥ 2^63)=false:=Jh (by omega);rw[e1,e2,Qf]) (by
   have e:seqIndex? (i:Int) z.length=some i:=by
    have e1:(if (i:Int)<0 then(i:Int)+(z.length:Int) else(i:Int))=(i:Int):=Vz (by omega);unfold seqIndex?;dsimp only;rw[e1,Vy (by
     rw[Ug];exact⟨J4 (by omega),J4 (by omega)⟩),Zp]
   rw[e];exact hc) ?_))
 dsimp only;refine Ve (Vb p6 rfl (x:=.int (i:Int) 0) rfl ?_);dsimp only;refine Ve (Zm p6 (by simp) λ h1 O6 aN=>?_);refine Vg ⟨_,rfl,Vg (hQ h1 _ _ ?_ aN)⟩;rw[O6];rfl
theorem qj3(hh:A.handled=none)(p6:s.heap.get? I=some (qdN z t (-1)))(hQ:∀ h',Heap.ExtBut I s.heap h'->Q none { s with heap:=h' }):wpAny (model prog w) A (pyNext (.ref I)) Q E s:=by
 have hT:s.TypeIs (.ref I) "reversed":=⟨_,p6,rfl⟩;unfold pyNext;refine Ve (Qm (XA (name:=Str.ofString "__next__") hT F.slot_reversed_next
  (Uv F.slot_reversed_next hT F.entry_reversed_next ?_ (F.args_reversed_next_1 _))))
 unfold Builtin.«reversed.__next__»;refine Ve (Va (a:=(Value.ref I,[])) rfl ?_)
 try dsimp only
 refine Ve (Vb p6 rfl (x:=.str z t) rfl ?_);refine Ve (Vb p6 rfl (x:=.int (-1) 0) rfl ?_);dsimp only;rw[Vy (by decide)];refine Ve (Vk ?_);refine Ve ?_;refine Ve (m:=setField (.ref I) 1 (rawInt (-1))) (Zm p6 (by simp) λ h1 O6 aN=>?_);refine wpAny_setField O6 rfl (by simp) ?_;refine Ve ?_;show wpAny _ _ (newExc (.type "StopIteration") [] >>= _) _ _ _
 refine Ve ?_;simp only[newExc,newTuple];refine Ve (Z4 ?_ (by size_fits));refine Ve (m:=firstArgMember _ _) (Va (a:=Value.none) (by first|rfl|(simp only[firstArgMember];rfl)) ?_);refine Z4 ?_ (by size_fits);simp only[raiseNew];refine Ve (wpAny_handled ?_)
 first|rw[show A.in1.handled=none from hh]|rw[hh]
 refine Ve (Vg (wpAny_throw ?_));refine Ve (Uu (T:="StopIteration") (b:=true) ⟨_,Yt _ rfl,rfl⟩ J8 ?_);exact Vg (hQ _ ((((aN.trans (Yx ..))).extBut.push _).push _))
theorem qc9(p6:s.heap.get? I=some (qdN z t i))(h:Q (.ref I) s):wpAny (model prog w) A (pyIter (.ref I)) Q E s:=by
 have hT:s.TypeIs (.ref I) "reversed":=⟨_,p6,rfl⟩;refine wpAny_pyIter_slot hT F.slot_reversed_iter (Uv F.slot_reversed_iter hT F.entry_reversed_iter ?_ (F.args_reversed_iter_1 _));show wpAny _ _ (ret (.ref I)) _ _ s
 exact Vg ⟨_,rfl,"reversed",_,hT,F.slot_reversed_next.lookup,h⟩
noncomputable def qj4(z:Str)(i:Nat):V:=.str ⟨#[z.cps.getD (z.length-1-i) 0]⟩
theorem Walks.rev(hh:A.handled=none)(I:Addr)(z:Str)(t:Tok)(hz:z.length<=sizeLine):
  Walks prog w A I [I] [I] z.length (λ i v=>qT (qj4 z i) v) (λ i h=>h.get? I=some (qdN z t ((z.length:Int)-1-i))) where
 sub:=λ _ hb=>hb
 frame:=λ _ _ _ st hk=>hk I (by simp) _ st
 item:=λ i s Q E hi st hQ=>by
  have e:(z.length:Int)-1-i=((z.length-1-i:Nat):Int):=by omega
  rw[e] at st;have i7:z.length-1-i<z.cps.size:=by show _<z.length;omega
  refine qj2 st hz (c:=z.cps.getD (z.length-1-i) 0) ?_ λ h' tk u K9 G2=>?_
  ·rw[Xf,Xn i7];rfl
  ·refine hQ _ h' tk ⟨u,rfl⟩ ?_ λ b o hb e=>G2.extBut b o (λ h=>hb (by simp[h])) e
   rw[K9];congr 1
   have:((z.length-1-i:Nat):Int)-1=(z.length:Int)-1-((i+1:Nat):Int):=by omega
   rw[this]
 done:=λ s Q E st hQ=>by
  have e:(z.length:Int)-1-(z.length:Nat)=-1:=by omega
  rw[e] at st;exact qj3 hh st λ h' iO=>hQ h' s.toks λ b o hb e=>iO b o (λ h=>hb (by simp[h])) e
 self:=λ _ _ _ _ st hQ=>qc9 st hQ
end
section
variable {X:Cx}
def qpm(ta:TA):TI:=λ σ H R=>ta σ H λ vs H1=>∃ z,vs=[.str z]/\z.length<=sizeLine/\R (ItV z.length (qj4 z)) H1
theorem qng {pos:Pos}(hg:Gl X "reversed")(hm:X.mg "reversed"=none)(ha:PA X [l] ta)(hs:starEach [l] X.env=[(false,eval l X.env)]:=by rfl):
  PI X tg (.Call (.Name "reversed" p) [l] [] pos) (qpm ta):=by
 intro pins s σ H R I h;refine qc0 hg hm F.boot_reversed ha I h (λ us s1 vs H1 I1 r1 q1=>?_) (hs:=hs);obtain⟨z,rfl,hz,q⟩:=q1;obtain⟨u,rfl,ru⟩:=zT r1;obtain⟨t,rfl⟩:=ru;refine qbo hz λ tk=>?_
 have G8:(s1.heap.push (qdN z t ((z.length:Int)-1))).get? s1.heap.objs.size=some (qdN z t ((z.length:Int)-1)):=Yt _ rfl;refine qc9 G8 ⟨s1.heap.objs.size,[s1.heap.objs.size],_,_,H1,rfl,I1.kept (t':=tk) λ b o e=>XB _ e,
  qaG (qj4 z) (λ A hA=>Walks.rev hA _ z t hz) (λ i v h=>h) (λ i h st=>⟨_,_,_,st,rfl,rfl,by decide⟩) (λ _ _ _ _ _ st h=>qc9 st h),?_,λ b hb=>?_,q⟩
 ·show(s1.heap.push _).get? _=some (qdN z t ((z.length:Int)-1-((0:Nat):Int)))
  rw[G8];congr 1;rw[show((0:Nat):Int)=0 from rfl,Int.sub_zero]
 ·have e:b=s1.heap.objs.size:=by simpa using hb
  subst e;exact I1.fpOk (Q5 _) (I1.hok.fresh (Q5 _))
end
namespace F
theorem lk_list_keys:typeLookup (.type "list") "keys"=pure none:=by rw[Jm,Ye];kernel_rfl
theorem entry_dict_update_loop:entryFor table "dict.update.loop"=some Builtin.«dict.update.loop»:=entryFor_of_fast (by kernel_rfl)
theorem plain_dict_update_loop:plainId "dict.update.loop"=true:=by decide +kernel
end F
section
variable {prog:Program}{w:World}{A:Around}{E:Value->Shared->Prop}{s:Shared}
theorem qiS(hx:s.heap.get? a=some o)(hc:o.cls=.type "list")(uA:o.data=.seq xs k)(hd:o.dict=none)(hA:A.handled=none)(h:∀ h' tk,(∀ b o,s.heap.get? b=some o->h'.get? b=some o)->Q none { s with heap:=h',toks:=tk }):wpAny (model prog w) A (getAttr? (.ref a) "keys") Q E s:=by
 obtain⟨c,dct,dat,sl⟩:=o;simp only at hc uA hd;subst hc uA hd;obtain⟨hp,g,d,tk,os⟩:=s;have hT:∀ nK,(⟨hp,g,d,nK,os⟩:Shared).TypeIs (.ref a) "list":=λ _=>⟨_,hx,rfl⟩
 have f1:=sub_AttributeError;have f3:=PySem.F.slot_list_getattribute.lookup;have f4:=PySem.F.slot_list_getattribute.bind (.ref a);have f5:=am_list_getattr_none;have hsz:("keys":Str).length+100<=sizeLine:=by decide
 unfold getAttr? getAttrBy? getAttrBy
 repeat (any_goals (first | assumption | exact hT _ | ((with_reducible show wpAny _ _ (call (Value.builtin "list.__getattribute__") _ _) _ _ _);refine Vj PySem.F.slot_list_getattribute (hT _) am_entry_list_getattribute (PySem.F.args_list_getattribute_2 _ _) (meets_getattribute_miss_list a xs k sl "keys" _ F.lk_list_keys (by decide +kernel) hsz) ⟨hx,hA,λ h' nK e x3=>?_⟩) | wp_step))
 obtain⟨t',u',he⟩:=x3.there;show wpAny _ _ (getattributeRaised _ _ _ _ _ _ _) _ _ _
 unfold getattributeRaised
 repeat (any_goals (first|assumption|wp_step))
 exact h _ _ x3.keeps
noncomputable def kvK(l:List (Str×V)):List (Key×V):=l.map λ x=>(.inr x.1,x.2)
theorem qfM(a b:List (Key×V))(x:Key×V):qM a (b++[x])=y3 (qM a b) x.1 x.2:=by
 unfold qM;rw[List.foldl_append];rfl
theorem qiT{s0:Shared}(hh:A.handled=none)(hlI:l≠I)(hDI:D≠I)(hDl:D≠l)(hn:items.size=zi.length)(hsz:zi.length<=sizeLine)(hp:∀(j:Nat) kv,zi[j]?=some kv->∃ p its tk u,items[j]?=some (.ref p)/\s0.heap.IsTuple p its/\its=#[.str kv.1 tk,u]/\qT kv.2 u/\p≠D/\p≠I)(hR:∀ s' cH,s'.os=s0.os->s'.gens=s0.gens->s'.drawn=s0.drawn->(∀ b o,b≠D->b≠I->s0.heap.get? b=some o->s'.heap.get? b=some o)->s'.heap.DictOf (qu prog w) D cH->KV (qM [] (kvK zi)) cH->R (.ok (.ret .none)) s'):
  ∀(k i:Nat)(s:Shared)(cH:List (Key×Value))(ti:Tok),zi.length-i=k->i<=zi.length->s.os=s0.os->s.gens=s0.gens->s.drawn=s0.drawn->(∀ b o,b≠D->b≠I->s0.heap.get? b=some o->s.heap.get? b=some o)->s.heap.IsListIter I l i->s.heap.IsList l items ->
   s.heap.DictOf (qu prog w) D cH->KV (qM [] (kvK (zi.take i))) cH->cH.length<=i->codeAny (model prog w) A (.builtin "dict.update.loop" ⟨[.ref D,.ref I,.int i ti,.none],[]⟩) R s:=by
 intro k;induction k with
 |zero =>
  intro i s cH ti hk hi e1 e2 e3 pY p6 hl hD mT cF;have dQ:i=zi.length:=by omega
  subst dQ;refine Jl F.entry_dict_update_loop ?_;rw[Yi F.plain_dict_update_loop _];unfold Builtin.«dict.update.loop»;refine Ve ((Walks.list (A:=A.in1) (by simpa using hh) I l hlI items).done s _ _ (by rw[hn];exact⟨p6,hl⟩) λ h' tk V9=>?_);show wpAny _ _ (Builtin.Dict.addKeywords D [] >>= _) _ _ _
  refine Ve (Vg (Vg ?_));refine hR _ cH e1 e2 e3 (λ b o T8 W0 e=>V9 b o (by simpa using W0) (pY b o T8 W0 e)) ?_ (by rw[Ul] at mT;exact mT);obtain⟨o,es,ep,ho,rest⟩:=hD;exact⟨o,es,ep,V9 D o (by simpa using hDI) ho,rest⟩
 |succ k ih =>
  intro i s cH ti hk hi e1 e2 e3 pY p6 hl hD mT cF;have i7:i<zi.length:=by omega
  refine Jl F.entry_dict_update_loop ?_;rw[Yi F.plain_dict_update_loop _];unfold Builtin.«dict.update.loop»;refine Ve ((Walks.list (A:=A.in1) (by simpa using hh) I l hlI items).item i s _ _ (by omega) ⟨p6,hl⟩ λ v h1 tk hP M8 V9=>?_);obtain⟨p,its,nK,u,ei,hT,rfl,ru,hpD,hpI⟩:=hp i zi[i] (Xv i7);have ev:v=.ref p:=by rw[ei] at hP;exact(Option.some.inj hP).symm
  subst ev;obtain⟨ot,mM,hct,nt,oI⟩:=hT;have tK:h1.get? p=some ot:=V9 p ot (by simpa using hpI) (pY p ot hpD hpI mM);have hD1:h1.DictOf (qu prog w) D cH:=by
   obtain⟨o,es,ep,ho,rest⟩:=hD;exact⟨o,es,ep,V9 D o (by simpa using hDI) ho,rest⟩
  refine Ve (Qk ?_);refine Ve (wpAny_tryCatch ?_);unfold Builtin.Dict.pairItems;refine Ve (Q3 (T:="tuple") ⟨ot,tK,hct⟩ ?_);simp only[show(Value.type "tuple" == Value.type "list")=false by decide,show(Value.type "tuple" == Value.type "tuple")=true by decide,Bool.or_true,Qe,Vv];refine Ve (J9 tK oI ?_);refine Vg ?_;show wpAny _ _ (holding _ (dictSet D (.str zi[i].1 nK) u)) _ _ _
  refine Qk (wpAny_dictSet_pairs (hsz:=by omega) (k:=.inr zi[i].1) (zh prog w _ nK) hD1 λ h2 iV o6=>?_);refine Vg ⟨Ql F.plain_dict_update_loop _,?_⟩;refine ih (i+1) { s with heap:=h2,toks:=tk+1 } (stored cH (.inr zi[i].1) u) 0 (by omega) i7 e1 e2 e3 (λ b o T8 W0 e=>(o6.2 b T8).trans (V9 b o (by simpa using W0) (pY b o T8 W0 e))) ?_ ?_ iV ?_ ?_
  ·exact M8.1.at λ o e=>(o6.2 I (Vr hDI)).trans e
  ·exact M8.2.at λ o e=>(o6.2 l (Vr hDl)).trans e
  ·have et:zi.take (i+1)=zi.take i++[zi[i]]:=by rw[List.take_succ,Xv i7];rfl
   rw[et];unfold kvK;rw[U7,Qc,List.map_nil,qfM];exact mT.put _ ru
  ·have:=mT.length
   have h2:=(mT.put (.inr zi[i].1) ru).length;rw[<- h2];have h3:=yI (qM [] (kvK (zi.take i))) (.inr zi[i].1) zi[i].2;omega
end
section
variable {X:Cx}
theorem qb9:∀{xs:List α}{l:List β},Paired F xs l->∀(k:Nat)(b:β),l[k]?=some b->∃ a,xs[k]?=some a/\F a b
 |_,_,.nil,k,b,h=>by simp at h
 |_,_,.cons r t,0,b,h=>by simp at h;subst h;exact⟨_,rfl,r⟩
 |_,_,.cons r t,k+1,b,h=>by
  obtain⟨a,h1,h2⟩:=qb9 t k b (by simpa using h);exact⟨a,by simpa using h1,h2⟩
def qnh(K:W.Frag):List V->Hp->VK->Prop:=λ xs H Q=>∃(p:Addr)(ps:List Addr)(zi:List (Str×V)),xs=[.ref p]/\SqL K H p (ps.map V.ref)/\Paired (λ a kv=>SqT K H a [.str kv.1,kv.2]) ps zi /\
 ∀ d,H d=none->Q (.ref d) (upd H d (.dK (qM [] (kvK zi))))
theorem qfN(hc:X.calm=true):yG X (.type "dict") (qnh X.K):=by
 intro pins s σ H xs us Q I r h;obtain⟨l,ps,zi,rfl,hq,cA,q⟩:=h;obtain⟨u,rfl,ru⟩:=zT r;cases ru
 obtain⟨its,rv,⟨ol,nl,hol,cF,hdl,xX⟩,hz⟩:=I.list hq;have hA:=I.ok.hd hc;have pX:l<s.heap.objs.size:=Qo hol;have c9:ps.length=zi.length:=cA.length;have hits:its.length=zi.length:=by rw[<- rv.length,U0];exact c9
 have hsz:zi.length<=sizeLine:=by rw[U0] at hz;omega
 refine callType_codes (Q₁:=λ obj s₁=>obj=.ref s.heap.objs.size/\s₁={ s with heap:=s.heap.push { cls:=.type "dict",data:=.dict #[] } }) PySem.F.kt_called_dict (PySem.F.kt_typeCall_dict_1 _) PySem.F.entry_dict_init (kt_code_dict_new _ ⟨rfl,rfl⟩) ?_;rintro obj s₁ ⟨rfl,rfl⟩;have G8:(s.heap.push { cls:=.type "dict",data:=.dict #[] }).DictOf (qu X.prog X.w) s.heap.objs.size []:=Heap.DictOf.new s.heap;refine⟨G8.typeIs,PySem.F.args_dict_init_2 _ _,?_⟩;unfold Builtin.«dict.__init__»;refine Ve ?_;unfold Builtin.Dict.selfAndRest;refine Ve (wpAny_notOrdered_dict G8.typeIs ?_);show wpAny _ _ (pure (s.heap.objs.size,[Value.ref l])) _ _ _
 refine Vg ?_;show wpAny _ _ (Builtin.Dict.updateFrom "dict.__init__" s.heap.objs.size (.ref l) [] .none) _ _ _
 unfold Builtin.Dict.updateFrom;have oA:(s.heap.push { cls:=.type "dict",data:=.dict #[] }).get? l=some ol:=XB _ hol;refine Ve (Q3 (T:="list") ⟨ol,oA,cF⟩ ?_);rw[Vy (by decide)];refine Ve (qiS (s:={ s with heap:=s.heap.push { cls:=.type "dict",data:=.dict #[] } }) oA cF xX hdl (by simpa using hA) λ h2 tk2 dJ=>?_);simp only[Option.isNone_none,Vv];refine Ve (Vk ?_);have tM:h2.get? l=some ol:=dJ l ol oA;have S8:h2.IsList l its.toArray:=⟨ol,tM,cF,nl,xX⟩;have iV:h2.DictOf (qu X.prog X.w) s.heap.objs.size []:=by
  obtain⟨o,es,ep,ho,rest⟩:=G8;exact⟨o,es,ep,dJ _ o ho,rest⟩
 have oO:s.heap.objs.size<h2.objs.size:=by
  obtain⟨o,es,ep,ho,rest⟩:=iV;exact Qo ho
 have hllt:l<h2.objs.size:=Qo tM;refine Ve (Z2 (s:={ s with heap:=h2,toks:=tk2 }) S8 ?_);refine Vg ⟨Ql F.plain_dict_update_loop _,?_⟩;have pZ:∀ b o,s.heap.get? b=some o->(h2.push { cls:=.type "list_iterator",data:=.fields #[.ref l,.int 0 0] }).get? b=some o:=λ b o e=>XB _ (dJ b o (XB _ e))
 refine qiT (A:=X.A.in1) (I:=h2.objs.size) (l:=l) (D:=s.heap.objs.size) (items:=its.toArray) (zi:=zi) (s0:={ s with heap:=h2.push { cls:=.type "list_iterator",data:=.fields #[.ref l,.int 0 0] },toks:=tk2 })
  (by simpa using hA) (Qp hllt) (Qp oO) (Qs pX) (by rw[Zo];exact hits) hsz ?_ ?_ zi.length 0 _ [] 0 (by omega) (Q6 _) rfl rfl rfl (λ b o _ _ e=>e) ?_ ?_ ?_ (by rw[Jx];exact .nil) (Q5 _)
 ·intro j kv hkv;obtain⟨p,fU,hT⟩:=qb9 cA j kv hkv;obtain⟨tis,rt,pt,_⟩:=I.tuple hT;obtain⟨u1,u2,e2,r1,r2⟩:=qfn rt;obtain⟨t1,rfl⟩:=r1;subst e2;obtain⟨ot,mM,hct,nt,oI⟩:=pt;have tI:p<s.heap.objs.size:=Qo mM;obtain⟨v,hv,rvv⟩:=rv.get (i:=j) (x:=.ref p) (by rw[Zn,fU];rfl);cases rvv
  refine⟨p,_,t1,u2,by simpa using hv,⟨ot,pZ p ot mM,hct,nt,oI⟩,rfl,r2,Qp tI,Qp (Nat.lt_trans tI oO)⟩
 ·intro s' cH e1 e2 e3 pY hD mT;refine⟨rfl,?_⟩;have hf:=I.hok.fresh (Q5 s.heap.objs.size);have hk4:∀ b o,s.heap.get? b=some o->s'.heap.get? b=some o:=λ b o e=>pY b o (Qp (Qo e)) (Qp (Nat.lt_trans (Qo e) oO)) (pZ b o e)
  have hmz:(qM [] (kvK zi)).length<=sizeLine:=by
   have gen:∀(ls c7:List (Key×V)),(qM c7 ls).length<=c7.length+ls.length:=by
    intro ls;induction ls with
    |nil=>intro c7;exact Q5 _
    |cons x ls ih =>
     intro c7;show(qM (y3 c7 x.1 x.2) ls).length<=_
     have:=ih (y3 c7 x.1 x.2)
     have h3:=yI c7 x.1 x.2;rw[Uc];omega
   have:=gen (kvK zi) []
   have e:(kvK zi).length=zi.length:=by unfold kvK;rw[U0]
   simp at this;omega
  refine⟨.ref s.heap.objs.size,_,I.call' (s':=s') (ch:=[]) e1 (Un.laid hk4 (Q5 _) hf) (I.hok.laid hk4 (Q5 _) (qcJ hmz (Y6.mpr (Vr (Qp I.big))) mT hD)) (by rw[e2];exact I.bare) (λ _ z=>nomatch z),rfl,q _ hf⟩
 ·exact⟨_,Yt _ rfl,rfl,rfl⟩
 ·exact S8.push _
 ·obtain⟨o,es,ep,ho,rest⟩:=iV;exact⟨o,es,ep,XB _ ho,rest⟩
theorem qfO{pos:Pos}(S:CompScope X NY o caps scope)(I2:Inv X pins σ H2 s2)(B3:∀ b∈fp,yY X pins H2 b)(l0:tn 0 s2.heap)(Wk:∀ C,Walk (zy X NY scope C s2 H2 fp pins) tg fp it tn adv stop)(ht:∀ C,PTs (zy X NY scope C s2 H2 fp pins) C3 tt)(he:∀ C,PE (zy X NY scope C s2 H2 fp pins) G0 te)(h:yO o caps adv stop tt te σ H2 Q)(fin:∀(s4:Shared)(H3:Hp)(m:Str->Option Value),s4.heap.Ns (s2.heap.objs.size+1) m->Inv X pins σ H3 s4->H3 (s2.heap.objs.size+1)=none->Q (.ref s2.heap.objs.size) H3->R (.ok .next) s4):
  wpAny (model X.prog X.w) X.A (newList []) (λ c7 s₃=>wpAny (model X.prog X.w) X.A (newFunctionEnv scope X.env.globals (zO X.env scope.names []) [] X.env.qual none .none (some X.env)) (λ R0 s₄ =>
   c7=.ref s2.heap.objs.size/\R0.locals=s2.heap.objs.size+1/\codeAny (model X.prog X.w) X.A (.compStart (.ListComp G0 [⟨tg,iter,C3,0⟩] scope pos) 0 (.ref it) c7 { R0 with scope:=relabel scope X.env }) R s₄) X.xe s₃) X.xe s2:=by
 refine Z4 (wpAny_newFunctionEnv S.nocell (by intro y hy;simp at hy) (λ h₁ hns₁ N9₁=>?_) S.kind);dsimp only at hns₁ N9₁ ⊢;have hC:(s2.heap.push { cls:=.type "list",dict:=none,data:=.seq ([]:List Value).toArray }).objs.size=s2.heap.objs.size+1:=Jr _ _;rw[hC] at hns₁ N9₁ ⊢;have l7:∀ b ob,s2.heap.get? b=some ob->h₁.get? b=some ob:=λ b ob e =>
  (N9₁.2 b (Qp (Zt (Qo e)))).trans (XB _ (XB _ e))
 have hD:∃ n,h₁.get? s2.heap.objs.size=some { cls:=.type "list",data:=.seq ([]:List Value).toArray n }:=
  ⟨_,(N9₁.2 _ (Qp (Ud _))).trans (XB _ (Yt _ rfl))⟩
 have T7:H2 s2.heap.objs.size=none:=I2.hok.fresh (Q5 _);obtain⟨W,⟨m0,w0⟩,turn⟩:=h _ T7;have cQ:=(Wk 0).obj 0 s2.heap l0;have I4:=qfB S I2 B3 (λ b hb=>(cQ b hb).imp λ _ q=>q.1) (hns:=hns₁) l7 hD (s2.toks+([]:List (Str×Value)).length);have lQ:tn 0 h₁:=(Wk 0).keep _ _ _ l0 λ b _ ob e=>l7 b ob e
 have uU:∀ b∈fp,upd H2 s2.heap.objs.size (.lst []) b=none:=λ b hb=>by
  obtain⟨ob,e,_⟩:=cQ b hb;rw[qp (Qp (Qo e))];exact(B3 b hb).1
 have loop:codeAny (model X.prog X.w) X.A (.compLoop (.ListComp G0 [⟨tg,iter,C3,0⟩] scope pos) 0 (.ref it) (.ref s2.heap.objs.size) (compEnvC scope (zO X.env scope.names []) (s2.heap.objs.size+1) X.env))
   R { s2 with heap:=h₁,toks:=s2.toks+([]:List (Str×Value)).length }:=by
  have Wk:=Wk (s2.heap.objs.size+1);have ht:=ht (s2.heap.objs.size+1);have he:=he (s2.heap.objs.size+1);generalize hY:zy X NY scope (s2.heap.objs.size+1) s2 H2 fp pins=Y at Wk ht he I4;have eR:∀{H':Hp},(∀ b∈fp,H' b=none)->∀ b∈fp,yY Y [] H' b:=λ{H'} hn b hb=>by
   subst hY;obtain⟨ob,e,_⟩:=cQ b hb;have k:=I4.ok.exf b hb;refine⟨hn b hb,k.1,I4.ok.exfs b hb,.inl hb,k.2,λ p hp=>?_⟩;have E9:p∈X.pn++pins:=by
    have:p∈(X.pn++pins)++[]:=hp
    simpa using this
   exact(B3 b hb).2.2.2.2.2 p E9
  refine j6 (λ n s'=>∃ i ys H',Inv Y [] (stY o caps σ) H' s'/\tn i s'.heap/\(∀ b∈fp,H' b=none)/\W i n ys H') ?_ m0 ⟨0,[],_,I4,lQ,uU,w0⟩;rintro n s3 ⟨i,ys,H3,I3,G5,aT,w3⟩;have eE:Y.xe=λ _ _=>False:=by subst hY;rfl
  have wJ:Y.prog=X.prog/\Y.w=X.w/\Y.A=X.A/\Y.env=compEnvC scope (zO X.env scope.names []) (s2.heap.objs.size+1) X.env:=by subst hY;exact⟨rfl,rfl,rfl,rfl⟩
  obtain⟨eP,ew,eA,ee⟩:=wJ;rw[<- eP,<- ew,<- eA,<- ee,<- eE];rcases turn i n ys H3 w3 with⟨stp,qn⟩|av
  ·refine thn (Wk.done i [] s3 _ H3 I3 (eR aT) G5 stp) λ r s4 ⟨hr,I5⟩=>?_
   subst hr;obtain⟨m,hn,_⟩:=id I5.loc;have eC:Y.env.locals=s2.heap.objs.size+1:=by rw[ee];rfl
   rw[eC] at hn;have u:=I5.base;have dG:=I5.hok;have A8:=I5.free;rw[eC] at A8;have T4:=I5.bare;have tL:=I5.os;subst hY;have hs:Heap.SameBut (s2.heap.objs.size+1) s4.heap s4.heap:=⟨rfl,λ _ _=>rfl⟩;have u2:Un (frs X.stack) fp H2 H3 s2.heap s4.heap:=Un.but u hs (Q7 _);have dH:HOk X.prog X.w H3 s4.heap:=HOk.but dG hs A8;refine fin s4 H3 m hn ?_ A8 qn;obtain⟨hh,g,d,t,nP⟩:=s4;obtain rfl:nP=s2.os:=tL;exact Inv.call (s:=s2) (h':=hh) (g':=g) (d':=d) (t':=t) (ch:=fp) I2 u2 dH T4 λ b hb=>⟨(B3 b hb).2.2.2.1,(B3 b hb).2.1,(B3 b hb).2.2.2.2.1,(B3 b hb).2.2.2.2.2⟩
  ·refine thn (Wk.item i [] s3 _ H3 _ I3 (eR aT) G5 av) λ r s4 ⟨u,hr,h4⟩=>?_
   subst hr;refine thn h4 λ _ s5 h5=>thn h5 λ _ s6 ⟨σ6,H6,I6,⟨kp,q6⟩,S0,uT⟩=>?_
   have xE:=I6.pinned (fp:=fp) (eR uT) (Wk.obj _ _ S0);refine thn (ht _ s6 σ6 H6 _ xE q6) λ b s7 ⟨H7,I7,q7⟩=>?_
   cases b with
   |false =>
    obtain⟨m',hm,w7⟩:=q7;obtain⟨J1,J2,J3⟩:=zE (tg:=tg) (tn:=tn) (i:=i+1) (Wk.obj _ _ S0) (λ h' k=>Wk.keep _ _ _ S0 k) I7;exact⟨m',hm,i+1,ys,H7,J1.weak kp.2.symm kp.get,J2,J3,w7⟩
   |true =>
    refine thn (he _ s7 σ6 H7 _ I7 q7) λ y s8 ⟨yv,H8,I8,r8,uI,mC,m',hm,w8⟩=>?_
    refine thn (yb (X:=Y) _ s8 σ6 H8 (.ref s2.heap.objs.size) [yv] _ _ (λ v H'=>v=.non/\H'=upd H8 s2.heap.objs.size (.lst (ys++[yv]))) I8 rfl (.cons r8 .nil) ⟨_,ys,yv,rfl,rfl,uI,mC,rfl,rfl⟩) λ v s9 ⟨_,H9,I9,_,_,e9⟩=>?_
    subst e9;obtain⟨J1,J2,J3⟩:=zE (tg:=tg) (tn:=tn) (i:=i+1) (Wk.obj _ _ S0) (λ h' k=>Wk.keep _ _ _ S0 k) I9;exact⟨m',hm,i+1,ys++[yv],_,J1.weak kp.2.symm kp.get,J2,J3,w8⟩
 exact⟨rfl,rfl,XM loop ((Wk 0).self _ 0 _ _ _ lQ loop)⟩
theorem qeM{Q:St->Hp->Prop}{R:Flow->Shared->Prop}(I2:Inv X pins σ H2 s2)(hN:X.N.Nodup)(hi:X.N[i]?=some x)(hx:X.env.scope.names.lookup x=some .local)(hR:∀ s H,Inv X pins (σ.set i (some (.ref s2.heap.objs.size))) H s->Q (σ.set i (some (.ref s2.heap.objs.size))) H->R .next s)(hn:s4.heap.Ns (s2.heap.objs.size+1) m)(I4:Inv X pins σ H3 s4)(hf:H3 (s2.heap.objs.size+1)=none)(q:Q (σ.set i (some (.ref s2.heap.objs.size))) H3):
  wpAny (model X.prog X.w) X.A (assign (.Name x C5) X.env (.ref s2.heap.objs.size)) (λ _ V2=>∃ m,V2.heap.Ns (s2.heap.objs.size+1) m/\∀ h',Heap.SameBut (s2.heap.objs.size+1) V2.heap h'->R .next { V2 with heap:=h' }) X.xe s4:=by
 have hCL:s2.heap.objs.size+1≠X.env.locals:=Qs (Zt I2.lt);have S9:∀ y c,X.env.cells.lookup y=some c->c≠s2.heap.objs.size+1:=λ y c e=>by
  obtain⟨v,o,ho,_⟩:=I2.cell y c e;exact Qp (Zt (Qo ho))
 refine wpAny_assign_Name (qdV (v:=.ref s2.heap.objs.size) I4 hN hi (.inl hx) rfl (λ s5 I5 N9=>?_) (.inr hx));obtain⟨a,sb,ha⟩:=N9;have hCa:s2.heap.objs.size+1≠a:=by
  rcases ha with e|e
  ·rw[e];exact hCL
  ·exact Vr (S9 x a e)
 refine⟨m,hn.sameBut sb hCa,λ h' hs=>hR _ H3 ?_ q⟩;refine I5.turned (it:=s2.heap.objs.size+1) (t':=s5.toks) (λ b o hb e=>(hs.2 b hb).trans e) hf hCL (.inr (Zy I2.sz)) S9 λ p hp=>?_
 obtain⟨e,_⟩:=I2.pin p hp;exact Qp (Zt (Qo e))
theorem qh4 {pos:Pos}(hN:X.N.Nodup)(hi:X.N[i]?=some x)(hx:X.env.scope.names.lookup x=some .local)(S:CompScope X NY o caps scope)(hc:X.calm=true)(p6:PI X tg iter wi)(hg:∀ C s H fp pins,PG (zy X NY scope C s H fp pins) tg g)(ht:∀ C s H fp pins,PTs (zy X NY scope C s H fp pins) C3 tt)(he:∀ C s H fp pins,PE (zy X NY scope C s H fp pins) G0 te)(hsw:swapsWith (.ListComp G0 [⟨tg,iter,C3,0⟩] scope C7) (some (.Name x C5)) pos.line X.env=pure true:=by rfl)(hs:∀ x,foldedSetIterable iter X.env x=pure x:=by intro _;rfl):PS X (.Assign [.Name x C5] (.ListComp G0 [⟨tg,iter,C3,0⟩] scope C7) pos) (qlt (qjM o caps wi g tt te) (vG i)):=by
 intro pins s σ H D I h;rw[exec_Assign_Name_used _ _ _ _ hsw];refine Ve (wpAny_standAt (Ve ?_));refine Ve (X0 (env:=X.env) (use:=some (assign (.Name x C5) X.env)) (g:=⟨tg,iter,C3,0⟩) (gs:=[]) rfl hs (yw λ y hy e=>I.ok.has _ (S.frees y hy e)) S.kind S.locs ?_);refine thn (p6 pins s σ H _ I h) λ v s1 h1=>thn h1 λ hW s2 h2=>?_
 obtain⟨it,fp,tn,J,H2,e,I2,T,l0,f2,hr⟩:=h2;subst e;refine thn (qfO (iter:=iter) (pos:=C7) (R:=λ r s'=>r=.ok .next/\wpAny (model X.prog X.w) X.A (assign (.Name x C5) X.env (.ref s2.heap.objs.size)) (λ _ V2=>∃ m,V2.heap.Ns (s2.heap.objs.size+1) m/\∀ h',Heap.SameBut (s2.heap.objs.size+1) V2.heap h'->SP X pins D .next { V2 with heap:=h' }) X.xe s')
  S I2 f2 l0 (λ C=>Turn.walk (Y:=zy X NY scope C s2 H2 fp pins) hc T (hg _ _ _ _ _)) (λ C=>ht _ _ _ _ _) (λ C=>he _ _ _ _ _) hr λ s4 H3 m hn I4 hf q=>⟨rfl,qeM (Q:=D.nx) (R:=SP X pins D) I2 hN hi hx (λ s H I q=>⟨_,H,I,q⟩) hn I4 hf q⟩) λ c7 s3 h3=>thn h3 λ R0 s4 h4=>?_
 obtain⟨rfl,eC,h4⟩:=h4;refine Q2 h4 λ r s5 ⟨er,h5⟩=>?_
 subst er;show wpAny _ _ (assign (.Name x C5) X.env (.ref s2.heap.objs.size)) _ _ s5
 rw[eC];refine thn h5 λ _ s6 ⟨m,hn,h6⟩=>⟨m,hn,λ h' G2=>?_⟩
 exact Vg (Vg (h6 h' G2))
end
theorem qi.seqT{K:W.Frag}(e:qi H H')(h:SqT K H a xs):SqT K H' a xs:=by
 rcases h with(h|⟨o,h⟩)|h
 ·exact .inl (.inl (e _ _ h))
 ·exact .inl (.inr ⟨o,e _ _ h⟩)
 ·exact .inr h
theorem qi.up(h:H p=none):qi H (upd H p o):=qc3 h o
theorem qi.to(s:qi H H1)(h:H1 p=none):qi H (upd H1 p o):=s.trans (qc3 h o)
theorem qi.at(s:qi H H1)(h:H p=none):qi H (upd H1 p o):=λ b u q=>by rw[qp (zw q h)];exact s b u q
theorem qgW(frees:List Str)(k:scope.kind=.function)(nd:NY.Nodup)(nc:scope.names.all (λ y=>y.2 != .cell)=true)(lc:scope.names.all (λ y=>y.2 != .local || scope.names.lookup y.1 == some .local)=true)(fr:scope.names.all (λ y=>y.2 != .free || frees.contains y.1)=true)(fk:∀ x∈frees,X.env.kindOf x=some .cell∨X.env.kindOf x=some .free)(wO:∀(j i:Nat),caps[j]?=some i->∃ x,NY[o+j]?=some x/\X.N[i]?=some x/\scope.names.lookup x=some .free)(len:NY.length=o+caps.length):CompScope X NY o caps scope where
 kind:=k
 nd:=nd
 nocell:=λ y hy e=>by have:=Uj.mp nc y hy;rw[e] at this;cases this
 frees:=λ y hy e=>by
  have:=Uj.mp fr y hy
  rw[e] at this;exact fk _ (XT.mp this)
 locs:=λ y hy e=>by
  have:=Uj.mp lc y hy
  rw[e] at this;simpa using this
 capOk:=wO
 len:=len
theorem csc(frees:List Str)(k:scope.kind=.function)(fk:∀ x∈frees,X.env.kindOf x=some .cell∨X.env.kindOf x=some .free)(wO:∀(j i:Nat),caps[j]?=some i->∃ x,NY[o+j]?=some x/\X.N[i]?=some x/\scope.names.lookup x=some .free)(len:NY.length=o+caps.length)(h:NY.Nodup ∧ scope.names.all (λ y=>y.2 != .cell)=true ∧ scope.names.all (λ y=>y.2 != .local || scope.names.lookup y.1 == some .local)=true ∧ scope.names.all (λ y=>y.2 != .free || frees.contains y.1)=true:=by decide +kernel):CompScope X NY o caps scope:=qgW frees k h.1 h.2.1 h.2.2.1 h.2.2.2 fk wO len
theorem yk{X:Cx}{NY:List Str}{scope:Scope}:∀(j i:Nat),([]:List Nat)[j]?=some i->∃ x,NY[o+j]?=some x/\X.N[i]?=some x/\scope.names.lookup x=some .free:=λ j i h=>by simp at h
theorem jz{X:Cx}{NY:List Str}{scope:Scope}(h0:NY[o]?=some x)(h1:X.N[a]?=some x)(h2:scope.names.lookup x=some .free)(hr:∀(j i:Nat),as[j]?=some i->∃ x,NY[o+1+j]?=some x/\X.N[i]?=some x/\scope.names.lookup x=some .free):
  ∀(j i:Nat),(a::as)[j]?=some i->∃ x,NY[o+j]?=some x/\X.N[i]?=some x/\scope.names.lookup x=some .free
 |0,i,h=>by simp at h;subst h;exact⟨x,h0,h1,h2⟩
 |j+1,i,h=>by
  obtain⟨y,q⟩:=hr j i (by simpa using h);exact⟨y,by rw[show o+(j+1)=o+1+j by omega];exact q.1,q.2⟩
theorem qbp(n:Nat)(out:Nat->List V)(h0:out 0=[])(c9:∀ i,i<n->(out i).length<sizeLine)(turn:∀(i:Nat)(H:Hp)(D:Addr)(Y:V->Hp->Prop)(Z:Hp->Prop),i<n->H1 D=none->H D=some (.lst (out i))->qi H1 H ->
   (∀ y H4,H4 D=some (.lst (out i))->qi H1 H4->out (i+1)=out i++[y]->Y y H4)->(∀ H3,H3 D=some (.lst (out i))->qi H1 H3->out (i+1)=out i->Z H3) ->
   adv i (stY o caps σ) H λ σ2 H2=>Kp o (stY o caps σ) σ2/\tt σ2 H2 λ b H3=>if b=true then te σ2 H3 Y else Z H3)(stp:∀ H,qi H1 H->stop n H)(fin:∀(D:Addr)(H:Hp),H1 D=none->qi H1 H->H D=some (.lst (out n))->Q (.ref D) H):yO o caps adv stop tt te σ H1 Q:=by
 intro D hD;refine⟨λ i m ys H=>m=n-i/\i<=n/\ys=out i/\H D=some (.lst (out i))/\qi H1 H,⟨n,by simp,Q6 _,h0.symm,by rw[h0];exact qe,qi.up hD⟩,?_⟩;rintro i m ys H ⟨rfl,hi,rfl,hH,sm⟩;by_cases i7:i<n
 ·refine .inr (turn i H D _ _ i7 hD hH sm (λ y H4 e1 e2 e3=>⟨e1,c9 i i7,n-(i+1),by omega,rfl,i7,e3.symm,by rw[e3];exact qe,e2.at hD⟩) (λ H3 e1 e2 e3=>⟨n-(i+1),by omega,rfl,i7,e3.symm,by rw[e3];exact e1,e2⟩))
 ·have e:i=n:=by omega
  subst e;exact .inl ⟨stp H sm,fin D H hD sm hH⟩
theorem yL(n:Nat)(R:Nat->List V->Hp->Prop)(h0:∀ D,H1 D=none->R 0 [] (upd H1 D (.lst [])))(c9:∀ i ys H,i<n->R i ys H->ys.length<sizeLine)(turn:∀(i:Nat)(ys:List V)(H:Hp)(D:Addr)(Y:V->Hp->Prop)(Z:Hp->Prop),i<n->H1 D=none->H D=some (.lst ys)->qi H1 H->R i ys H ->
   (∀ y H4,H4 D=some (.lst ys)->qi H1 H4->R (i+1) (ys++[y]) (upd H4 D (.lst (ys++[y])))->Y y H4)->(∀ H3,H3 D=some (.lst ys)->qi H1 H3->R (i+1) ys H3->Z H3) ->
   adv i (stY o caps σ) H λ σ2 H2=>Kp o (stY o caps σ) σ2/\tt σ2 H2 λ b H3=>if b=true then te σ2 H3 Y else Z H3)(stp:∀ H,qi H1 H->stop n H)(fin:∀(D:Addr)(H:Hp)(ys:List V),H1 D=none->qi H1 H->H D=some (.lst ys)->R n ys H->Q (.ref D) H):yO o caps adv stop tt te σ H1 Q:=by
 intro D hD;refine⟨λ i m ys H=>m=n-i/\i<=n/\H D=some (.lst ys)/\qi H1 H/\R i ys H,⟨n,by simp,Q6 _,qe,qi.up hD,h0 D hD⟩,?_⟩;rintro i m ys H ⟨rfl,hi,hH,sm,r⟩;by_cases i7:i<n
 ·refine .inr (turn i ys H D _ _ i7 hD hH sm r (λ y H4 e1 e2 e3=>⟨e1,c9 i ys H i7 r,n-(i+1),by omega,rfl,i7,qe,e2.at hD,e3⟩) (λ H3 e1 e2 e3=>⟨n-(i+1),by omega,rfl,i7,e1,e2,e3⟩))
 ·have e:i=n:=by omega
  subst e;exact .inl ⟨stp H sm,fin D H ys hD sm hH r⟩
section
variable {K:W.Frag}{o:Nat}{caps:List Nat}{g:TG}{tg:TGs}{tt:TT}{te:TE}{σ:St}{H1:Hp}{Q:VK}
abbrev qfP(o:Nat)(caps:List Nat)(σ:St)(tt:TT)(te:TE)(Y:V->Hp->Prop)(Z:Hp->Prop):St->Hp->Prop:=λ σ2 H2=>Kp o (stY o caps σ) σ2/\tt σ2 H2 λ b H3=>if b=true then te σ2 H3 Y else Z H3
theorem vX(hx:SqL K H1 a xs)(out:Nat->List V)(h0:out 0=[])(c9:∀ i,i<xs.length->(out i).length<sizeLine)(turn:∀(i:Nat)(x:V)(H:Hp)(D:Addr)(Y:V->Hp->Prop)(Z:Hp->Prop),xs[i]?=some x->H1 D=none->H D=some (.lst (out i))->qi H1 H ->
   (∀ y H4,H4 D=some (.lst (out i))->qi H1 H4->out (i+1)=out i++[y]->Y y H4)->(∀ H3,H3 D=some (.lst (out i))->qi H1 H3->out (i+1)=out i->Z H3)->g x (stY o caps σ) H (qfP o caps σ tt te Y Z))(fin:∀(D:Addr)(H:Hp),H1 D=none->qi H1 H->H D=some (.lst (out xs.length))->Q (.ref D) H):yO o caps (qd5 (Itl K a) g) (Itl K a).stop tt te σ H1 Q:=
 qbp xs.length out h0 c9 (λ i H D Y Z hi hD hH sm hy hz=>⟨⟨xs,xs[i],sm.seq hx,Xv hi⟩,λ x H' ⟨e,x3⟩=>by subst e;exact turn i x _ D Y Z (x3 xs (sm.seq hx)) hD hH sm hy hz⟩) (λ H sm=>⟨xs,sm.seq hx,Q5 _⟩) fin
theorem qj5(hx:SqT K H1 a xs)(out:Nat->List V)(h0:out 0=[])(c9:∀ i,i<xs.length->(out i).length<sizeLine)(turn:∀(i:Nat)(x:V)(H:Hp)(D:Addr)(Y:V->Hp->Prop)(Z:Hp->Prop),xs[i]?=some x->H1 D=none->H D=some (.lst (out i))->qi H1 H ->
   (∀ y H4,H4 D=some (.lst (out i))->qi H1 H4->out (i+1)=out i++[y]->Y y H4)->(∀ H3,H3 D=some (.lst (out i))->qi H1 H3->out (i+1)=out i->Z H3)->g x (stY o caps σ) H (qfP o caps σ tt te Y Z))(fin:∀(D:Addr)(H:Hp),H1 D=none->qi H1 H->H D=some (.lst (out xs.length))->Q (.ref D) H):yO o caps (qd5 (Itt K a) g) (Itt K a).stop tt te σ H1 Q:=
 qbp xs.length out h0 c9 (λ i H D Y Z hi hD hH sm hy hz=>⟨⟨xs,xs[i],sm.seqT hx,Xv hi⟩,λ x H' ⟨e,x3⟩=>by subst e;exact turn i x _ D Y Z (x3 xs (sm.seqT hx)) hD hH sm hy hz⟩) (λ H sm=>⟨xs,sm.seqT hx,Q5 _⟩) fin
theorem qj6{lo:Int}(out:Nat->List V)(h0:out 0=[])(c9:∀ i,i<n->(out i).length<sizeLine)(turn:∀(i:Nat)(H:Hp)(D:Addr)(Y:V->Hp->Prop)(Z:Hp->Prop),i<n->H1 D=none->H D=some (.lst (out i))->qi H1 H ->
   (∀ y H4,H4 D=some (.lst (out i))->qi H1 H4->out (i+1)=out i++[y]->Y y H4)->(∀ H3,H3 D=some (.lst (out i))->qi H1 H3->out (i+1)=out i->Z H3)->g (.int (lo+i)) (stY o caps σ) H (qfP o caps σ tt te Y Z))(fin:∀(D:Addr)(H:Hp),H1 D=none->qi H1 H->H D=some (.lst (out n))->Q (.ref D) H):yO o caps (qd5 (Itr lo n) g) (Itr lo n).stop tt te σ H1 Q:=
 qbp n out h0 c9 (λ i H D Y Z hi hD hH sm hy hz=>⟨hi,λ x H' ⟨e,ex⟩=>by subst e ex;exact turn i _ D Y Z hi hD hH sm hy hz⟩) (λ H sm=>Q5 _) fin
theorem qbQ(out:Nat->List V)(h0:out 0=[])(c9:∀ i,i<n->(out i).length<sizeLine)(turn:∀(i:Nat)(H:Hp)(D:Addr)(Y:V->Hp->Prop)(Z:Hp->Prop),i<n->H1 D=none->H D=some (.lst (out i))->qi H1 H ->
   (∀ y H4,H4 D=some (.lst (out i))->qi H1 H4->out (i+1)=out i++[y]->Y y H4)->(∀ H3,H3 D=some (.lst (out i))->qi H1 H3->out (i+1)=out i->Z H3)->g (val i) (stY o caps σ) H (qfP o caps σ tt te Y Z))(fin:∀(D:Addr)(H:Hp),H1 D=none->qi H1 H->H D=some (.lst (out n))->Q (.ref D) H):yO o caps (qd5 (ItV n val) g) (ItV n val).stop tt te σ H1 Q:=
 qbp n out h0 c9 (λ i H D Y Z hi hD hH sm hy hz=>⟨hi,λ x H' ⟨e,ex⟩=>by subst e ex;exact turn i _ D Y Z hi hD hH sm hy hz⟩) (λ H sm=>rfl) fin
theorem qgX(hx:SqL K H1 a xs)(hy:SqL K H1 b ys)(hl:xs.length=ys.length)(out:Nat->List V)(h0:out 0=[])(c9:∀ i,i<xs.length->(out i).length<sizeLine)(turn:∀(i:Nat)(x y:V)(H:Hp)(D:Addr)(Y:V->Hp->Prop)(Z:Hp->Prop),xs[i]?=some x->ys[i]?=some y->H1 D=none->H D=some (.lst (out i))->qi H1 H ->
   (∀ y H4,H4 D=some (.lst (out i))->qi H1 H4->out (i+1)=out i++[y]->Y y H4)->(∀ H3,H3 D=some (.lst (out i))->qi H1 H3->out (i+1)=out i->Z H3)->tg [x,y] (stY o caps σ) H (qfP o caps σ tt te Y Z))(fin:∀(D:Addr)(H:Hp),H1 D=none->qi H1 H->H D=some (.lst (out xs.length))->Q (.ref D) H):yO o caps (qgO (ItZ K a b) 2 tg) (ItZ K a b).stop tt te σ H1 Q:=
 qbp xs.length out h0 c9 (λ i H D Y Z hi hD hH sm sR hz=>⟨⟨xs,ys,xs[i],ys[i]'(by omega),sm.seq hx,sm.seq hy,Xv hi,Xv (by omega)⟩,λ zs H' ⟨e,x,y,ez,x3,hy''⟩=>by
  subst e ez;exact⟨rfl,turn i x y _ D Y Z (x3 xs (sm.seq hx)) (hy'' ys (sm.seq hy)) hD hH sm sR hz⟩⟩) (λ H sm=>⟨xs,ys,sm.seq hx,sm.seq hy,.inl (Q5 _)⟩) fin
end
theorem zb(h:n<=100000):n<sizeLine:=Nat.lt_of_le_of_lt h (by decide)
theorem qE(h:n<=100000):n<=sizeLine:=Qr (zb h)
theorem vk{Q:VK}(e:x=y)(h:Q y H):Q x H:=e ▸ h
theorem qj{α β:Type}{f:α->β}{l:List α}{i:Nat}{y:β}(h:(l.map f)[i]?=some y):∃ x,l[i]?=some x/\y=f x:=by
 rw[Zn] at h;cases e:l[i]? with
 |none=>rw[e] at h;cases h
 |some x=>rw[e] at h;exact⟨x,rfl,(Option.some.inj h).symm⟩
theorem q0{α:Type}{l:List α}{x:α}(h:l[i]?=some x):l.take (i+1)=l.take i++[x]:=by rw[List.take_succ,h];rfl
theorem zr{α β:Type}{f:α->β}{l:List α}{x:α}(h:l[i]?=some x):(l.take (i+1)).map f=(l.take i).map f++[f x]:=by rw[q0 h,U7];rfl
theorem qaK{α β γ:Type}{f:α->β->γ}{as:List α}{bs:List β}{i:Nat}{a:α}{b:β}(h1:as[i]?=some a)(h2:bs[i]?=some b):(List.zipWith f as bs)[i]?=some (f a b):=by
 rw[List.getElem?_zipWith,h1,h2]
theorem vc{α:Type}{l:List α}{x:α}(h:l[i]?=some x):i<l.length:=(Xl.mp h).1
theorem qeN(a b:Bool):(!decide (V.bl a=V.bl b))=(a != b):=by cases a <;> cases b <;> rfl
theorem yo(a b:List Nat):qk a++qk b=qk (a++b):=by
 show(⟨a.toArray++b.toArray⟩:Str)=⟨(a++b).toArray⟩
 rw[List.append_toArray]
theorem qw(a:List Nat):(qk a).length=a.length:=by
 show a.toArray.size=a.length
 simp
theorem jL(F:List (List Nat)):Txt.join ("":Str) (F.map qk)=qk F.flatten:=by
 show(⟨((F.map qk).drop 1).foldl (λ c7 p=>c7++("":Str).cps++p.cps) ((F.map qk).headD Str.empty).cps⟩:Str)=qk F.flatten
 have e0:("":Str).cps=#[]:=by decide
 rw[e0];have gen:∀(G:List (List Nat))(c7:Array Nat),(G.map qk).foldl (λ c7 p=>c7++#[]++p.cps) c7=c7++(G.flatten).toArray:=by
  intro G;induction G with
  |nil=>intro c7;simp
  |cons g G ih =>
   intro c7;rw[Qc,U9,ih,Zs];show c7++#[]++g.toArray++G.flatten.toArray=c7++(g++G.flatten).toArray
   simp
 cases F with
 |nil=>rfl
 |cons f F =>
  show(⟨(F.map qk).foldl (λ c7 p=>c7++#[]++p.cps) f.toArray⟩:Str)=qk (f++F.flatten)
  rw[gen F f.toArray,List.append_toArray];rfl
theorem zV(F:List (List Nat)):F.map vS=(F.map qk).map V.str:=by rw[Qv];rfl
theorem qda(F:List (List Nat)):(F.map qk).map cs=F:=by
 rw[Qv]
 have:cs ∘ qk=id:=rfl
 rw[this,List.map_id]
theorem qbq(h:qk a=qk b):a=b:=congrArg cs h
theorem vY{F:List (List Nat)}:x∈F.map qk ↔ cs x∈F:=by
 rw[Qu];constructor
 ·rintro⟨a,ha,rfl⟩;exact ha
 ·intro h;exact⟨cs x,h,rfl⟩
theorem jM(F:List (List Nat)):((F.map qk).map (·.length)).sum=F.flatten.length:=by
 induction F with
 |nil=>rfl
 |cons f F ih =>
  rw[Qc,Qc,Qi,ih,qw,Zs,Zb]
theorem qeO(h1:us.Nodup)(h2:F.Nodup)(h:∀ x,x∈us ↔ cs x∈F):(qbg us).map V.str=(Fs.srt F).map vS:=by
 unfold qbg;rw[zV];have hp:(us.map cs).Perm F:=by
  refine(Xi ?_ h2).mpr λ p=>?_
  ·exact Zr.mpr (h1.imp λ{a b} E7 e=>E7 (qgQ e))
  ·rw[Qu];constructor
   ·rintro⟨x,hx,rfl⟩;exact(h x).mp hx
   ·intro hp;exact⟨qk p,(h _).mpr hp,rfl⟩
 rw[Fs.srt_perm_eq hp]
theorem vZ{us:List Str}{F:List (List Nat)}(h1:us.Nodup)(h2:F.Nodup)(h:∀ x,x∈us ↔ cs x∈F):us.length=F.length:=by
 have hp:(us.map cs).Perm F:=by
  refine(Xi ?_ h2).mpr λ p=>?_
  ·exact Zr.mpr (h1.imp λ{a b} E7 e=>E7 (qgQ e))
  ·rw[Qu];constructor
   ·rintro⟨x,hx,rfl⟩;exact(h x).mp hx
   ·intro hp;exact⟨qk p,(h _).mpr hp,rfl⟩
 rw[<- hp.length_eq,U0]
end L2
namespace Fs
structure On(ls:List Nat)(F:List Pr):Prop where
 vf:Vf F
 mem:∀ p∈F,∀ c∈p,c∈ls
theorem On.sub(h:On ls F)(hl:ls.Pairwise (·<·)):∀ p∈F,p.Sublist ls:=λ p hp=>jK hl (h.vf.prod p hp) (h.mem p hp)
theorem On.len(h:On ls F)(hl:ls.Pairwise (·<·)):F.length<=2^ls.length:=by
 rw[<- za];exact jJ h.vf.nodup λ p hp=>zJ.mpr (h.sub hl p hp)
theorem On.added{ls:List Nat}{F G:List Pr}(hF:On ls F)(hG:On ls G):On ls (added F G):=⟨qfz hF.vf hG.vf,λ p hp=>by
 rcases qcO.mp (k9.mp hp) with h|h
 ·exact hF.mem p h.1
 ·exact hG.mem p h.1⟩
theorem qdb{ls:List Nat}(h:∀ p∈F,∀ c∈p,c∈ls):∀ c∈qI F,c∈ls:=λ c hc=>by
 obtain⟨p,hp,hc⟩:=jr.mp hc;exact h p hp c hc
theorem qfQ{ls:List Nat}(hl:ls.Pairwise (·<·))(h:∀ p∈F,∀ c∈p,c∈ls):(qI F).length<=ls.length:=
 (jK hl (zG F) (qdb h)).length_le
theorem On.formOf{ls:List Nat}(hl:ls.Pairwise (·<·))(t:List Bool):On ls (formOf ls t):=⟨qd4 hl t,λ p hp c hc=>(vQ hp).subset hc⟩
theorem On.mult{ls:List Nat}{F G:List Pr}(hF:On ls F)(hG:On ls G):On ls (mult F G):=⟨qh0 F G,λ p hp c hc=>by
 have:=(vQ hp).subset hc
 refine qdb (F:=F++G) (λ q hq=>?_) c this;rcases Uy.mp hq with h|h
 ·exact hF.mem q h
 ·exact hG.mem q h⟩
theorem On.one(ls:List Nat):On ls [[]]:=⟨qjK,by simp⟩
theorem On.nil(ls:List Nat):On ls []:=⟨qm8,by simp⟩
theorem On.opp{ls:List Nat}{F:List Pr}(hF:On ls F):On ls (opp F):=hF.added (On.one ls)
theorem On.join{ls:List Nat}{F G:List Pr}(hF:On ls F)(hG:On ls G):On ls (join F G):=(hF.added hG).added (hF.mult hG)
end Fs
namespace L2
open PySem PySem.Spec PyProof.Rows
section
variable {X:Cx}
def qoj(K:W.Frag):List V->Hp->VK->Prop:=λ xs H Q=>∃(x:V)(T:String),xs=[x,.ty T]/\TyOf K H x (.type T)/\Q (.bl true) H
theorem qdc:yG X (.builtin "isinstance") (qoj X.K):=by
 intro pins s σ H xs us Q I r h;obtain⟨x,T,rfl,ty,q⟩:=h;obtain⟨u1,u2,rfl,r1,r2⟩:=qfn r;cases r2
 refine qiD (c:=.type T) I r1 ty (b:=true) ?_ λ tk=>⟨.bl true,H,I.tok tk,rfl,q⟩
 unfold W.kitOne;rw[Vy (by simp)]
theorem jN:OpR X (compareOp .In) (λ x y H Q=>∃(c:Nat)(p:List Nat),x=vS [c]/\y=vS p/\Q (.bl (decide (c∈p))) H):=by
 intro pins s σ H x y v u Q I rx ry h;obtain⟨c,p,rfl,rfl,q⟩:=h;refine qix pins s σ H _ _ v u Q I rx ry ⟨_,_,rfl,rfl,?_⟩;rw[show qk [c]=(⟨#[c]⟩:Str) from rfl,empty_one,Bool.not_not];exact q
theorem vd:OpR X (compareOp .NotIn) (λ x y H Q=>∃(c:Nat)(p:List Nat),x=vS [c]/\y=vS p/\Q (.bl (!decide (c∈p))) H):=by
 intro pins s σ H x y v u Q I rx ry h;obtain⟨c,p,rfl,rfl,q⟩:=h;refine qeC pins s σ H _ _ v u Q I rx ry ⟨_,_,rfl,rfl,?_⟩;rw[show qk [c]=(⟨#[c]⟩:Str) from rfl,empty_one,Bool.not_not];exact q
def qni:List V->Hp->VK->Prop:=λ xs H Q=>∃(p:Addr)(kvs:List (Key×V)),xs=[.ref p]/\H p=some (.dK kvs)/\∀ d,H d=none->Q (.ref d) (upd H d (.dK kvs))
theorem qfR:yG X (.type "dict") qni:=by
 intro pins s σ H xs us Q I r h;obtain⟨p,kvs,rfl,hp,q⟩:=h;obtain⟨u,rfl,ru⟩:=zT r;cases ru
 obtain⟨hz,hS,vs,rel,dd⟩:=qfp I.hok hp;refine kt_call_dict hS dd (by rw[<- rel.length];exact hz) λ h' fX hs=>?_
 have hf:=I.hok.fresh (Q5 s.heap.objs.size);have hk:∀ b o,s.heap.get? b=some o->h'.get? b=some o:=λ b o e=>(hs.2 b (Qp (Qo e))).trans (XB _ e)
 exact⟨.ref s.heap.objs.size,_,I.laid (a:=s.heap.objs.size) (o:=.dK kvs) (t':=s.toks) hk (Q5 _) (qcJ hz (Y6.mpr (Vr (Qp I.big))) rel fX),rfl,q _ hf⟩
end
structure Mk0(K:W.Frag)(C:Addr):Prop where
 makes:W.makesIn K C=true
 init:W.findIn K (.ref C) "__init__"=some (some (.builtin "object.__init__"))
 kp:W.keepIn K (.ref C)=true
def qnj(C:Addr):TE:=λ σ H Q=>∀ x dx,H x=none->H dx=none->dx≠x->Q (.ref x) (upd (upd H dx (.own x)) x (.ins C dx []))
theorem qfS {pos:Pos}(M:Mk0 X.K C)(hg:Gl X x)(hm:X.mg x=some (.ref C))(bQ:(x == ("__debug__":Str))=false:=by decide):PE X (.Call (.Name x p) [] [] pos) (qnj C):=by
 intro pins s σ H Q I h;refine Zj (qa4 I hg hm ?_ bQ);refine W.callWith_K0 I.kIn M.kp (wpAny_call (qiB I.kIn M.makes M.init (λ self=>PySem.W.Looks.of_pure (W.oi_bind self)) ?_));have Y:=W.makes_of (M:=model X.prog X.w) I.kIn M.makes;have hx:((s.heap.push W.emptyDict).push (W.instObj C s.heap.objs.size)).get? (s.heap.objs.size+1)=some (W.instObj C s.heap.objs.size):=by
  rw[<- Jr s.heap W.emptyDict];exact Yt _ rfl
 have t1:PySem.W.Looks (model X.prog X.w) ((s.heap.push W.emptyDict).push (W.instObj C s.heap.objs.size)) (typeOf (.ref (s.heap.objs.size+1))) (.ref C):=(PySem.W.Looks.ld hx).andThen .now;have t2:PySem.W.Looks (model X.prog X.w) ((s.heap.push W.emptyDict).push (W.instObj C s.heap.objs.size)) (isInstance (.ref (s.heap.objs.size+1)) (.type "object")) true:=t1.andThen (Y.top.keeps λ b o e=>XB _ (XB _ e));refine codeAny_call_builtin W.oi_plain W.entry_oi (@W.check_slot (model X.prog X.w) _ _ _ "object.__init__" "object" "__init__" (.ref (s.heap.objs.size+1)) [] [] _ W.oi_kind W.oi_split t2 (W.oi_args _) ?_);rw[W.oi_run];have hq:=h (s.heap.objs.size+1) s.heap.objs.size (I.hok.fresh (Q7 _)) (I.hok.fresh (Q5 _)) (Qp (Ud _));exact Vg (And.intro rfl ⟨.ref (s.heap.objs.size+1),_,Inv.made (C:=C) I,rfl,hq⟩)
theorem PE.or(h:PE X e t)(h':PE X e u):PE X e (λ σ H Q=>t σ H Q∨u σ H Q):=λ pins s σ H Q I hw=>hw.elim (h pins s σ H Q I) (h' pins s σ H Q I)
theorem qlO(h:qcz k v=true):qT (kV k) v:=by
 rcases zm h with⟨i,t,rfl,rfl⟩|⟨x,t,rfl,rfl⟩
 ·exact⟨t,rfl⟩
 ·exact⟨t,rfl⟩
theorem qbr:∀{xs:List α}{l:List β},Paired F xs l->∀(k:Nat)(a:α),xs[k]?=some a->∃ b,l[k]?=some b/\F a b
 |_,_,.nil,k,a,h=>by simp at h
 |_,_,.cons r t,0,a,h=>by simp at h;subst h;exact⟨_,rfl,r⟩
 |_,_,.cons r t,k+1,a,h=>qbr t k a (by simpa using h)
def qok(wi:TI2)(n:Nat)(t:TGs)(tb:TS):TS:=λ D σ H=>wi σ H λ J H1=>∃ W:Nat->Nat->St->Hp->Prop,(∃ m,W 0 m σ H1)/\∀ i m σ H,W i m σ H ->
 (J.stop i H/\D.nx σ H)∨(J.go i H/\∃ N:St->Hp->Prop,(∀ σ' H',N σ' H'->∃ m',m'<m/\W (i+1) m' σ' H')/\∀ xs H',J.yld i H xs H'->xs.length=n/\t xs σ H' λ σ2 H2=>tb { D with nx:=N,ct:=N,bk:=D.nx } σ2 H2)
theorem qbs{pos:Pos}(hp:PassesOwn (model X.prog X.w) X.A X.env X.xe)(hc:X.calm=true)(hi:PI2 X (.Tuple es k B0) iter wi)(hg:PGs X es t)(hb:PSs X body tb)(hn:(assignEach es X.env).length=n:=by rfl)(M8:(assignEach es X.env).findIdx? (·.1)=none:=by rfl)(hs:∀ x,foldedSetIterable iter X.env x=pure x:=by intro _;rfl):PS X (.For (.Tuple es k B0) iter body [] pos) (qok wi n t tb):=by
 intro pins s σ H D I h;refine wpAny_For (thn (hi pins s σ H _ I h) λ v s1 h1=>thn h1 λ hW s2 h2=>?_) hs;obtain⟨it,fp,tn,J,H2,e,I2,T,l0,f2,W,⟨m0,w0⟩,turn⟩:=h2;subst e;have T9:∀{H':Hp},(∀ b∈fp,H' b=none)->∀ b∈fp,yY X pins H' b:=λ hn b hb=>⟨hn b hb,(f2 b hb).2⟩
 refine codeAny_forLoop_any (λ n s'=>∃ i σ' H',Inv X pins σ' H' s'/\tn i s'.heap/\(∀ b∈fp,H' b=none)/\W i n σ' H') ?_ m0 ⟨0,σ,H2,I2,l0,λ b hb=>(f2 b hb).1,w0⟩;rintro n' s3 ⟨i,σ3,H3,I3,G5,aT,w3⟩;rcases turn i n' σ3 H3 w3 with⟨stop,qn⟩|⟨go,N,hN,step⟩
 ·refine Jj hp (thn (T.done X rfl rfl rfl hc i pins s3 σ3 H3 X.xe I3 (T9 aT) G5 stop) λ r s4 ⟨hr,I4⟩=>?_);subst hr;exact Ji ⟨σ3,H3,I4,qn⟩
 ·refine Jj hp (thn (T.item X rfl rfl rfl hc i pins s3 σ3 H3 X.xe I3 (T9 aT) G5 go) λ r s4 ⟨p,hr,h4⟩=>?_);subst hr;refine Jj hp (thn h4 λ _ s5 ⟨xs,us,H5,I5,ht,r5,y5,V0,oV⟩=>?_);have I5':=I5.pinned (T9 oV) (T.obj _ _ V0);obtain⟨hl,hw⟩:=step xs H5 y5;refine Jj hp (assign_Tuple_tuple (I5.ok.hd hc) ht (by simp[hn,<- hl,r5.length]) M8 λ h' hx=>?_);have I6:Inv X (pins++vH fp s5.heap) σ3 H5 { s5 with heap:=h' }:=I5'.kept (t':=s5.toks) λ b o e=>hx b o (Qp (Qo e)) e
  refine thn (hg _ _ σ3 H5 xs _ _ I6 (by simpa using r5) hw) λ _ s6 ⟨σ6,H6,I7,q6⟩=>?_
  refine Jj hp (thn (hb _ s6 σ6 H6 _ I7 q6) λ f s7 q7=>?_);have again:∀{σ7:St}{H7:Hp},Inv X (pins++vH fp s5.heap) σ7 H7 s7->N σ7 H7->∃ m,m<n'/\∃ i σ' H',Inv X pins σ' H' s7/\tn i s7.heap/\(∀ b∈fp,H' b=none)/\W i m σ' H':=λ{σ7 H7} I7 n7=>by
   obtain⟨m',hm,w7⟩:=hN σ7 H7 n7;refine⟨m',hm,i+1,σ7,H7,I7.unpinned,T.keep _ _ _ V0 λ b hb o e=>(I7.pin (b,o) (XN _ (XN _ (ym hb e)))).1,λ b hb=>?_,w7⟩;obtain⟨o,e,d⟩:=T.obj _ _ V0 b hb;exact(I7.pin (b,o) (XN _ (XN _ (ym hb e)))).2.1
  cases f with
  |next=>obtain⟨σ7,H7,I7,n7⟩:=q7;exact again I7 n7
  |cont=>obtain⟨σ7,H7,I7,n7⟩:=q7;exact again I7 n7
  |brk=>obtain⟨σ7,H7,I7,q7⟩:=q7;exact⟨σ7,H7,I7.unpinned,q7⟩
  |ret v=>obtain⟨x7,σ7,H7,I7,r7,q7⟩:=q7;exact⟨x7,σ7,H7,I7.unpinned,r7,q7⟩
end L2
namespace FsS
open PySem PyProof.Rows
noncomputable def ky(κ:KeyKind)(x:Keyed):κ.α:=(κ.keyOf x.1).getD κ.dflt
def Kd(κ:KeyKind)(x:Keyed):Prop:=∃ a,κ.keyOf x.1=some a
theorem Kd.eq(h:Kd κ x):κ.keyOf x.1=some (ky κ x):=by
 obtain⟨a,h⟩:=h;unfold ky;rw[h];rfl
noncomputable def zR:Bool->Keyed->Array Keyed->Nat->Nat->Nat->StateT SortSt Sem (Option Nat):=sortPriv% PySem.Builtin.gallop
noncomputable def bey(left:Bool)(key:Keyed)(arr:Array Keyed)(base i:Nat):StateT SortSt Sem (Option Bool):=do
 let x <- elem' arr (base+i)
 if left then lt' x key else return (<- lt' key x).map (!·)
theorem qiU(left:Bool)(key:Keyed)(arr:Array Keyed)(base n i6:Nat):zR left key arr base n i6=(do
 let mut u:=0
 let mut v:=1
 let mut p:=0
 let mut q:=0
 let some r <- bey left key arr base i6|return none
 if r then
  let m:=n-i6
  for _ in [0:n] do
   if v ≥ m then break
   let some c <- bey left key arr base (i6+v)|return none
   if !c then break
   u:=v
   v:=2*v+1
  p:=i6+u+1
  q:=i6+min v m
 else
  let m:=i6+1
  for _ in [0:n] do
   if v ≥ m then break
   let some c <- bey left key arr base (i6-v)|return none
   if c then break
   u:=v
   v:=2*v+1
  p:=i6+1-min v m
  q:=i6-u
 for _ in [0:n] do
  if p ≥ q then break
  let c:=p+(q-p) / 2
  let some d <- bey left key arr base c|return none
  if d then p:=c+1 else q:=c
 return some q):=rfl
section
variable {prog:Program}{w:World}{A:Around}{E:Value->Shared->Prop}{s:Shared}{κ:KeyKind}
theorem qQ{st:SortSt}(h:arr[i]?=some p)(hq:Q p st):wpS (model prog w) A E s (elem' arr i) Q st:=by
 rw[elem'_eq,h];exact Vo hq
theorem qdd(hO:κ.OneLt){st:SortSt}(hk:kindOf st=oneType')(hx:Kd κ x)(hy:Kd κ y)(hq:Q (some (κ.blt (ky κ x) (ky κ y))) st):wpS (model prog w) A E s (lt' x y) Q st:=by
 rw[lt'_eq];refine Vp (Vw ?_);rw[hk,keyLt'_oneType];refine Vp (wpS_lift (Qm (hO prog w A _ s x.1 y.1 _ _ hx.eq hy.eq ⟨rfl,?_⟩)));exact Vo hq
noncomputable def Bt(κ:KeyKind)(left:Bool)(key x:Keyed):Bool:=if left then κ.blt (ky κ x) (ky κ key) else !(κ.blt (ky κ key) (ky κ x))
theorem qlP(hO:κ.OneLt){st:SortSt}(hk:kindOf st=oneType')(G9:Kd κ key)(e:arr[base+i]?=some x)(hx:Kd κ x)(hq:Q (some (Bt κ left key x)) st):wpS (model prog w) A E s (bey left key arr base i) Q st:=by
 unfold bey;refine Vp (qQ e ?_);cases left with
 |true=>exact qdd hO hk hx G9 hq
 |false=>exact Vp (qdd hO hk G9 hx (Vo hq))
theorem qgY{st:SortSt}(B:Nat->Bool)(hb:∀ i,i<n->∀ R:Option Bool->SortSt->Prop,R (some (B i)) st->wpS (model prog w) A E s (bey left key arr base i) R st)(mono:∀ i j,i<=j->j<n->B j=true->B i=true)(hn:i6<n)(h:∀ k,k<=n->(∀ i,i<k->B i=true)->(∀ i,k<=i->i<n->B i=false)->Q (some k) st):wpS (model prog w) A E s (zR left key arr base n i6) Q st:=by
 have pM:∀ i j,i<=j->j<n->B i=false->B j=false:=λ i j hij hj hi=>by
  cases hB:B j with
  |false=>rfl
  |true=>rw[mono i j hij hj hB] at hi;exact absurd hi (by simp)
 have fin:∀ p q:Nat,p<=q->q<=n->(∀ i,i<p->B i=true)->(∀ i,q<=i->i<n->B i=false) ->
   wpS (model prog w) A E s (do
    let mut p:=p
    let mut q:=q
    for _ in [0:n] do
     if p ≥ q then break
     let c:=p+(q-p) / 2
     let some d <- bey left key arr base c|return none
     if d then p:=c+1 else q:=c
    return some q) Q st:=by
  intro p q iK mJ h1 h2;refine Vp (Vq (Q4 (I:=λ x c b0=>b0=st/\∃ p q,c=(none,p,q)/\p<=q/\q<=n/\q-p<=n-x/\(∀ i,i<p->B i=true)/\(∀ i,q<=i->i<n->B i=false))
   (Q:=λ c b0=>b0=st/\∃ p q,c=(none,p,q)/\q<=p/\p<=q/\q<=n/\(∀ i,i<p->B i=true)/\(∀ i,q<=i->i<n->B i=false)) ?step ?fin ⟨rfl,p,q,rfl,iK,mJ,by omega,h1,h2⟩) ?post)
  case post =>
   rintro c b0 ⟨rfl,p,q,rfl,hqp,iK,mJ,h1,h2⟩
   have:p=q:=by omega
   subst this;exact Vo (h p mJ h1 h2)
  case fin =>
   rintro c b0 ⟨rfl,p,q,rfl,iK,mJ,hm,h1,h2⟩;exact⟨rfl,p,q,rfl,by omega,iK,mJ,h1,h2⟩
  case step =>
   rintro x c b0 _ hx ⟨rfl,p,q,rfl,iK,mJ,hm,h1,h2⟩;dsimp only;by_cases hge:p ≥ q
   ·rw[Vy hge];exact Vo ⟨rfl,p,q,rfl,hge,iK,mJ,h1,h2⟩
   ·rw[Vz hge];refine Vp (hb _ (by omega) _ ?_);cases hB:B (p+(q-p) / 2) with
    |true =>
     simp only[Vv];exact Vo ⟨rfl,_,q,rfl,by omega,mJ,by omega,λ i hi=>mono i _ (by omega) (by omega) hB,h2⟩
    |false =>
     simp only[Ze,Vn];exact Vo ⟨rfl,p,_,rfl,by omega,by omega,by omega,h1,λ i hi dQ=>pM _ i hi dQ hB⟩
 rw[qiU];refine Vp (hb i6 hn _ ?_);dsimp only;cases hB:B i6 with
 |true =>
  simp only[Vv];refine Vp (Vq (Q4 (I:=λ x c b0=>b0=st/\∃ u v,c=(none,u,v)/\u<v/\x<v/\i6+u<n/\B (i6+u)=true)
   (Q:=λ c b0=>b0=st/\∃ u v,c=(none,u,v)/\u<v/\i6+u<n/\B (i6+u)=true/\(n-i6<=v∨(i6+v<n/\B (i6+v)=false))) ?step ?fin ⟨rfl,0,1,rfl,by omega,by omega,by omega,hB⟩) ?post)
  case post =>
   rintro c b0 ⟨rfl,u,v,rfl,cY,bZ,hu,hv⟩;refine fin (i6+u+1) (i6+min v (n-i6)) (by omega) (by omega) (λ i hi=>mono i _ (by omega) bZ hu) (λ i hi dQ=>?_);rcases hv with hv|⟨h1,h2⟩
   ·omega
   ·exact pM _ i (by omega) dQ h2
  case fin =>
   rintro c b0 ⟨rfl,u,v,rfl,cY,hxv,bZ,hu⟩;exact⟨rfl,u,v,rfl,cY,bZ,hu,.inl (by omega)⟩
  case step =>
   rintro x c b0 _ hx ⟨rfl,u,v,rfl,cY,hxv,bZ,hu⟩;dsimp only;by_cases hge:v ≥ n-i6
   ·rw[Vy hge];exact Vo ⟨rfl,u,v,rfl,cY,bZ,hu,.inl hge⟩
   ·rw[Vz hge];refine Vp (hb _ (by omega) _ ?_);cases hB2:B (i6+v) with
    |true =>
     simp only[Qh,Ze,Vn];exact Vo ⟨rfl,v,_,rfl,by omega,by omega,by omega,hB2⟩
    |false =>
     simp only[Bool.not_false,Vv];exact Vo ⟨rfl,u,v,rfl,cY,bZ,hu,.inr ⟨by omega,hB2⟩⟩
 |false =>
  simp only[Ze,Vn];refine Vp (Vq (Q4 (I:=λ x c b0=>b0=st/\∃ u v,c=(none,u,v)/\u<v/\x<v/\u<=i6/\B (i6-u)=false)
   (Q:=λ c b0=>b0=st/\∃ u v,c=(none,u,v)/\u<v/\u<=i6/\B (i6-u)=false/\(i6+1<=v∨(v<=i6/\B (i6-v)=true))) ?step ?fin ⟨rfl,0,1,rfl,by omega,by omega,by omega,hB⟩) ?post)
  case post =>
   rintro c b0 ⟨rfl,u,v,rfl,cY,bZ,hu,hv⟩;refine fin (i6+1-min v (i6+1)) (i6-u) (by omega) (by omega) (λ i hi=>?_) (λ i hi dQ=>pM _ i hi dQ hu);rcases hv with hv|⟨h1,h2⟩
   ·omega
   ·exact mono i _ (by omega) (by omega) h2
  case fin =>
   rintro c b0 ⟨rfl,u,v,rfl,cY,hxv,bZ,hu⟩;exact⟨rfl,u,v,rfl,cY,bZ,hu,.inl (by omega)⟩
  case step =>
   rintro x c b0 _ hx ⟨rfl,u,v,rfl,cY,hxv,bZ,hu⟩;dsimp only;by_cases hge:v ≥ i6+1
   ·rw[Vy hge];exact Vo ⟨rfl,u,v,rfl,cY,bZ,hu,.inl hge⟩
   ·rw[Vz hge];refine Vp (hb _ (by omega) _ ?_);cases hB2:B (i6-v) with
    |false =>
     simp only[Ze,Vn];exact Vo ⟨rfl,v,_,rfl,by omega,by omega,by omega,hB2⟩
    |true =>
     simp only[Vv];exact Vo ⟨rfl,u,v,rfl,cY,bZ,hu,.inr ⟨by omega,hB2⟩⟩
end
structure MI{α:Type}(r:α->α->Prop)(la lb O:List α)(i j:Nat):Prop where
 sa:(O++la.drop i).Pairwise r
 sb:(O++lb.drop j).Pairwise r
 pm:(O++(la.drop i++lb.drop j)).Perm (la++lb)
theorem MI.takeA{r:α->α->Prop}{la lb O:List α}(h:MI r la lb O i j){X:List α}(e:la.drop i=X++la.drop i')(hx:∀ x∈X,∀ y∈lb.drop j,r x y):MI r la lb (O++X) i' j:=by
 have h1:=h.sa;rw[e,<- Zx] at h1;have h2:=Yk.mp h.sb;refine⟨h1,Yk.mpr ⟨(Yk.mp h1).1,h2.2.1,λ x x3 y hy=>?_⟩,?_⟩
 ·rcases Uy.mp x3 with hO | hX
  ·exact h2.2.2 x hO y hy
  ·exact hx x hX y hy
 ·have:=h.pm
  rw[e] at this;simpa [Zx] using this
theorem MI.takeB{r:α->α->Prop}{la lb O:List α}(h:MI r la lb O i j){X:List α}(e:lb.drop j=X++lb.drop j')(hx:∀ x∈X,∀ y∈la.drop i,r x y):MI r la lb (O++X) i j':=by
 have h1:=h.sb;rw[e,<- Zx] at h1;have h2:=Yk.mp h.sa;refine⟨Yk.mpr ⟨(Yk.mp h1).1,h2.2.1,λ x x3 y hy=>?_⟩,h1,?_⟩
 ·rcases Uy.mp x3 with hO | hX
  ·exact h2.2.2 x hO y hy
  ·exact hx x hX y hy
 ·have:=h.pm
  rw[e] at this;rw[Zx];exact((Xg X (la.drop i) (lb.drop j')).append_left O).trans this
def Gd{α:Type}(r:α->α->Prop)(la lb:List α)(o:List α):Prop:=o.Pairwise r/\o.Perm (la++lb)
theorem MI.endB{r:α->α->Prop}{la lb O:List α}(h:MI r la lb O i j)(e:lb.length<=j):Gd r la lb (O++la.drop i++lb.drop j):=by
 have:=h.sa
 have hp:=h.pm;rw[XG e] at hp ⊢;rw[U1] at hp ⊢;exact⟨this,hp⟩
theorem MI.endA{r:α->α->Prop}{la lb O:List α}(h:MI r la lb O i j)(e:la.length<=i):Gd r la lb (O++la.drop i++lb.drop j):=by
 have:=h.sb
 have hp:=h.pm;rw[XG e] at hp ⊢;rw[U5] at hp;rw[U1];exact⟨this,hp⟩
theorem MI.last{r:α->α->Prop}{la lb O:List α}(h:MI r la lb O i j)(hl:∀ x∈la.drop i,∀ y∈lb,r y x):Gd r la lb (O++lb.drop j++la.drop i):=by
 have ha:=Yk.mp h.sa;refine⟨Yk.mpr ⟨h.sb,ha.2.1,λ x hx y hy=>?_⟩,?_⟩
 ·rcases Uy.mp hx with hO | hX
  ·exact ha.2.2 x hO y hy
  ·exact hl y hy x (Yl hX)
 ·rw[Zx];exact((List.perm_append_comm).append_left O).trans h.pm
theorem yc{α:Type}{l:List α}{x:α}(h:l[i]?=some x):l.drop i=[x]++l.drop (i+1):=by
 obtain⟨hi,e⟩:=Xl.mp h;rw[Xq hi,e];rfl
theorem drop_take{α:Type}(l:List α)(i k:Nat):l.drop i=(l.drop i).take k++l.drop (i+k):=by
 have:=(XU k (l.drop i)).symm
 rwa [Jy] at this
abbrev kl(κ:KeyKind)(x y:Keyed):Prop:=κ.kle (ky κ x) (ky κ y)
abbrev So(κ:KeyKind)(l:List Keyed):Prop:=l.Pairwise (kl κ)
section
variable {prog:Program}{w:World}{A:Around}{E:Value->Shared->Prop}{s:Shared}{κ:KeyKind}
theorem qlQ(h:kl κ x y)(hy:Bt κ left key y=true):Bt κ left key x=true:=by
 cases left with
 |true=>exact KeyOrd.klt_of_kle_of_klt h hy
 |false =>
  have sR:κ.blt (ky κ key) (ky κ y)=false:=by simpa [Bt] using hy
  have:κ.kle (ky κ x) (ky κ key):=Um h sR
  show(!(κ.blt (ky κ key) (ky κ x)))=true
  rw[show κ.blt (ky κ key) (ky κ x)=false from this];rfl
theorem BtF(h:Bt κ false key x=true):kl κ x key:=by
 have:κ.blt (ky κ key) (ky κ x)=false:=by simpa [Bt] using h
 exact this
theorem qnk(h:Bt κ false key x=false):kl κ key x:=by
 have:κ.blt (ky κ key) (ky κ x)=true:=by simpa [Bt] using h
 exact Zz this
theorem BtT(h:Bt κ true key x=true):kl κ x key:=Zz h
theorem qlR(h:Bt κ true key x=false):kl κ key x:=h
theorem yd(hO:κ.OneLt){st:SortSt}(fS:List Keyed)(es:(arr.toList.drop base).take n=fS)(hk:kindOf st=oneType')(G9:Kd κ key)(hs:base+n<=arr.size)(hd:∀ x∈fS,Kd κ x)(so:So κ fS)(hn:i6<n)(h:∀ k,k<=n->(∀ x∈fS.take k,Bt κ left key x=true)->(∀ x∈fS.drop k,Bt κ left key x=false)->Q (some k) st):wpS (model prog w) A E s (zR left key arr base n i6) Q st:=by
 have ln:fS.length=n:=by rw[<- es,Ue,Uf,Ys];omega
 have at_:∀ i,(hi:i<n)->arr[base+i]?=some (fS[i]'(by omega)):=λ i hi=>by
  have:fS[i]?=some (fS[i]'(by omega)):=Xv _
  rw[<- this,<- es,Xt hi,Zf,XS]
 refine qgY (λ i=>if hi:i<n then Bt κ left key (fS[i]'(by omega)) else false) ?_ ?_ hn ?_
 ·intro i hi R hR;rw[Vx hi] at hR;exact qlP hO hk G9 (at_ i hi) (hd _ (Uk _)) hR
 ·intro i j hij hj hB;rw[Vx hj] at hB;rw[Vx (by omega)];rcases Qy i j with i7 | hge
  ·exact qlQ (Xr.mp so i j (by omega) (by omega) i7) hB
  ·have:i=j:=by omega
   subst this;exact hB
 ·intro k oE h1 h2;refine h k oE (λ x hx=>?_) (λ x hx=>?_)
  ·obtain⟨i,hi,rfl⟩:=Yw hx;rw[Ue] at hi
   have:=h1 i (by omega)
   rw[Vx (by omega)] at this;rw[Z0];exact this
  ·obtain⟨i,hi,rfl⟩:=Yw hx;rw[Uf] at hi
   have:=h2 (k+i) (by omega) (by omega)
   rw[Vx (by omega)] at this;rw[List.getElem_drop];exact this
end
noncomputable abbrev ve(st:SortSt)(g:Nat):SortSt:=SortSt.mk' (kindOf st) (arrOf st) (pendingOf st) g (failedOf st)
abbrev SM:=StateT SortSt Sem
noncomputable def qde:Array Keyed->Array Keyed->SM (Array Keyed):=sortPriv% PySem.Builtin.mergeLo
noncomputable def qiV(g:Nat):SM Unit:=modify λ st=>ve st g
noncomputable def kc(a b o:Array Keyed)(i j:Nat):Array Keyed:=o++a.extract i a.size++b.extract j b.size
noncomputable def qeP(a b o:Array Keyed)(i j:Nat):Array Keyed:=o++b.extract j b.size++a.extract i a.size
abbrev C1:=Option (Array Keyed)×Array Keyed×Nat×Nat×Nat×Nat
abbrev C2:=Option (Array Keyed)×Array Keyed×Nat×Nat×Nat×Nat×Nat
abbrev C0:=Option (Array Keyed)×Array Keyed×Nat×Nat×Nat
noncomputable def lo3(a b o:Array Keyed)(i j g p q:Nat):SM (ForInStep C2):=do
 let x <- elem' a i
 if i+1+1 == a.size then pure (.done (some (qeP a b (o.push x) (i+1) j),o.push x,i+1,j,g,p,q))
 else if p<7 && q<7 then pure (.done (none,o.push x,i+1,j,g,p,q))
 else pure (.yield (none,o.push x,i+1,j,g,p,q))
noncomputable def lo2(a b o:Array Keyed)(i j g p q:Nat):SM (ForInStep C2):=do
 let x <- elem' b j
 if j+1 == b.size then pure (.done (some (kc a b (o.push x) i (j+1)),o.push x,i,j+1,g,p,q))
 else do
  let y <- elem' a i
  let c <- zR true y b (j+1) (b.size-(j+1)) 0
  match c with
  |some k =>
   if k > 0 then
    if j+1+k == b.size then pure (.done (some (kc a b (o.push x++b.extract (j+1) (j+1+k)) i (j+1+k)),o.push x++b.extract (j+1) (j+1+k),i,j+1+k,g,p,k))
    else lo3 a b (o.push x++b.extract (j+1) (j+1+k)) i (j+1+k) g p k
   else lo3 a b (o.push x) i (j+1) g p k
  |_=>pure (.done (some (kc a b (o.push x) i (j+1)),o.push x,i,j+1,g,p,q))
noncomputable def lo1(a b o:Array Keyed)(i j g p q:Nat):SM (ForInStep C2):=do
 qiV g
 let x <- elem' b j
 let c <- zR false x a i (a.size-i) 0
 match c with
 |some k =>
  if k > 0 then
   if i+k+1 == a.size then pure (.done (some (qeP a b (o++a.extract i (i+k)) (i+k) j),o++a.extract i (i+k),i+k,j,g,k,q))
   else if i+k == a.size then pure (.done (some (kc a b (o++a.extract i (i+k)) (i+k) j),o++a.extract i (i+k),i+k,j,g,k,q))
   else lo2 a b (o++a.extract i (i+k)) (i+k) j g k q
  else lo2 a b o i j g k q
 |_=>pure (.done (some (kc a b o i j),o,i,j,g,p,q))
noncomputable def lo0(a b:Array Keyed)(g:Nat)(r:C1):SM (ForInStep C1):=do
 let y <- elem' b r.2.2.2.1
 let x <- elem' a r.2.2.1
 let c <- lt' y x
 match c with
 |some c =>
  if c then do
   let z <- elem' b r.2.2.2.1
   if r.2.2.2.1+1 == b.size then pure (.done (some (kc a b (r.2.1.push z) r.2.2.1 (r.2.2.2.1+1)),r.2.1.push z,r.2.2.1,r.2.2.2.1+1,0,r.2.2.2.2.2+1))
   else if r.2.2.2.2.2+1 ≥ g then pure (.done (none,r.2.1.push z,r.2.2.1,r.2.2.2.1+1,0,r.2.2.2.2.2+1))
   else pure (.yield (none,r.2.1.push z,r.2.2.1,r.2.2.2.1+1,0,r.2.2.2.2.2+1))
  else do
   let z <- elem' a r.2.2.1
   if r.2.2.1+1+1 == a.size then pure (.done (some (qeP a b (r.2.1.push z) (r.2.2.1+1) r.2.2.2.1),r.2.1.push z,r.2.2.1+1,r.2.2.2.1,r.2.2.2.2.1+1,0))
   else if r.2.2.2.2.1+1 ≥ g then pure (.done (none,r.2.1.push z,r.2.2.1+1,r.2.2.2.1,r.2.2.2.2.1+1,0))
   else pure (.yield (none,r.2.1.push z,r.2.2.1+1,r.2.2.2.1,r.2.2.2.2.1+1,0))
 |_=>pure (.done (some (kc a b r.2.1 r.2.2.1 r.2.2.2.1),r.2.1,r.2.2.1,r.2.2.2.1,r.2.2.2.2.1,r.2.2.2.2.2))
theorem qgZ(a b:Array Keyed):qde a b=(do
 rule "list.sort.merge-lo"
 let t:=a.size+b.size
 let mut o:Array Keyed:=#[<- elem' b 0]
 let mut i:=0
 let mut j:=1
 if j == b.size then return kc a b o i j
 if i+1 == a.size then return qeP a b o i j
 let mut g:=gallopOf (<- get)
 for _ in [0:t] do
  let mut p:=0
  let mut q:=0
  for _ in [0:t] do
   let some c <- lt' (<- elem' b j) (<- elem' a i)|return kc a b o i j
   if c then
    o:=o.push (<- elem' b j);j:=j+1;q:=q+1;p:=0
    if j == b.size then return kc a b o i j
    if q ≥ g then break
   else
    o:=o.push (<- elem' a i);i:=i+1;p:=p+1;q:=0
    if i+1 == a.size then return qeP a b o i j
    if p ≥ g then break
  rule "list.sort.gallop"
  g:=g+1
  for _ in [0:t] do
   if g > 1 then g:=g-1
   qiV g
   let some k <- zR false (<- elem' b j) a i (a.size-i) 0|return kc a b o i j
   p:=k
   if k > 0 then
    o:=o++a.extract i (i+k);i:=i+k
    if i+1 == a.size then return qeP a b o i j
    if i == a.size then return kc a b o i j
   o:=o.push (<- elem' b j);j:=j+1
   if j == b.size then return kc a b o i j
   let some k <- zR true (<- elem' a i) b j (b.size-j) 0|return kc a b o i j
   q:=k
   if k > 0 then
    o:=o++b.extract j (j+k);j:=j+k
    if j == b.size then return kc a b o i j
   o:=o.push (<- elem' a i);i:=i+1
   if i+1 == a.size then return qeP a b o i j
   if p<7 && q<7 then break
  g:=g+1
  qiV g
 unsupported "internal:list.sort.merge-bound"):=rfl
def Ok{γ:Type}(κ:KeyKind)(a b:Array Keyed)(st:SortSt)(m:Nat)(c:Option (Array Keyed)×Array Keyed×Nat×Nat×γ)(b0:SortSt):Prop:=
 (∃ g,b0=ve st g)/\((∃ r,c.1=some r/\Gd (kl κ) a.toList b.toList r.toList)∨(c.1=none/\MI (kl κ) a.toList b.toList c.2.1.toList c.2.2.1 c.2.2.2.1/\c.2.2.1+1<a.size/\c.2.2.2.1<b.size/\m<=c.2.2.1+c.2.2.2.1))
def qbR{γ:Type}(κ:KeyKind)(a b:Array Keyed)(st:SortSt)(m:Nat):ForInStep (Option (Array Keyed)×Array Keyed×Nat×Nat×γ)->SortSt->Prop
 |.done c,b0=>Ok κ a b st m c b0
 |.yield c,b0=>Ok κ a b st m c b0/\c.1=none
theorem qcp(a:Array Keyed)(i:Nat):(a.extract i a.size).toList=a.toList.drop i:=by
 rw[Yj,Xp];exact XF (by rw[Uf,Ys];exact Q5 _)
theorem qfT(a:Array Keyed)(i k:Nat):(a.extract i (i+k)).toList=(a.toList.drop i).take k:=by
 rw[Yj,Xp,X7]
theorem qdf(a b o:Array Keyed)(i j:Nat):(kc a b o i j).toList=o.toList++a.toList.drop i++b.toList.drop j:=by
 unfold kc;rw[Yy,Yy,qcp,qcp]
theorem qeQ(a b o:Array Keyed)(i j:Nat):(qeP a b o i j).toList=o.toList++b.toList.drop j++a.toList.drop i:=by
 unfold qeP;rw[Yy,Yy,qcp,qcp]
theorem qbt{a:Array Keyed}(h:i<a.size):a.toList[i]?=some a[i]:=by
 rw[XS];exact getElem?_pos a i h
section
variable {prog:Program}{w:World}{A:Around}{E:Value->Shared->Prop}{s:Shared}{κ:KeyKind}{a b:Array Keyed}{st:SortSt}
variable (hO:κ.OneLt)(hk:kindOf st=oneType')(ka:∀ x∈a.toList,Kd κ x)(kb:∀ x∈b.toList,Kd κ x)(hl:∀ x∈a.toList.drop (a.size-1),∀ y∈b.toList,kl κ y x)
include hO hk ka kb hl
theorem qcq(e:i+1=a.size):∀ x∈a.toList.drop i,∀ y∈b.toList,kl κ y x:=by
 have:a.size-1=i:=by omega
 rw[<- this];exact hl
theorem MI.headA(m:MI (kl κ) a.toList b.toList O i j)(hi:i<a.size):∀ y∈a.toList.drop i,kl κ a[i] y:=by
 have:=(Yk.mp m.sa).2.1
 rw[yc (qbt hi)] at this ⊢;intro y hy;rcases Uy.mp hy with h|h
 ·rw[Zg.mp h];exact Jc _
 ·exact(Zc.mp this).1 y h
theorem MI.headB(m:MI (kl κ) a.toList b.toList O i j)(hj:j<b.size):∀ y∈b.toList.drop j,kl κ b[j] y:=by
 have:=(Yk.mp m.sb).2.1
 rw[yc (qbt hj)] at this ⊢;intro y hy;rcases Uy.mp hy with h|h
 ·rw[Zg.mp h];exact Jc _
 ·exact(Zc.mp this).1 y h
theorem qj7(hs:∃ g,b0=ve st g)(mi:MI (kl κ) a.toList b.toList o.toList i j)(hi:i+1<a.size)(hj:j<b.size)(hm:m<=i+j)(hx:∀ y∈b.toList.drop j,kl κ a[i] y):wpS (model prog w) A E s (lo3 a b o i j g p q) (qbR κ a b st m) b0:=by
 unfold lo3;refine Vp (qQ (p:=a[i]) (getElem?_pos a i (by omega)) ?_);have C6:MI (kl κ) a.toList b.toList (o.push a[i]).toList (i+1) j:=by
  rw[Zu];exact mi.takeA (yc (qbt (by omega))) (λ x x3 y hy=>by rw[Zg.mp x3];exact hx y hy)
 by_cases h1:i+1+1=a.size
 ·rw[Vy (by simpa using h1)];refine Vo ⟨hs,.inl ⟨_,rfl,?_⟩⟩;rw[qeQ];exact C6.last (qcq hO hk ka kb hl h1)
 ·rw[Vz (by simpa using h1)];by_cases h2:(decide (p<7) && decide (q<7))=true
  ·rw[Vy h2];exact Vo ⟨hs,.inr ⟨rfl,C6,by show i+1+1<a.size;omega,hj,by show m<=i+1+j;omega⟩⟩
  ·rw[Vz h2];exact Vo ⟨⟨hs,.inr ⟨rfl,C6,by show i+1+1<a.size;omega,hj,by show m<=i+1+j;omega⟩⟩,rfl⟩
theorem qj8(hs:∃ g,b0=ve st g)(mi:MI (kl κ) a.toList b.toList o.toList i j)(hi:i+1<a.size)(hj:j<b.size)(hm:m<=i+j)(hx:∀ y∈a.toList.drop i,kl κ b[j] y):wpS (model prog w) A E s (lo2 a b o i j g p q) (qbR κ a b st m) b0:=by
 unfold lo2;refine Vp (qQ (p:=b[j]) (getElem?_pos b j (by omega)) ?_);have C6:MI (kl κ) a.toList b.toList (o.push b[j]).toList i (j+1):=by
  rw[Zu];exact mi.takeB (yc (qbt (by omega))) (λ x x3 y hy=>by rw[Zg.mp x3];exact hx y hy)
 by_cases h1:j+1=b.size
 ·rw[Vy (by simpa using h1)];refine Vo ⟨hs,.inl ⟨_,rfl,?_⟩⟩;rw[qdf];exact C6.endB (by rw[Ys];omega)
 ·rw[Vz (by simpa using h1)];refine Vp (qQ (p:=a[i]) (getElem?_pos a i (by omega)) ?_);have N0:kindOf b0=oneType':=by obtain⟨g,rfl⟩:=hs;exact hk
  refine Vp (yd hO (b.toList.drop (j+1)) (XF (by rw[Uf,Ys];exact Q5 _)) N0 (ka _ (by simp)) (by omega) (λ x hx=>kb x (Yl hx)) ((Yk.mp C6.sb).2.1) (by omega) λ k oE k1 k2=>?_);have ha:=mi.headA hO hk ka kb hl (show i<a.size by omega);have mk:MI (kl κ) a.toList b.toList (o.push b[j]++b.extract (j+1) (j+1+k)).toList i (j+1+k):=by
   rw[Yy,qfT];exact C6.takeB (drop_take _ _ _) λ x hx y hy=>Um (BtT (k1 x hx)) (ha y hy)
  have iA:∀ y∈b.toList.drop (j+1+k),kl κ a[i] y:=λ y hy=>qlR (k2 y (by rw[Jy];exact hy))
  dsimp only;by_cases hk0:k > 0
  ·rw[Vy hk0];by_cases h3:j+1+k=b.size
   ·rw[Vy (by simpa using h3)];refine Vo ⟨hs,.inl ⟨_,rfl,?_⟩⟩;rw[qdf];exact mk.endB (by rw[Ys];omega)
   ·rw[Vz (by simpa using h3)];exact qj7 hO hk ka kb hl hs mk hi (by omega) (by omega) iA
  ·rw[Vz hk0]
   have:k=0:=by omega
   subst this;exact qj7 hO hk ka kb hl hs C6 hi (by omega) (by omega) iA
theorem qj9(hs:∃ g,b0=ve st g)(mi:MI (kl κ) a.toList b.toList o.toList i j)(hi:i+1<a.size)(hj:j<b.size)(hm:m<=i+j):wpS (model prog w) A E s (lo1 a b o i j g p q) (qbR κ a b st m) b0:=by
 unfold lo1;refine Vp (Vl ?_);have G2:∃ g',ve b0 g=ve st g':=by obtain⟨g1,rfl⟩:=hs;exact⟨g,rfl⟩
 have N0:kindOf (ve b0 g)=oneType':=by obtain⟨g1,rfl⟩:=hs;exact hk
 refine Vp (qQ (p:=b[j]) (getElem?_pos b j (by omega)) ?_);refine Vp (yd hO (a.toList.drop i) (XF (by rw[Uf,Ys];exact Q5 _)) N0 (kb _ (by simp)) (by omega) (λ x hx=>ka x (Yl hx)) ((Yk.mp mi.sa).2.1) (by omega) λ k oE k1 k2=>?_);have hb:=mi.headB hO hk ka kb hl hj;have mk:MI (kl κ) a.toList b.toList (o++a.extract i (i+k)).toList (i+k) j:=by
  rw[Yy,qfT];exact mi.takeA (drop_take _ _ _) λ x hx y hy=>Um (BtF (k1 x hx)) (hb y hy)
 have sT:∀ y∈a.toList.drop (i+k),kl κ b[j] y:=λ y hy=>qnk (k2 y (by rw[Jy];exact hy))
 dsimp only;by_cases hk0:k > 0
 ·rw[Vy hk0];by_cases h3:i+k+1=a.size
  ·rw[Vy (by simpa using h3)];refine Vo ⟨G2,.inl ⟨_,rfl,?_⟩⟩;rw[qeQ];exact mk.last (qcq hO hk ka kb hl h3)
  ·rw[Vz (by simpa using h3)];by_cases h4:i+k=a.size
   ·rw[Vy (by simpa using h4)];refine Vo ⟨G2,.inl ⟨_,rfl,?_⟩⟩;rw[qdf];exact mk.endA (by rw[Ys];omega)
   ·rw[Vz (by simpa using h4)];exact qj8 hO hk ka kb hl G2 mk (by omega) hj (by omega) sT
 ·rw[Vz hk0]
  have:k=0:=by omega
  subst this;exact qj8 hO hk ka kb hl G2 mi hi hj hm sT
theorem qnl(ok:Ok κ a b st m r b0)(hn:r.1=none):wpS (model prog w) A E s (lo0 a b g r) (qbR κ a b st (m+1)) b0:=by
 obtain⟨v,o,i,j,p,q⟩:=r;obtain⟨hs,⟨r,h1,h2⟩|⟨_,mi,hi,hj,hm⟩⟩:=ok
 ·rw[hn] at h1;cases h1
 change MI (kl κ) a.toList b.toList o.toList i j at mi
 change i+1<a.size at hi
 change j<b.size at hj
 change m<=i+j at hm
 unfold lo0;dsimp only;have N0:kindOf b0=oneType':=by obtain⟨g,rfl⟩:=hs;exact hk
 refine Vp (qQ (p:=b[j]) (getElem?_pos b j (by omega)) ?_);refine Vp (qQ (p:=a[i]) (getElem?_pos a i (by omega)) ?_);refine Vp (qdd hO N0 (kb _ (by simp)) (ka _ (by simp)) ?_);dsimp only;cases hc:κ.blt (ky κ b[j]) (ky κ a[i]) with
 |true =>
  rw[Vy rfl];refine Vp (qQ (p:=b[j]) (getElem?_pos b j (by omega)) ?_);have ha:=mi.headA hO hk ka kb hl (show i<a.size by omega);have C6:MI (kl κ) a.toList b.toList (o.push b[j]).toList i (j+1):=by
   rw[Zu];exact mi.takeB (yc (qbt (by omega))) (λ x x3 y hy=>by rw[Zg.mp x3];exact Um (Zz hc) (ha y hy))
  by_cases h1:j+1=b.size
  ·rw[Vy (by simpa using h1)];refine Vo ⟨hs,.inl ⟨_,rfl,?_⟩⟩;rw[qdf];exact C6.endB (by rw[Ys];omega)
  ·rw[Vz (by simpa using h1)];by_cases h2:q+1 ≥ g
   ·rw[Vy h2];exact Vo ⟨hs,.inr ⟨rfl,C6,hi,by show j+1<b.size;omega,by show m+1<=i+(j+1);omega⟩⟩
   ·rw[Vz h2];exact Vo ⟨⟨hs,.inr ⟨rfl,C6,hi,by show j+1<b.size;omega,by show m+1<=i+(j+1);omega⟩⟩,rfl⟩
 |false =>
  rw[Vz (by simp)];refine Vp (qQ (p:=a[i]) (getElem?_pos a i (by omega)) ?_);have hb:=mi.headB hO hk ka kb hl hj;have C6:MI (kl κ) a.toList b.toList (o.push a[i]).toList (i+1) j:=by
   rw[Zu];exact mi.takeA (yc (qbt (by omega))) (λ x x3 y hy=>by rw[Zg.mp x3];exact Um hc (hb y hy))
  by_cases h1:i+1+1=a.size
  ·rw[Vy (by simpa using h1)];refine Vo ⟨hs,.inl ⟨_,rfl,?_⟩⟩;rw[qeQ];exact C6.last (qcq hO hk ka kb hl h1)
  ·rw[Vz (by simpa using h1)];by_cases h2:p+1 ≥ g
   ·rw[Vy h2];exact Vo ⟨hs,.inr ⟨rfl,C6,by show i+1+1<a.size;omega,hj,by show m+1<=i+1+j;omega⟩⟩
   ·rw[Vz h2];exact Vo ⟨⟨hs,.inr ⟨rfl,C6,by show i+1+1<a.size;omega,hj,by show m+1<=i+1+j;omega⟩⟩,rfl⟩
end
section
variable {prog:Program}{w:World}{A:Around}{E:Value->Shared->Prop}{s:Shared}{κ:KeyKind}{a b:Array Keyed}{st:SortSt}
theorem Ok.mono{c:Option (Array Keyed)×Array Keyed×Nat×Nat×γ}(h:Ok κ a b st m c b0)(hm:m'<=m):Ok κ a b st m' c b0:=by
 obtain⟨hs,h|⟨h1,h2,h3,h4,h5⟩⟩:=h
 ·exact⟨hs,.inl h⟩
 ·exact⟨hs,.inr ⟨h1,h2,h3,h4,Qq hm h5⟩⟩
theorem qfU(hO:κ.OneLt)(hk:kindOf st=oneType')(ka:∀ x∈a.toList,Kd κ x)(kb:∀ x∈b.toList,Kd κ x)(h0:MI (kl κ) a.toList b.toList [] 0 0)(a1:0<a.size)(b1:0<b.size)(hd:∀ y∈a.toList,kl κ b[0] y)(hl:∀ x∈a.toList.drop (a.size-1),∀ y∈b.toList,kl κ y x)(h:∀(o:Array Keyed)(g:Nat),Gd (kl κ) a.toList b.toList o.toList->Q o (ve st g)):wpS (model prog w) A E s (qde a b) Q st:=by
 rw[qgZ];refine Vp (wpS_lift (Vk ⟨rfl,?_⟩));refine Vp (qQ (p:=b[0]) (getElem?_pos b 0 b1) ?_);dsimp only;have mi:MI (kl κ) a.toList b.toList (#[b[0]]:Array Keyed).toList 0 1:=by
  have:=h0.takeB (yc (qbt b1)) (λ x hx y hy=>by rw[Zg.mp hx];exact hd y (Yl hy))
  simpa using this
 by_cases h1:1=b.size
 ·rw[Vy (by simpa using h1)];refine Vo (h _ (gallopOf st) ?_);rw[qdf];exact mi.endB (by rw[Ys];omega)
 rw[Vz (by simpa using h1)];by_cases h2:0+1=a.size
 ·rw[Vy (by simpa using h2)];refine Vo (h _ (gallopOf st) ?_);rw[qeQ];exact mi.last (qcq hO hk ka kb hl h2)
 rw[Vz (by simpa using h2)];refine Vp (Vw ?_);refine Vp (Vq (Q4 (I:=λ x (c:C0) b0=>Ok κ a b st (x+1) c b0/\c.1=none) (Q:=λ c b0=>Ok κ a b st 0 c b0/\c.1≠none) ?step ?fin ⟨⟨⟨gallopOf st,rfl⟩,.inr ⟨rfl,mi,by show 0+1<a.size;omega,by show 1<b.size;omega,by show 0+1<=0+1;omega⟩⟩,rfl⟩) ?post)
 case post =>
  rintro⟨v,c⟩ b0 ⟨⟨⟨g,rfl⟩,ok⟩,hv⟩;rcases ok with⟨r,e,gd⟩|⟨e,_⟩
  ·cases e
   exact Vo (h r g gd)
  ·exact absurd e hv
 case fin =>
  rintro⟨v,o,i,j,g⟩ b0 ⟨⟨hs,ok⟩,hv⟩;rcases ok with⟨r,e,gd⟩|⟨e,_,hi,hj,hm⟩
  ·rw[hv] at e;cases e
  ·change i+1<a.size at hi
   change j<b.size at hj
   change _<=i+j at hm
   omega
 case step =>
  rintro x c b0 _ hx ⟨ok,hn⟩;obtain⟨v,o,i,j,g⟩:=c;cases hn
  have ok1:Ok κ a b st (x+1) ((none,o,i,j,0,0):C1) b0:=ok;refine Vp (Vq (Q4 (I:=λ y (c:C1) b0=>Ok κ a b st (x+1+y) c b0/\c.1=none) (Q:=λ c b0=>Ok κ a b st (x+2) c b0) ?istep ?ifin ⟨ok1,rfl⟩) ?ipost)
  case istep =>
   rintro y c l0 _ hy ⟨O2,dI⟩;refine Vq (show wpS (model prog w) A E s (lo0 a b g c) (qbR κ a b st (x+1+y+1)) l0 from qnl hO hk ka kb hl O2 dI) λ r G5 hr=>?_
   cases r with
   |done c=>exact Ok.mono hr (by omega)
   |yield c=>exact hr
  case ifin =>
   rintro⟨v,o,i,j,p,q⟩ l0 ⟨⟨hs,O2⟩,hv⟩;rcases O2 with⟨r,e,gd⟩|⟨e,_,hi,hj,hm⟩
   ·rw[hv] at e;cases e
   ·change i+1<a.size at hi
    change j<b.size at hj
    change _<=i+j at hm
    omega
  case ipost =>
   rintro⟨v,o,i,j,p,q⟩ l0 ⟨hs,O2⟩;dsimp only;cases v with
   |some v =>
    rcases O2 with⟨r,e,gd⟩|⟨e,_⟩
    ·cases e
     exact Vo ⟨⟨hs,.inl ⟨_,rfl,gd⟩⟩,by simp⟩
    ·cases e
   |none =>
    dsimp only;refine Vp (wpS_lift (Vk ⟨rfl,?_⟩));have ok3:Ok κ a b st (x+2) ((none,o,i,j,g+1,p,q):C2) l0:=⟨hs,O2⟩;refine Vp (Vq (Q4 (I:=λ y (c:C2) b0=>Ok κ a b st (x+2) c b0/\c.1=none) (Q:=λ c b0=>Ok κ a b st (x+2) c b0) ?jstep ?jfin ⟨ok3,rfl⟩) ?jpost)
    case jfin=>exact λ c b0 hc=>hc.1
    case jstep =>
     rintro y ⟨v,o,i,j,g,p,q⟩ G5 _ hy ⟨⟨hs,gS⟩,hn⟩;have tN:v=none:=hn;subst tN;rcases gS with⟨r,e,gd⟩|⟨_,mi,hi,hj,hm⟩
     ·cases e
     change MI (kl κ) a.toList b.toList o.toList i j at mi
     change i+1<a.size at hi
     change j<b.size at hj
     change _<=i+j at hm
     refine Vq (Q:=qbR κ a b st (x+2)) ?_ λ r G5 hr=>?_
     ·by_cases hg:g > 1
      ·dsimp only;rw[Vy hg];show wpS (model prog w) A E s (lo1 a b o i j (g-1) p q) _ _
       exact qj9 hO hk ka kb hl hs mi hi hj hm
      ·dsimp only;rw[Vz hg];show wpS (model prog w) A E s (lo1 a b o i j g p q) _ _
       exact qj9 hO hk ka kb hl hs mi hi hj hm
     ·cases r with
      |done c=>exact hr
      |yield c=>exact hr
    case jpost =>
     rintro⟨v,o,i,j,g,p,q⟩ G5 ⟨hs,gS⟩;dsimp only;cases v with
     |some v =>
      rcases gS with⟨r,e,gd⟩|⟨e,_⟩
      ·cases e
       exact Vo ⟨⟨hs,.inl ⟨_,rfl,gd⟩⟩,by simp⟩
      ·cases e
     |none =>
      refine Vp (Vl (Vo ⟨⟨?_,gS⟩,rfl⟩));obtain⟨g1,rfl⟩:=hs;exact⟨g+1,rfl⟩
end
structure MH{α:Type}(r:α->α->Prop)(la lb O:List α)(i j:Nat):Prop where
 sa:(la.take i++O).Pairwise r
 sb:(lb.take j++O).Pairwise r
 pm:(la.take i++(lb.take j++O)).Perm (la++lb)
theorem MH.takeA{r:α->α->Prop}{la lb O:List α}(h:MH r la lb O i j){X:List α}(e:la.take i=la.take i'++X)(hx:∀ x∈X,∀ y∈lb.take j,r y x):MH r la lb (X++O) i' j:=by
 have h1:=h.sa;rw[e,Zx] at h1;have h2:=Yk.mp h.sb;refine⟨h1,Yk.mpr ⟨h2.1,(Yk.mp h1).2.1,λ x x3 y hy=>?_⟩,?_⟩
 ·rcases Uy.mp hy with hX | hO
  ·exact hx y hX x x3
  ·exact h2.2.2 x x3 y hO
 ·have:=h.pm
  rw[e,Zx] at this;exact((Xg (lb.take j) X O).append_left (la.take i')).trans this
theorem MH.takeB{r:α->α->Prop}{la lb O:List α}(h:MH r la lb O i j){X:List α}(e:lb.take j=lb.take j'++X)(hx:∀ x∈X,∀ y∈la.take i,r y x):MH r la lb (X++O) i j':=by
 have h1:=h.sb;rw[e,Zx] at h1;have h2:=Yk.mp h.sa;refine⟨Yk.mpr ⟨h2.1,(Yk.mp h1).2.1,λ x x3 y hy=>?_⟩,h1,?_⟩
 ·rcases Uy.mp hy with hX | hO
  ·exact hx y hX x x3
  ·exact h2.2.2 x x3 y hO
 ·have:=h.pm
  rw[e,Zx] at this;exact this
theorem MH.endA{r:α->α->Prop}{la lb O:List α}(h:MH r la lb O i j)(e:i=0):Gd r la lb (la.take i++lb.take j++O):=by
 subst e;exact⟨h.sb,h.pm⟩
theorem MH.endB{r:α->α->Prop}{la lb O:List α}(h:MH r la lb O i 0):Gd r la lb (la.take i++lb.take 0++O):=by
 have h1:=h.pm;rw[Jx,U1];exact⟨h.sa,h1⟩
theorem MH.first{r:α->α->Prop}{la lb O:List α}(h:MH r la lb O i j)(hl:∀ x∈lb.take j,∀ y∈la,r x y):Gd r la lb (lb.take j++la.take i++O):=by
 have hb:=Yk.mp h.sb;refine⟨?_,?_⟩
 ·rw[Zx];refine Yk.mpr ⟨hb.1,h.sa,λ x hx y hy=>?_⟩;rcases Uy.mp hy with hA | hO
  ·exact hl x hx y (Ym hA)
  ·exact hb.2.2 x hx y hO
 ·rw[Zx];exact(Xg (lb.take j) (la.take i) O).trans h.pm
theorem q0{α:Type}{l:List α}{x:α}(h:l[i]?=some x):l.take (i+1)=l.take i++[x]:=by
 obtain⟨hi,e⟩:=Xl.mp h;rw[Xa hi,e]
theorem qed{α:Type}(l:List α)(h:k<=i):l.take i=l.take k++(l.take i).drop k:=by
 have:=(XU k (l.take i)).symm
 rwa [List.take_take,Jd h] at this
noncomputable def qdg:Array Keyed->Array Keyed->SM (Array Keyed):=sortPriv% PySem.Builtin.mergeHi
noncomputable def kf(a b o:Array Keyed)(i j:Nat):Array Keyed:=a.extract 0 i++b.extract 0 j++o.reverse
noncomputable def qeR(a b o:Array Keyed)(i j:Nat):Array Keyed:=b.extract 0 j++a.extract 0 i++o.reverse
abbrev D1:=Option (Array Keyed)×Nat×Nat×Array Keyed×Nat×Nat
abbrev D2:=Option (Array Keyed)×Nat×Nat×Array Keyed×Nat×Nat×Nat
abbrev D0:=Option (Array Keyed)×Nat×Nat×Array Keyed×Nat
theorem qg0(a b:Array Keyed):qdg a b=(do
 rule "list.sort.merge-hi"
 let t:=a.size+b.size
 let mut i:=a.size-1
 let mut j:=b.size
 let mut o:Array Keyed:=#[<- elem' a i]
 if i == 0 then return kf a b o i j
 if j == 1 then return qeR a b o i j
 let mut g:=gallopOf (<- get)
 for _ in [0:t] do
  let mut p:=0
  let mut q:=0
  for _ in [0:t] do
   let some c <- lt' (<- elem' b (j-1)) (<- elem' a (i-1))|return kf a b o i j
   if c then
    i:=i-1;o:=o.push (<- elem' a i);p:=p+1;q:=0
    if i == 0 then return kf a b o i j
    if p ≥ g then break
   else
    j:=j-1;o:=o.push (<- elem' b j);q:=q+1;p:=0
    if j == 1 then return qeR a b o i j
    if q ≥ g then break
  rule "list.sort.gallop"
  g:=g+1
  for _ in [0:t] do
   if g > 1 then g:=g-1
   qiV g
   let some u <- zR false (<- elem' b (j-1)) a 0 i (i-1)|return kf a b o i j
   let k:=i-u
   p:=k
   if k > 0 then
    o:=o++(a.extract u i).reverse;i:=u
    if i == 0 then return kf a b o i j
   j:=j-1;o:=o.push (<- elem' b j)
   if j == 1 then return qeR a b o i j
   let some u <- zR true (<- elem' a (i-1)) b 0 j (j-1)|return kf a b o i j
   let k:=j-u
   q:=k
   if k > 0 then
    o:=o++(b.extract u j).reverse;j:=u
    if j == 1 then return qeR a b o i j
    if j == 0 then return kf a b o i j
   i:=i-1;o:=o.push (<- elem' a i)
   if i == 0 then return kf a b o i j
   if p<7 && q<7 then break
  g:=g+1
  qiV g
 unsupported "internal:list.sort.merge-bound"):=rfl
noncomputable def hi3(a b o:Array Keyed)(i j g p q:Nat):SM (ForInStep D2):=do
 let x <- elem' a (i-1)
 if i-1 == 0 then pure (.done (some (kf a b (o.push x) (i-1) j),i-1,j,o.push x,g,p,q))
 else if p<7 && q<7 then pure (.done (none,i-1,j,o.push x,g,p,q))
 else pure (.yield (none,i-1,j,o.push x,g,p,q))
noncomputable def hi2(a b o:Array Keyed)(i j g p q:Nat):SM (ForInStep D2):=do
 let x <- elem' b (j-1)
 if j-1 == 1 then pure (.done (some (qeR a b (o.push x) i (j-1)),i,j-1,o.push x,g,p,q))
 else do
  let y <- elem' a (i-1)
  let c <- zR true y b 0 (j-1) (j-1-1)
  match c with
  |some u =>
   if j-1-u > 0 then
    if u == 1 then pure (.done (some (qeR a b (o.push x++(b.extract u (j-1)).reverse) i u),i,u,o.push x++(b.extract u (j-1)).reverse,g,p,j-1-u))
    else if u == 0 then pure (.done (some (kf a b (o.push x++(b.extract u (j-1)).reverse) i u),i,u,o.push x++(b.extract u (j-1)).reverse,g,p,j-1-u))
    else hi3 a b (o.push x++(b.extract u (j-1)).reverse) i u g p (j-1-u)
   else hi3 a b (o.push x) i (j-1) g p (j-1-u)
  |_=>pure (.done (some (kf a b (o.push x) i (j-1)),i,j-1,o.push x,g,p,q))
noncomputable def hi1(a b o:Array Keyed)(i j g p q:Nat):SM (ForInStep D2):=do
 qiV g
 let x <- elem' b (j-1)
 let c <- zR false x a 0 i (i-1)
 match c with
 |some u =>
  if i-u > 0 then
   if u == 0 then pure (.done (some (kf a b (o++(a.extract u i).reverse) u j),u,j,o++(a.extract u i).reverse,g,i-u,q))
   else hi2 a b (o++(a.extract u i).reverse) u j g (i-u) q
  else hi2 a b o i j g (i-u) q
 |_=>pure (.done (some (kf a b o i j),i,j,o,g,p,q))
noncomputable def hi0(a b:Array Keyed)(g:Nat)(r:D1):SM (ForInStep D1):=do
 let y <- elem' b (r.2.2.1-1)
 let x <- elem' a (r.2.1-1)
 let c <- lt' y x
 match c with
 |some c =>
  if c then do
   let z <- elem' a (r.2.1-1)
   if r.2.1-1 == 0 then pure (.done (some (kf a b (r.2.2.2.1.push z) (r.2.1-1) r.2.2.1),r.2.1-1,r.2.2.1,r.2.2.2.1.push z,r.2.2.2.2.1+1,0))
   else if r.2.2.2.2.1+1 ≥ g then pure (.done (none,r.2.1-1,r.2.2.1,r.2.2.2.1.push z,r.2.2.2.2.1+1,0))
   else pure (.yield (none,r.2.1-1,r.2.2.1,r.2.2.2.1.push z,r.2.2.2.2.1+1,0))
  else do
   let z <- elem' b (r.2.2.1-1)
   if r.2.2.1-1 == 1 then pure (.done (some (qeR a b (r.2.2.2.1.push z) r.2.1 (r.2.2.1-1)),r.2.1,r.2.2.1-1,r.2.2.2.1.push z,0,r.2.2.2.2.2+1))
   else if r.2.2.2.2.2+1 ≥ g then pure (.done (none,r.2.1,r.2.2.1-1,r.2.2.2.1.push z,0,r.2.2.2.2.2+1))
   else pure (.yield (none,r.2.1,r.2.2.1-1,r.2.2.2.1.push z,0,r.2.2.2.2.2+1))
 |_=>pure (.done (some (kf a b r.2.2.2.1 r.2.1 r.2.2.1),r.2.1,r.2.2.1,r.2.2.2.1,r.2.2.2.2.1,r.2.2.2.2.2))
def OkH{γ:Type}(κ:KeyKind)(a b:Array Keyed)(st:SortSt)(m:Nat)(c:Option (Array Keyed)×Nat×Nat×Array Keyed×γ)(b0:SortSt):Prop:=
 (∃ g,b0=ve st g)/\((∃ r,c.1=some r/\Gd (kl κ) a.toList b.toList r.toList)∨(c.1=none/\MH (kl κ) a.toList b.toList c.2.2.2.1.toList.reverse c.2.1 c.2.2.1/\0<c.2.1/\c.2.1<=a.size/\1<c.2.2.1/\c.2.2.1<=b.size/\c.2.1+c.2.2.1+m<=a.size+b.size))
def qee{γ:Type}(κ:KeyKind)(a b:Array Keyed)(st:SortSt)(m:Nat):ForInStep (Option (Array Keyed)×Nat×Nat×Array Keyed×γ)->SortSt->Prop
 |.done c,b0=>OkH κ a b st m c b0
 |.yield c,b0=>OkH κ a b st m c b0/\c.1=none
theorem qeS(a:Array Keyed)(i:Nat):(a.extract 0 i).toList=a.toList.take i:=by
 rw[Yj,Xp,Jw,Nat.sub_zero]
theorem qh5(a:Array Keyed)(u i:Nat):((a.extract u i).reverse).toList.reverse=(a.toList.take i).drop u:=by
 rw[Yn,List.reverse_reverse,Yj,Xp,List.drop_take]
theorem qdh(a b o:Array Keyed)(i j:Nat):(kf a b o i j).toList=a.toList.take i++b.toList.take j++o.toList.reverse:=by
 unfold kf;rw[Yy,Yy,qeS,qeS,Yn]
theorem qeT(a b o:Array Keyed)(i j:Nat):(qeR a b o i j).toList=b.toList.take j++a.toList.take i++o.toList.reverse:=by
 unfold qeR;rw[Yy,Yy,qeS,qeS,Yn]
theorem qbu(o:Array Keyed)(x:Keyed):(o.push x).toList.reverse=[x]++o.toList.reverse:=by
 rw[Zu,Yz];rfl
theorem qh6(o u:Array Keyed):(o++u).toList.reverse=u.toList.reverse++o.toList.reverse:=by
 rw[Yy,Yz]
theorem yp{a:Array Keyed}(h0:0<i)(h:i<=a.size):a.toList.take i=a.toList.take (i-1)++[a[i-1]]:=by
 have:=q0 (qbt (a:=a) (i:=i-1) (by omega))
 rwa [Nat.sub_add_cancel h0] at this
section
variable {prog:Program}{w:World}{A:Around}{E:Value->Shared->Prop}{s:Shared}{κ:KeyKind}{a b:Array Keyed}{st:SortSt}
variable (hO:κ.OneLt)(hk:kindOf st=oneType')(ka:∀ x∈a.toList,Kd κ x)(kb:∀ x∈b.toList,Kd κ x)(hd:∀ x∈b.toList.take 1,∀ y∈a.toList,kl κ x y)
include hO hk ka kb hd
theorem MH.tailA(m:MH (kl κ) a.toList b.toList O i j)(h0:0<i)(hi:i<=a.size):∀ y∈a.toList.take i,kl κ y a[i-1]:=by
 have:=(Yk.mp m.sa).1
 rw[yp h0 hi] at this ⊢;intro y hy;rcases Uy.mp hy with h|h
 ·exact(Yk.mp this).2.2 y h _ (Zg.mpr rfl)
 ·rw[Zg.mp h];exact Jc _
theorem MH.tailB(m:MH (kl κ) a.toList b.toList O i j)(h0:0<j)(hj:j<=b.size):∀ y∈b.toList.take j,kl κ y b[j-1]:=by
 have:=(Yk.mp m.sb).1
 rw[yp h0 hj] at this ⊢;intro y hy;rcases Uy.mp hy with h|h
 ·exact(Yk.mp this).2.2 y h _ (Zg.mpr rfl)
 ·rw[Zg.mp h];exact Jc _
theorem qka(hs:∃ g,b0=ve st g)(mi:MH (kl κ) a.toList b.toList o.toList.reverse i j)(i0:0<i)(hi:i<=a.size)(j1:1<j)(hj:j<=b.size)(hm:i+j+m<=a.size+b.size)(hx:∀ y∈b.toList.take j,kl κ y a[i-1]):wpS (model prog w) A E s (hi3 a b o i j g p q) (qee κ a b st m) b0:=by
 unfold hi3;refine Vp (qQ (p:=a[i-1]) (getElem?_pos a (i-1) (by omega)) ?_);have C6:MH (kl κ) a.toList b.toList (o.push a[i-1]).toList.reverse (i-1) j:=by
  rw[qbu];exact mi.takeA (yp i0 hi) (λ x x3 y hy=>by rw[Zg.mp x3];exact hx y hy)
 by_cases h1:i-1=0
 ·rw[Vy (by simpa using h1)];refine Vo ⟨hs,.inl ⟨_,rfl,?_⟩⟩;rw[qdh];exact C6.endA h1
 ·rw[Vz (by simpa using h1)];by_cases h2:(decide (p<7) && decide (q<7))=true
  ·rw[Vy h2];exact Vo ⟨hs,.inr ⟨rfl,C6,by show 0<i-1;omega,by show i-1<=a.size;omega,j1,hj,by show i-1+j+m<=_;omega⟩⟩
  ·rw[Vz h2];exact Vo ⟨⟨hs,.inr ⟨rfl,C6,by show 0<i-1;omega,by show i-1<=a.size;omega,j1,hj,by show i-1+j+m<=_;omega⟩⟩,rfl⟩
theorem qkb(hs:∃ g,b0=ve st g)(mi:MH (kl κ) a.toList b.toList o.toList.reverse i j)(i0:0<i)(hi:i<=a.size)(j1:1<j)(hj:j<=b.size)(hm:i+j+m<=a.size+b.size)(hx:∀ y∈a.toList.take i,kl κ y b[j-1]):wpS (model prog w) A E s (hi2 a b o i j g p q) (qee κ a b st m) b0:=by
 unfold hi2;refine Vp (qQ (p:=b[j-1]) (getElem?_pos b (j-1) (by omega)) ?_);have C6:MH (kl κ) a.toList b.toList (o.push b[j-1]).toList.reverse i (j-1):=by
  rw[qbu];exact mi.takeB (yp (by omega) hj) (λ x x3 y hy=>by rw[Zg.mp x3];exact hx y hy)
 by_cases h1:j-1=1
 ·rw[Vy (by simpa using h1)];refine Vo ⟨hs,.inl ⟨_,rfl,?_⟩⟩;rw[qeT];exact C6.first (by rw[h1];exact hd)
 ·rw[Vz (by simpa using h1)];refine Vp (qQ (p:=a[i-1]) (getElem?_pos a (i-1) (by omega)) ?_);have N0:kindOf b0=oneType':=by obtain⟨g,rfl⟩:=hs;exact hk
  refine Vp (yd hO (b.toList.take (j-1)) (by rw[Jw]) N0 (ka _ (by simp)) (by omega) (λ x hx=>kb x (Ym hx)) ((Yk.mp C6.sb).1) (by omega) λ u E6 k1 k2=>?_);have ha:=mi.tailA hO hk ka kb hd i0 hi;have mk:MH (kl κ) a.toList b.toList (o.push b[j-1]++(b.extract u (j-1)).reverse).toList.reverse i u:=by
   rw[qh6,qh5];exact C6.takeB (qed _ E6) λ x hx y hy=>Um (ha y hy) (qlR (k2 x hx))
  have iA:∀ y∈b.toList.take u,kl κ y a[i-1]:=λ y hy=>BtT (k1 y (by rw[List.take_take,Jd E6];exact hy))
  dsimp only;by_cases hk0:j-1-u > 0
  ·rw[Vy hk0];by_cases h3:u=1
   ·rw[Vy (by simpa using h3)];refine Vo ⟨hs,.inl ⟨_,rfl,?_⟩⟩;rw[qeT];exact mk.first (by rw[h3];exact hd)
   ·rw[Vz (by simpa using h3)];by_cases h4:u=0
    ·rw[Vy (by simpa using h4)];refine Vo ⟨hs,.inl ⟨_,rfl,?_⟩⟩;rw[qdh];subst h4;exact mk.endB
    ·rw[Vz (by simpa using h4)];exact qka hO hk ka kb hd hs mk i0 hi (by omega) (by omega) (by omega) iA
  ·rw[Vz hk0]
   have:u=j-1:=by omega
   subst this;exact qka hO hk ka kb hd hs C6 i0 hi (by omega) (by omega) (by omega) iA
theorem qkc(hs:∃ g,b0=ve st g)(mi:MH (kl κ) a.toList b.toList o.toList.reverse i j)(i0:0<i)(hi:i<=a.size)(j1:1<j)(hj:j<=b.size)(hm:i+j+m<=a.size+b.size):wpS (model prog w) A E s (hi1 a b o i j g p q) (qee κ a b st m) b0:=by
 unfold hi1;refine Vp (Vl ?_);have G2:∃ g',ve b0 g=ve st g':=by obtain⟨g1,rfl⟩:=hs;exact⟨g,rfl⟩
 have N0:kindOf (ve b0 g)=oneType':=by obtain⟨g1,rfl⟩:=hs;exact hk
 refine Vp (qQ (p:=b[j-1]) (getElem?_pos b (j-1) (by omega)) ?_);refine Vp (yd hO (a.toList.take i) (by rw[Jw]) N0 (kb _ (by simp)) (by omega) (λ x hx=>ka x (Ym hx)) ((Yk.mp mi.sa).1) (by omega) λ u E6 k1 k2=>?_);have hb:=mi.tailB hO hk ka kb hd (by omega) hj;have mk:MH (kl κ) a.toList b.toList (o++(a.extract u i).reverse).toList.reverse u j:=by
  rw[qh6,qh5];exact mi.takeA (qed _ E6) λ x hx y hy=>Um (hb y hy) (qnk (k2 x hx))
 have sT:∀ y∈a.toList.take u,kl κ y b[j-1]:=λ y hy=>BtF (k1 y (by rw[List.take_take,Jd E6];exact hy))
 dsimp only;by_cases hk0:i-u > 0
 ·rw[Vy hk0];by_cases h4:u=0
  ·rw[Vy (by simpa using h4)];refine Vo ⟨G2,.inl ⟨_,rfl,?_⟩⟩;rw[qdh];exact mk.endA h4
  ·rw[Vz (by simpa using h4)];exact qkb hO hk ka kb hd G2 mk (by omega) (by omega) j1 hj (by omega) sT
 ·rw[Vz hk0]
  have:u=i:=by omega
  subst this;exact qkb hO hk ka kb hd G2 mi i0 hi j1 hj hm sT
theorem qnm(ok:OkH κ a b st m r b0)(hn:r.1=none):wpS (model prog w) A E s (hi0 a b g r) (qee κ a b st (m+1)) b0:=by
 obtain⟨v,i,j,o,p,q⟩:=r;obtain⟨hs,⟨r,h1,h2⟩|⟨_,mi,i0,hi,j1,hj,hm⟩⟩:=ok
 ·rw[hn] at h1;cases h1
 change MH (kl κ) a.toList b.toList o.toList.reverse i j at mi
 change 0<i at i0
 change i<=a.size at hi
 change 1<j at j1
 change j<=b.size at hj
 change i+j+m<=_ at hm
 unfold hi0;dsimp only;have N0:kindOf b0=oneType':=by obtain⟨g,rfl⟩:=hs;exact hk
 refine Vp (qQ (p:=b[j-1]) (getElem?_pos b (j-1) (by omega)) ?_);refine Vp (qQ (p:=a[i-1]) (getElem?_pos a (i-1) (by omega)) ?_);refine Vp (qdd hO N0 (kb _ (by simp)) (ka _ (by simp)) ?_);dsimp only;cases hc:κ.blt (ky κ b[j-1]) (ky κ a[i-1]) with
 |true =>
  rw[Vy rfl];refine Vp (qQ (p:=a[i-1]) (getElem?_pos a (i-1) (by omega)) ?_);have hb:=mi.tailB hO hk ka kb hd (by omega) hj;have C6:MH (kl κ) a.toList b.toList (o.push a[i-1]).toList.reverse (i-1) j:=by
   rw[qbu];exact mi.takeA (yp i0 hi) (λ x x3 y hy=>by rw[Zg.mp x3];exact Um (hb y hy) (Zz hc))
  by_cases h1:i-1=0
  ·rw[Vy (by simpa using h1)];refine Vo ⟨hs,.inl ⟨_,rfl,?_⟩⟩;rw[qdh];exact C6.endA h1
  ·rw[Vz (by simpa using h1)];by_cases h2:p+1 ≥ g
   ·rw[Vy h2];exact Vo ⟨hs,.inr ⟨rfl,C6,by show 0<i-1;omega,by show i-1<=a.size;omega,j1,hj,by show i-1+j+(m+1)<=_;omega⟩⟩
   ·rw[Vz h2];exact Vo ⟨⟨hs,.inr ⟨rfl,C6,by show 0<i-1;omega,by show i-1<=a.size;omega,j1,hj,by show i-1+j+(m+1)<=_;omega⟩⟩,rfl⟩
 |false =>
  rw[Vz (by simp)];refine Vp (qQ (p:=b[j-1]) (getElem?_pos b (j-1) (by omega)) ?_);have ha:=mi.tailA hO hk ka kb hd i0 hi;have C6:MH (kl κ) a.toList b.toList (o.push b[j-1]).toList.reverse i (j-1):=by
   rw[qbu];exact mi.takeB (yp (by omega) hj) (λ x x3 y hy=>by rw[Zg.mp x3];exact Um (ha y hy) hc)
  by_cases h1:j-1=1
  ·rw[Vy (by simpa using h1)];refine Vo ⟨hs,.inl ⟨_,rfl,?_⟩⟩;rw[qeT];exact C6.first (by rw[h1];exact hd)
  ·rw[Vz (by simpa using h1)];by_cases h2:q+1 ≥ g
   ·rw[Vy h2];exact Vo ⟨hs,.inr ⟨rfl,C6,i0,hi,by show 1<j-1;omega,by show j-1<=b.size;omega,by show i+(j-1)+(m+1)<=_;omega⟩⟩
   ·rw[Vz h2];exact Vo ⟨⟨hs,.inr ⟨rfl,C6,i0,hi,by show 1<j-1;omega,by show j-1<=b.size;omega,by show i+(j-1)+(m+1)<=_;omega⟩⟩,rfl⟩
end
section
variable {prog:Program}{w:World}{A:Around}{E:Value->Shared->Prop}{s:Shared}{κ:KeyKind}{a b:Array Keyed}{st:SortSt}
theorem OkH.mono{c:Option (Array Keyed)×Nat×Nat×Array Keyed×γ}(h:OkH κ a b st m c b0)(hm:m'<=m):OkH κ a b st m' c b0:=by
 obtain⟨hs,h|⟨h1,h2,h3,h4,h5,h6,h7⟩⟩:=h
 ·exact⟨hs,.inl h⟩
 ·exact⟨hs,.inr ⟨h1,h2,h3,h4,h5,h6,by omega⟩⟩
theorem qfV(hO:κ.OneLt)(hk:kindOf st=oneType')(ka:∀ x∈a.toList,Kd κ x)(kb:∀ x∈b.toList,Kd κ x)(h0:MH (kl κ) a.toList b.toList [] a.size b.size)(a1:0<a.size)(b1:0<b.size)(hd:∀ x∈b.toList.take 1,∀ y∈a.toList,kl κ x y)(hl:∀ y∈b.toList,kl κ y a[a.size-1])(h:∀(o:Array Keyed)(g:Nat),Gd (kl κ) a.toList b.toList o.toList->Q o (ve st g)):wpS (model prog w) A E s (qdg a b) Q st:=by
 rw[qg0];refine Vp (wpS_lift (Vk ⟨rfl,?_⟩));refine Vp (qQ (p:=a[a.size-1]) (getElem?_pos a (a.size-1) (by omega)) ?_);dsimp only;have mi:MH (kl κ) a.toList b.toList (#[a[a.size-1]]:Array Keyed).toList.reverse (a.size-1) b.size:=by
  have:=h0.takeA (yp a1 (Q5 _)) (λ x hx y hy=>by rw[Zg.mp hx];exact hl y (Ym hy))
  simpa using this
 by_cases h1:a.size-1=0
 ·rw[Vy (by simpa using h1)];refine Vo (h _ (gallopOf st) ?_);rw[qdh];exact mi.endA h1
 rw[Vz (by simpa using h1)];by_cases h2:b.size=1
 ·rw[Vy (by simpa using h2)];refine Vo (h _ (gallopOf st) ?_);rw[qeT];exact mi.first (by rw[h2];exact hd)
 rw[Vz (by simpa using h2)];refine Vp (Vw ?_);refine Vp (Vq (Q4 (I:=λ x (c:D0) b0=>OkH κ a b st (x+1) c b0/\c.1=none) (Q:=λ c b0=>OkH κ a b st 0 c b0/\c.1≠none) ?step ?fin ⟨⟨⟨gallopOf st,rfl⟩,.inr ⟨rfl,mi,by show 0<a.size-1;omega,by show a.size-1<=a.size;omega,by show 1<b.size;omega,Q5 _,by show a.size-1+b.size+(0+1)<=_;omega⟩⟩,rfl⟩) ?post)
 case post =>
  rintro⟨v,c⟩ b0 ⟨⟨⟨g,rfl⟩,ok⟩,hv⟩;rcases ok with⟨r,e,gd⟩|⟨e,_⟩
  ·cases e
   exact Vo (h r g gd)
  ·exact absurd e hv
 case fin =>
  rintro⟨v,i,j,o,g⟩ b0 ⟨⟨hs,ok⟩,hv⟩;rcases ok with⟨r,e,gd⟩|⟨e,_,i0,hi,j1,hj,hm⟩
  ·rw[hv] at e;cases e
  ·change 0<i at i0
   change i+j+_<=_ at hm
   omega
 case step =>
  rintro x c b0 _ hx ⟨ok,hn⟩;obtain⟨v,i,j,o,g⟩:=c;cases hn
  have ok1:OkH κ a b st (x+1) ((none,i,j,o,0,0):D1) b0:=ok;refine Vp (Vq (Q4 (I:=λ y (c:D1) b0=>OkH κ a b st (x+1+y) c b0/\c.1=none) (Q:=λ c b0=>OkH κ a b st (x+2) c b0) ?istep ?ifin ⟨ok1,rfl⟩) ?ipost)
  case istep =>
   rintro y c l0 _ hy ⟨O2,dI⟩;refine Vq (show wpS (model prog w) A E s (hi0 a b g c) (qee κ a b st (x+1+y+1)) l0 from qnm hO hk ka kb hd O2 dI) λ r G5 hr=>?_
   cases r with
   |done c=>exact OkH.mono hr (by omega)
   |yield c=>exact hr
  case ifin =>
   rintro⟨v,i,j,o,p,q⟩ l0 ⟨⟨hs,O2⟩,hv⟩;rcases O2 with⟨r,e,gd⟩|⟨e,_,i0,hi,j1,hj,hm⟩
   ·rw[hv] at e;cases e
   ·change 0<i at i0
    change i+j+_<=_ at hm
    omega
  case ipost =>
   rintro⟨v,i,j,o,p,q⟩ l0 ⟨hs,O2⟩;dsimp only;cases v with
   |some v =>
    rcases O2 with⟨r,e,gd⟩|⟨e,_⟩
    ·cases e
     exact Vo ⟨⟨hs,.inl ⟨_,rfl,gd⟩⟩,by simp⟩
    ·cases e
   |none =>
    dsimp only;refine Vp (wpS_lift (Vk ⟨rfl,?_⟩));have ok3:OkH κ a b st (x+2) ((none,i,j,o,g+1,p,q):D2) l0:=⟨hs,O2⟩;refine Vp (Vq (Q4 (I:=λ y (c:D2) b0=>OkH κ a b st (x+2) c b0/\c.1=none) (Q:=λ c b0=>OkH κ a b st (x+2) c b0) ?jstep ?jfin ⟨ok3,rfl⟩) ?jpost)
    case jfin=>exact λ c b0 hc=>hc.1
    case jstep =>
     rintro y ⟨v,i,j,o,g,p,q⟩ G5 _ hy ⟨⟨hs,gS⟩,hn⟩;have tN:v=none:=hn;subst tN;rcases gS with⟨r,e,gd⟩|⟨_,mi,i0,hi,j1,hj,hm⟩
     ·cases e
     change MH (kl κ) a.toList b.toList o.toList.reverse i j at mi
     change 0<i at i0
     change i<=a.size at hi
     change 1<j at j1
     change j<=b.size at hj
     change i+j+_<=_ at hm
     refine Vq (Q:=qee κ a b st (x+2)) ?_ λ r G5 hr=>?_
     ·by_cases hg:g > 1
      ·dsimp only;rw[Vy hg];show wpS (model prog w) A E s (hi1 a b o i j (g-1) p q) _ _
       exact qkc hO hk ka kb hd hs mi i0 hi j1 hj hm
      ·dsimp only;rw[Vz hg];show wpS (model prog w) A E s (hi1 a b o i j g p q) _ _
       exact qkc hO hk ka kb hd hs mi i0 hi j1 hj hm
     ·cases r with
      |done c=>exact hr
      |yield c=>exact hr
    case jpost =>
     rintro⟨v,i,j,o,g,p,q⟩ G5 ⟨hs,gS⟩;dsimp only;cases v with
     |some v =>
      rcases gS with⟨r,e,gd⟩|⟨e,_⟩
      ·cases e
       exact Vo ⟨⟨hs,.inl ⟨_,rfl,gd⟩⟩,by simp⟩
      ·cases e
     |none =>
      refine Vp (Vl (Vo ⟨⟨?_,gS⟩,rfl⟩));obtain⟨g1,rfl⟩:=hs;exact⟨g+1,rfl⟩
end
theorem qlS{x:σ}{Q:PUnit->σ->Prop}{st:σ}(h:Q ⟨⟩ x):wpS M A E s (set x:StateT σ Sem PUnit) Q st:=by
 unfold wpS;rw[StateT.run_set];exact Vg ⟨rfl,h⟩
theorem qg1(i:Nat):mergeAt' i=(do
 let st <- get
 let (some (sa,na,pw),some (sb,nb,_)):=((pendingOf st)[i]?,(pendingOf st)[i+1]?) | unsupported "internal:list.sort.pending"
 set (SortSt.mk' (kindOf st) (arrOf st) (((pendingOf st).setIfInBounds i (sa,na+nb,pw)).eraseIdxIfInBounds (i+1)) (gallopOf st) (failedOf st))
 let some k <- zR false (<- elem' (arrOf st) sb) (arrOf st) sa na 0|return false
 let (sa,na):=(sa+k,na-k)
 if na == 0 then return true
 let some nb <- zR true (<- elem' (arrOf st) (sa+na-1)) (arrOf st) sb nb (nb-1)|return false
 if nb == 0 then return true
 let x:=(arrOf st).extract sa sb
 let y:=(arrOf st).extract sb (sb+nb)
 let m <- if na<=nb then qde x y else qdg x y
 modify λ s=>setArr s (m.toList.zipIdx.foldl (λ a (p,j)=>a.setIfInBounds (sa+j) p) (arrOf s))
 return (failedOf (<- get)).isNone):=rfl
theorem qfW {U:List Keyed}:∀(l:List Keyed)(k:Nat)(M:List Keyed)(U:List Keyed)(arr:Array Keyed),arr.toList=U++(M++V)->U.length=sa+k->M.length=l.length ->
  ((l.zipIdx k).foldl (λ a (x:Keyed×Nat)=>a.setIfInBounds (sa+x.2) x.1) arr).toList=U++(l++V)
 | [],k,M,U,arr,e,hu,hm=>by
  have:M=[]:=X8.mp hm
  subst this;exact e
 |x::l,k,M,U,arr,e,hu,hm=>by
  obtain⟨m,M,rfl⟩:∃ m M',M=m::M':=by
   cases M with
   |nil=>cases hm
   |cons m M=>exact⟨m,M,rfl⟩
  rw[List.zipIdx_cons,U9]
  have:=qfW (V:=V) (U:=U) (sa:=sa) l (k+1) M (U++[x]) (arr.setIfInBounds (sa+k) x) (by
   rw[Array.toList_setIfInBounds,e,<- hu,List.set_append_right _ _ (Q5 _),Nat.sub_self];simp) (by rw[Zb,hu];rfl) (by simpa using hm)
  rw[this];simp
section
variable {prog:Program}{w:World}{A:Around}{E:Value->Shared->Prop}{s:Shared}{κ:KeyKind}{st:SortSt}
theorem qfX(hO:κ.OneLt)(hk:kindOf st=oneType')(hf:failedOf st=none)(e1:(pendingOf st)[i]?=some (sa,na,pa))(e2:(pendingOf st)[i+1]?=some (sb,nb,pb))(E7:sb=sa+na)(ea:(arrOf st).toList=L++(X++(Y++R)))(hL:L.length=sa)(hX:X.length=na)(hY:Y.length=nb)(na0:0<na)(nb0:0<nb)(sx:So κ X)(sy:So κ Y)(kx:∀ x∈X,Kd κ x)(kY:∀ x∈Y,Kd κ x)(h:∀(Z:List Keyed)(arr:Array Keyed)(g:Nat),Z.Perm (X++Y)->So κ Z->arr.toList=L++(Z++R) ->
   Q true (SortSt.mk' (kindOf st) arr (((pendingOf st).setIfInBounds i (sa,na+nb,pa)).eraseIdxIfInBounds (i+1)) g (failedOf st))):wpS (model prog w) A E s (mergeAt' i) Q st:=by
 have sz:(arrOf st).size=sa+na+nb+R.length:=by
  rw[<- Ys,ea];simp[hL,hX,hY];omega
 have gX:(arrOf st).toList.drop sa=X++(Y++R):=by rw[ea,<- hL,List.drop_left]
 have gY:(arrOf st).toList.drop sb=Y++R:=by rw[E7,<- Jy,gX,<- hX,List.drop_left]
 have y0:Y[0]?=some (Y[0]'(by omega)):=Xv _;have aY:(arrOf st)[sb]?=some (Y[0]'(by omega)):=by
  have e:(arrOf st).toList[sb+0]?=some (Y[0]'(by omega)):=by rw[<- Zf,gY,Xm (by omega),y0]
  rw[<- XS];exact e
 have hy0:∀ y∈Y,kl κ (Y[0]'(by omega)) y:=by
  cases Y with
  |nil=>simp at hY;omega
  |cons z Y =>
   intro y hy;rcases Qb.mp hy with e|e
   ·rw[e];exact Jc _
   ·exact(Zc.mp sy).1 y e
 rw[qg1];refine Vp (Vw ?_);rw[e1,e2];dsimp only;refine Vp (qlS ?_);refine Vp (qQ aY ?_);refine Vp (yd hO X (by rw[gX,<- hX,Jz]) hk (kY _ (Uk _)) (by omega) kx sx (by omega) λ k oE k1 k2=>?_);dsimp only;by_cases h0:na-k=0
 ·rw[Vy (by simpa using h0)];refine Vo (h (X++Y) (arrOf st) _ (Ju _) (Yk.mpr ⟨sx,sy,λ x hx y hy=>?_⟩) (by rw[ea,Zx]));have N0:k=X.length:=by omega
  rw[N0,Ul] at k1;exact Um (BtF (k1 x hx)) (hy0 y hy)
 rw[Vz (by simpa using h0)];have xl:X[na-1]?=some (X[na-1]'(by omega)):=Xv _;have xR:∀ x∈X,kl κ x (X[na-1]'(by omega)):=by
  intro x hx;obtain⟨j,hj,rfl⟩:=Yw hx;rcases Qy j (na-1) with h1|h1
  ·exact Xr.mp sx j (na-1) hj (by omega) h1
  ·have:j=na-1:=by omega
   subst this;exact Jc _
 have aX:(arrOf st)[sa+k+(na-k)-1]?=some (X[na-1]'(by omega)):=by
  have e:sa+k+(na-k)-1=sa+(na-1):=by omega
  rw[e,<- XS,<- Zf,gX,Xm (by omega),xl]
 refine Vp (qQ aX ?_);refine Vp (yd hO Y (by rw[gY,<- hY,Jz]) hk (kx _ (Uk _)) (by omega) kY sy (by omega) λ n hn1 n1 n2=>?_);dsimp only;by_cases uK:n=0
 ·rw[Vy (by simpa using uK)];refine Vo (h (X++Y) (arrOf st) _ (Ju _) (Yk.mpr ⟨sx,sy,λ x hx y hy=>?_⟩) (by rw[ea,Zx]));subst uK;exact Um (xR x hx) (qlR (n2 y hy))
 rw[Vz (by simpa using uK)];have ex:((arrOf st).extract (sa+k) sb).toList=X.drop k:=by
  rw[Yj,Xp,<- Jy,gX,Xc (by omega)];rw[show sb-(sa+k)=(X.drop k).length by rw[Uf];omega,Jz]
 have ey:((arrOf st).extract sb (sb+n)).toList=Y.take n:=by
  rw[Yj,Xp,gY,X7,Xb (by omega)]
 generalize hxe:(arrOf st).extract (sa+k) sb=x at ex ⊢;generalize hye:(arrOf st).extract sb (sb+n)=y at ey ⊢;have lx:x.size=na-k:=by rw[<- Ys,ex,Uf,hX]
 have ly:y.size=n:=by rw[<- Ys,ey,Ue,hY];omega
 have sx':So κ (X.drop k):=sx.sublist (List.drop_sublist _ _);have sy':So κ (Y.take n):=sy.sublist (List.take_sublist _ _);have kx':∀ z∈x.toList,Kd κ z:=λ z hz=>kx z (Yl (by rw[<- ex];exact hz))
 have ky':∀ z∈y.toList,Kd κ z:=λ z hz=>kY z (Ym (by rw[<- ey];exact hz))
 have yz:y[0]'(by omega)=Y[0]'(by omega):=by
  have h1:y.toList[0]?=some (y[0]'(by omega)):=qbt (by omega);rw[ey,Xt (by omega),y0] at h1;exact(Option.some.inj h1).symm
 have xz:x[x.size-1]'(by omega)=X[na-1]'(by omega):=by
  have h1:x.toList[x.size-1]?=some (x[x.size-1]'(by omega)):=qbt (by omega);rw[ex,Zf,show k+(x.size-1)=na-1 by omega,xl] at h1;exact(Option.some.inj h1).symm
 have hd:∀ z∈x.toList,kl κ (y[0]'(by omega)) z:=λ z hz=>by
  rw[yz];rw[ex] at hz;exact qnk (k2 z hz)
 have hl:∀ z∈y.toList,kl κ z (x[x.size-1]'(by omega)):=λ z hz=>by
  rw[xz];rw[ey] at hz;exact BtT (n1 z hz)
 have post:∀(o:Array Keyed)(g:Nat),Gd (kl κ) x.toList y.toList o.toList->wpS (model prog w) A E s (do
   modify λ s=>setArr s (o.toList.zipIdx.foldl (λ a (p,j)=>a.setIfInBounds (sa+k+j) p) (arrOf s))
   return (failedOf (<- get)).isNone) Q (ve (SortSt.mk' (kindOf st) (arrOf st) (((pendingOf st).setIfInBounds i (sa,na+nb,pa)).eraseIdxIfInBounds (i+1)) (gallopOf st) (failedOf st)) g):=by
  rintro o g ⟨so,po⟩;refine Vp (Vl (Vp (Vw (Vo ?_))));rw[ex,ey] at po;have lo:o.toList.length=(X.drop k++Y.take n).length:=po.length_eq
  have:=h (X.take k++(o.toList++Y.drop n)) (o.toList.zipIdx.foldl (λ a (x:Keyed×Nat)=>a.setIfInBounds (sa+k+x.2) x.1) (arrOf st)) g ?_ ?_ ?_
  ·have e:(failedOf (ve st g)).isNone=true:=by show(failedOf st).isNone=true;rw[hf];rfl
   show Q (failedOf st).isNone _
   rw[show(failedOf st).isNone=true from e];exact this
  ·refine(((po.append_right (Y.drop n)).append_left (X.take k))).trans (List.Perm.of_eq ?_);rw[Zx,XU,<- Zx,XU]
  ·have mo:∀ z∈o.toList,z∈X.drop k∨z∈Y.take n:=λ z hz=>Uy.mp (po.mem_iff.mp hz)
   have sX:So κ (X.take k++X.drop k):=by rw[XU];exact sx
   have sY:So κ (Y.take n++Y.drop n):=by rw[XU];exact sy
   refine Yk.mpr ⟨(Yk.mp sX).1,Yk.mpr ⟨so,(Yk.mp sY).2.1,λ z hz u hu=>?_⟩,λ z hz u hu=>?_⟩
   ·rcases mo z hz with h1 | h1
    ·exact Um (xR z (Yl h1)) (qlR (n2 u hu))
    ·exact(Yk.mp sY).2.2 z h1 u hu
   ·rcases Uy.mp hu with h1 | h1
    ·rcases mo u h1 with h2 | h2
     ·exact(Yk.mp sX).2.2 z hz u h2
     ·exact Um (BtF (k1 z hz)) (hy0 u (Ym h2))
    ·exact Um (BtF (k1 z hz)) (hy0 u (Yl h1))
  ·have:=qfW (V:=Y.drop n++R) (U:=[]) (sa:=sa+k) o.toList 0 (X.drop k++Y.take n) (L++X.take k) (arrOf st) (by
    rw[ea]
    conv=>lhs;rw[<- XU k X,<- XU n Y]
    simp only[Zx]) (by rw[Zb,Ue];omega) lo.symm
   rw[this];simp only[Zx]
 by_cases F0:na-k<=n
 ·rw[Vy F0];refine Vp (qfU hO hk kx' ky' ⟨by simpa [ex] using sx',by simpa [ey] using sy',by simp⟩ (by omega) (by omega) hd (λ z hz u hu=>?_) post);rw[yc (qbt (by omega)),XG (by rw[Ys];omega),U1,Zg] at hz;rw[hz];exact hl u hu
 ·rw[Vz F0];refine Vp (qfV hO hk kx' ky' ⟨?_,?_,?_⟩ (by omega) (by omega) (λ z hz u hu=>?_) hl post)
  ·rw[U1,XF (by rw[Ys];exact Q5 _),ex];exact sx'
  ·rw[U1,XF (by rw[Ys];exact Q5 _),ey];exact sy'
  ·rw[U1,XF (by rw[Ys];exact Q5 _),XF (by rw[Ys];exact Q5 _)]
  ·rw[show(1:Nat)=0+1 from rfl,q0 (qbt (a:=y) (i:=0) (by omega)),Jx,U5,Zg] at hz;rw[hz];exact hd u hu
end
theorem qaL{α:Type}{r:α->α->Prop}(tr:∀ x y z,r x y->r y z->r x z){T:List α}(h:(T.take x).Pairwise r)(h1:1<=x)(hx:x<T.length)(hr:r (T[x-1]'(by omega)) T[x]):(T.take (x+1)).Pairwise r:=by
 rw[Xa hx];refine Yk.mpr ⟨h,List.pairwise_singleton _ _,λ y hy z hz=>?_⟩;rw[Zg.mp hz];obtain⟨j,hj,rfl⟩:=Yw hy;rw[Ue] at hj;rw[Z0];rcases Qy j (x-1) with h2|h2
 ·have:=Xr.mp h j (x-1) (by rw[Ue];omega) (by rw[Ue];omega) h2
  rw[Z0,Z0] at this;exact tr _ _ _ this hr
 ·have:j=x-1:=by omega
  subst this;exact hr
theorem qca:∀(T U:List Keyed)(arr:Array Keyed),arr.toList=U++(T++(x::V))->(bubble arr (U.length+T.length) T.length).toList=U++(x::(T++V))
 | [],U,arr,e=>e
 |t::T,U,arr,e=>by
  have ih:=qca (x:=x) (V:=V) T (U++[t]) arr (by rw[e];simp);have e1:(U++[t]).length+T.length=U.length+(t::T).length:=by simp;omega
  rw[e1] at ih;show(bubble arr (U.length+(t::T).length) (T.length+1)).toList=_
  rw[bubble_succ];generalize bubble arr (U.length+(t::T).length) T.length=b at ih ⊢;have sz:b.size=U.length+1+(1+(T.length+V.length)):=by rw[<- Ys,ih];simp;omega
  have l1:U.length+(t::T).length-T.length=U.length+1:=by simp;omega
  rw[l1,show U.length+1-1=U.length by omega,Array.swapIfInBounds_def,Vx (by omega),Vx (by omega),Array.toList_swap];have a1:b[U.length]'(by omega)=t:=by
   have:b.toList[U.length]?=some (b[U.length]'(by omega)):=qbt (by omega)
   rw[ih] at this;simpa using this.symm
  have a2:b[U.length+1]'(by omega)=x:=by
   have:b.toList[U.length+1]?=some (b[U.length+1]'(by omega)):=qbt (by omega)
   rw[ih] at this;simpa using this.symm
  rw[a1,a2,ih];simp[List.set_append]
theorem qfY{arr:Array Keyed}(e:arr.toList=L++(D++R)):(mirror arr L.length (L.length+D.length) ((L.length+D.length-L.length) / 2)).toList=L++(D.reverse++R):=by
 have sz:arr.size=L.length+(D.length+R.length):=by rw[<- Ys,e];simp
 refine List.ext_getElem? λ k=>?_
 rw[XS,getElem?_mirror_all (by omega)];by_cases h:L.length<=k/\k<L.length+D.length
 ·rw[Vy h,<- XS,e,Xh (by omega),Xm (by omega),Xh (by omega),Xm (by rw[Y0];omega),List.getElem?_reverse (by omega)];congr 1;omega
 ·rw[Vz h,<- XS,e];rcases Qy k L.length with h1 | h1
  ·rw[Xm h1,Xm h1]
  ·rw[Xh h1,Xh h1,Xh (by omega),Xh (by rw[Y0];omega),Y0]
section
variable {prog:Program}{w:World}{A:Around}{E:Value->Shared->Prop}{s:Shared}{κ:KeyKind}{st:SortSt}
theorem qbv(hO:κ.OneLt)(hk:kindOf st=oneType')(e1:(arrOf st)[i]?=some x)(e2:(arrOf st)[j]?=some y)(hx:Kd κ x)(hy:Kd κ y)(h:Q (some (κ.blt (ky κ x) (ky κ y))) st):wpS (model prog w) A E s (ltAt' i j) Q st:=by
 rw[ltAt'_eq];refine Vp (Vw ?_);exact Vp (qQ e1 (Vp (qQ e2 (qdd hO hk hx hy h))))
theorem jv{arr:Array Keyed}(e:arr.toList=L++T)(hi:i<T.length):arr[L.length+i]?=some T[i]:=by
 rw[<- XS,e,Xh (by omega),X7];exact Xv hi
theorem qkd(x y z:Keyed)(h1:kl κ x y)(h2:kl κ y z):kl κ x z:=Um h1 h2
theorem qdi(T:List Keyed):(T.take 1).Pairwise r:=by
 cases T with
 |nil=>simp
 |cons x T=>simp
theorem qdj(hO:κ.OneLt) {lo:Nat}(hk:kindOf st=oneType')(ea:(arrOf st).toList=L++T)(hL:L.length=lo)(hn:n<=T.length)(hok:ok<=n)(kT:∀ x∈T,Kd κ x)(so:So κ (T.take ok))(n1:1<=n)(h:∀(T':List Keyed)(arr:Array Keyed),T'.Perm T->arr.toList=L++T'->So κ (T'.take n)->Q true (setArr st arr)):wpS (model prog w) A E s (binarySort' lo n ok) Q st:=by
 subst hL;rw[binarySort'_eq];refine Vp (Vq (Q4
  (I:=λ k c b0=>c=(none,())/\∃(T':List Keyed)(arr:Array Keyed),T'.Perm T/\arr.toList=L++T'/\So κ (T'.take (min k n))/\b0=setArr st arr)
  (Q:=λ c b0=>c=(none,())/\∃(T':List Keyed)(arr:Array Keyed),T'.Perm T/\arr.toList=L++T'/\So κ (T'.take n)/\b0=setArr st arr) ?step ?fin ?init) ?post)
 case post =>
  rintro c b0 ⟨rfl,T',arr,p,e,V1,rfl⟩;exact Vo (h T' arr p e V1)
 case fin =>
  rintro c b0 ⟨hc,T',arr,p,e,V1,rfl⟩;rw[show min (max (max ok 1) n) n=n by omega] at V1;exact⟨hc,T',arr,p,e,V1,rfl⟩
 case init =>
  refine⟨rfl,T,arrOf st,Ju _,ea,?_,rfl⟩;by_cases h1:ok=0
  ·subst h1;rw[show min (max 0 1) n=1 by omega];exact qdi T
  ·rw[show min (max ok 1) n=ok by omega];exact so
 case step =>
  rintro k c b0 hak hkn ⟨rfl,T',arr,p,e,V1,rfl⟩;rw[show min k n=k by omega] at V1;have lT:T'.length=T.length:=p.length_eq;have kT':∀ x∈T',Kd κ x:=λ x hx=>kT x (p.mem_iff.mp hx)
  have hkl:k<T'.length:=by omega
  have N0:kindOf (setArr st arr)=oneType':=hk;refine Vp (Vq (Q4 (I:=λ x c l0=>l0=setArr st arr/\∃ l r,c=(none,l,r)/\l<=r/\r<=k/\r-l<=k-x /\
    (∀ y∈(T'.take k).take l,kl κ y T'[k])/\(∀ y∈(T'.take k).drop r,kl κ T'[k] y))
   (Q:=λ c l0=>l0=setArr st arr/\∃ l r,c=(none,l,r)/\l<=k/\(∀ y∈(T'.take k).take l,kl κ y T'[k])/\(∀ y∈(T'.take k).drop l,kl κ T'[k] y)) ?istep ?ifin ?iinit) ?ipost)
  case iinit=>exact⟨rfl,0,k,rfl,by omega,by omega,by omega,λ y hy=>by simp at hy,λ y hy=>by rw[XG (by rw[Ue];omega)] at hy;cases hy⟩
  case ifin =>
   rintro c l0 ⟨rfl,l,r,rfl,hlr,hrk,hm,h1,h2⟩
   have:l=r:=by omega
   subst this;exact⟨rfl,l,l,rfl,hrk,h1,h2⟩
  case istep =>
   rintro x c l0 _ hxk ⟨rfl,l,r,rfl,hlr,hrk,hm,h1,h2⟩;dsimp only;by_cases hge:l ≥ r
   ·rw[Vy hge]
    have:l=r:=by omega
    subst this;exact Vo ⟨rfl,l,l,rfl,hrk,h1,h2⟩
   ·rw[Vz hge];have hml:(l+r) / 2<T'.length:=by omega
    have hmk:(l+r) / 2<(T'.take k).length:=by rw[Ue];omega
    refine Vp (qbv hO N0 (jv e hkl) (jv e hml) (kT' _ (Uk _)) (kT' _ (Uk _)) ?_);cases hc:κ.blt (ky κ T'[k]) (ky κ T'[(l+r) / 2])
    case true =>
     simp only[Vv];refine Vo ⟨rfl,l,(l+r) / 2,rfl,by omega,by omega,by omega,h1,λ y hy=>?_⟩;obtain⟨j,hj,rfl⟩:=Yw hy;rw[Uf] at hj;rw[List.getElem_drop];rcases Nat.eq_zero_or_pos j with h3|h3
     ·subst h3;have e3:(T'.take k)[(l+r) / 2+0]'(by omega)=T'[(l+r) / 2]:=by rw[Z0];rfl
      rw[e3];exact Zz hc
     ·have:=Xr.mp V1 ((l+r) / 2) ((l+r) / 2+j) hmk (by omega) (by omega)
      rw[Z0] at this;exact Um (Zz hc) this
    case false =>
     simp only[Ze,Vn];refine Vo ⟨rfl,(l+r) / 2+1,r,rfl,by omega,by omega,by omega,λ y hy=>?_,h2⟩;obtain⟨j,hj,rfl⟩:=Yw hy;rw[Ue] at hj;rw[Z0];rcases Qy j ((l+r) / 2) with h3|h3
     ·have:=Xr.mp V1 j ((l+r) / 2) (by omega) hmk h3
      rw[Z0 (j:=k) (i:=(l+r) / 2)] at this;exact Um this hc
     ·have:j=(l+r) / 2:=by omega
      subst this;rw[Z0];exact hc
  case ipost =>
   rintro c l0 ⟨rfl,l,r,rfl,hlk,h1,h2⟩;show wpS _ _ _ _ (do moveDown' (L.length+k) (L.length+l);pure (ForInStep.yield (none,()))) _ _
   rw[moveDown'_eq];have eT:T'=(T'.take k).take l++((T'.take k).drop l++(T'[k]::T'.drop (k+1))):=by
    rw[<- Zx,XU,<- Xq,XU]
   have lS:((T'.take k).drop l).length=k-l:=by rw[Uf,Ue];omega
   have lU:(L++(T'.take k).take l).length=L.length+l:=by rw[Zb,Ue,Ue];omega
   have bl:=qca (x:=T'[k]) (V:=T'.drop (k+1)) ((T'.take k).drop l) (L++(T'.take k).take l) arr (by rw[e,Zx];conv=>lhs;rw[eT]);rw[lU,lS] at bl;refine Vp (Vl (Vo ⟨rfl,(T'.take k).take l++(T'[k]::((T'.take k).drop l++T'.drop (k+1))),bubble arr (L.length+k) (L.length+k-(L.length+l)),?_,?_,?_,rfl⟩))
   ·refine List.Perm.trans ?_ p
    conv=>rhs;rw[eT]
    exact(List.perm_middle.symm).append_left _
   ·rw[show L.length+k-(L.length+l)=k-l by omega];rw[show L.length+l+(k-l)=L.length+k by omega] at bl;rw[bl,Zx]
   ·rw[show min (k+1) n=k+1 by omega];have e3:((T'.take k).take l++(T'[k]::((T'.take k).drop l++T'.drop (k+1)))).take (k+1)=(T'.take k).take l++(T'[k]::(T'.take k).drop l):=by
     rw[show(T'.take k).take l++(T'[k]::((T'.take k).drop l++T'.drop (k+1)))=((T'.take k).take l++(T'[k]::(T'.take k).drop l))++T'.drop (k+1) by simp];rw[show k+1=((T'.take k).take l++(T'[k]::(T'.take k).drop l)).length by rw[Zb,Uc,lS,Ue,Ue];omega,Jz]
    rw[e3];have xH:So κ ((T'.take k).take l++(T'.take k).drop l):=by rw[XU];exact V1
    have so3:=Yk.mp xH;refine Yk.mpr ⟨so3.1,Zc.mpr ⟨h2,so3.2.1⟩,λ y hy z hz=>?_⟩;rcases Qb.mp hz with h4|h4
    ·rw[h4];exact h1 y hy
    ·exact so3.2.2 y hy z h4
end
noncomputable def asc(lo a nrem:Nat):SM (Option (Option Nat)×Nat):=forIn [a:nrem] ((none,a):Option (Option Nat)×Nat) λ _ r=>do
 let c <- ltAt' (lo+r.2) (lo+r.2-1)
 match c with
 |some c=>if c then pure (.done (none,r.2)) else pure (.yield (none,r.2+1))
 |_=>pure (.done (some none,r.2))
abbrev Nk(κ:KeyKind)(l:List Keyed):Prop:=l.Pairwise λ x y=>ky κ x≠ky κ y
section
variable {prog:Program}{w:World}{A:Around}{E:Value->Shared->Prop}{s:Shared}{κ:KeyKind}{st:SortSt}
theorem qke(hO:κ.OneLt) {lo:Nat}(hk:kindOf st=oneType')(ea:(arrOf st).toList=L++T)(hL:L.length=lo)(ha:1<=a)(haT:a<=T.length)(kT:∀ x∈T,Kd κ x)(so:So κ (T.take a))(h:∀ n,a<=n->n<=T.length->So κ (T.take n)->(∀(hn:n<T.length),κ.klt (ky κ T[n]) (ky κ (T[n-1]'(by omega))))->Q (none,n) st):wpS (model prog w) A E s (asc lo a T.length) Q st:=by
 subst hL;unfold asc;refine Q4 (I:=λ x c b0=>b0=st/\c=(none,x)/\So κ (T.take x)) ?step ?fin ⟨rfl,rfl,so⟩
 case fin =>
  rintro c b0 ⟨rfl,rfl,V1⟩;rw[show max a T.length=T.length by omega] at V1 ⊢;exact h T.length haT (Q5 _) V1 (λ hn=>absurd hn (Qa _))
 case step =>
  rintro x c b0 dY hx ⟨rfl,rfl,V1⟩;dsimp only;have e2:(arrOf b0)[L.length+x-1]?=some (T[x-1]'(by omega)):=by
   rw[show L.length+x-1=L.length+(x-1) by omega];exact jv ea (by omega)
  refine Vp (qbv hO hk (jv ea hx) e2 (kT _ (Uk _)) (kT _ (Uk _)) ?_);cases hc:κ.blt (ky κ T[x]) (ky κ (T[x-1]'(by omega)))
  case true =>
   simp only[Vv];exact Vo (h x dY (by omega) V1 (λ _=>hc))
  case false =>
   simp only[Ze,Vn];exact Vo ⟨rfl,rfl,qaL qkd V1 (by omega) hx hc⟩
theorem qeU(hO:κ.OneLt){lo:Nat}(hk:kindOf st=oneType')(ea:(arrOf st).toList=L++T)(hL:L.length=lo)(h1:1<=T.length)(kT:∀ x∈T,Kd κ x)(nk:Nk κ T)(h:∀(m:Nat)(T':List Keyed)(arr:Array Keyed),T'.Perm T->arr.toList=L++T'->1<=m->m<=T.length->So κ (T'.take m)->Q (some m) (setArr st arr)):wpS (model prog w) A E s (countRun' lo T.length) Q st:=by
 rw[countRun'_eq];refine Vp (show wpS (model prog w) A E s (asc lo 1 T.length) _ _ from qke hO hk ea hL (Q5 _) h1 kT (qdi T) λ n n1 n2 so hn=>?_);dsimp only;by_cases hnn:n=T.length
 ·rw[Vy (by simpa using hnn)];exact Vo (h n T (arrOf st) (Ju _) ea n1 n2 so)
 rw[Vz (by simpa using hnn)];by_cases hgt:n > 1
 ·rw[Vy hgt];have e0:(arrOf st)[lo]?=some T[0]:=by rw[<- hL];exact jv (i:=0) ea (by omega)
  have e1:(arrOf st)[lo+n-1]?=some (T[n-1]'(by omega)):=by
   rw[<- hL,show L.length+n-1=L.length+(n-1) by omega];exact jv ea (by omega)
  refine Vp (qbv hO hk e0 e1 (kT _ (Uk _)) (kT _ (Uk _)) ?_);have i7:κ.blt (ky κ T[0]) (ky κ (T[n-1]'(by omega)))=true:=by
   cases hc:κ.blt (ky κ T[0]) (ky κ (T[n-1]'(by omega))) with
   |true=>rfl
   |false =>
    have h2:=Xr.mp so 0 (n-1) (by rw[Ue];omega) (by rw[Ue];omega) (by omega);rw[Z0,Z0] at h2;exact absurd (KeyOrd.kle_antisymm (O:=κ.toKeyOrd) h2 hc) (Xr.mp nk 0 (n-1) (by omega) (by omega) (by omega))
  rw[i7];dsimp only;rw[Vy rfl];exact Vo (h n T (arrOf st) (Ju _) ea n1 n2 so)
 rw[Vz hgt];have hn1:n=1:=by omega
 subst hn1;refine Vp (wpS_lift (Vk ⟨rfl,?_⟩));refine Vp (Vq (Q4 (I:=λ x c b0=>b0=st/\c=(none,x,0)/\(T.take x).Pairwise (λ x y=>kl κ y x))
  (Q:=λ c b0=>b0=st/\∃ x,c=(none,x,0)/\2<=x/\x<=T.length/\(T.take x).Pairwise (λ x y=>kl κ y x)) ?step ?fin ⟨rfl,rfl,?init⟩) ?post)
 case init =>
  exact qaL (r:=λ x y=>kl κ y x) (λ x y z a b=>qkd _ _ _ b a) (qdi T) (Q5 _) (by omega) (Zz (hn (by omega)))
 case fin =>
  rintro c b0 ⟨rfl,rfl,hp⟩;rw[show max (1+1) T.length=T.length by omega] at hp ⊢;exact⟨rfl,_,rfl,by omega,Q5 _,hp⟩
 case step =>
  rintro x c b0 dY hx ⟨rfl,rfl,hp⟩;dsimp only;have ex:(arrOf b0)[lo+x]?=some T[x]:=by rw[<- hL];exact jv ea hx
  have ey:(arrOf b0)[lo+x-1]?=some (T[x-1]'(by omega)):=by
   rw[<- hL,show L.length+x-1=L.length+(x-1) by omega];exact jv ea (by omega)
  refine Vp (qbv hO hk ex ey (kT _ (Uk _)) (kT _ (Uk _)) ?_);cases hc:κ.blt (ky κ T[x]) (ky κ (T[x-1]'(by omega)))
  case true =>
   simp only[Vv];rw[Vz (by omega)];exact Vo ⟨rfl,rfl,qaL (r:=λ x y=>kl κ y x) (λ x y z a b=>qkd _ _ _ b a) hp (by omega) hx (Zz hc)⟩
  case false =>
   simp only[Ze,Vn];refine Vp (qbv hO hk ey ex (kT _ (Uk _)) (kT _ (Uk _)) ?_);have i7:κ.blt (ky κ (T[x-1]'(by omega))) (ky κ T[x])=true:=by
    cases oJ:κ.blt (ky κ (T[x-1]'(by omega))) (ky κ T[x]) with
    |true=>rfl
    |false=>exact absurd (KeyOrd.kle_antisymm (O:=κ.toKeyOrd) hc oJ) (Xr.mp nk (x-1) x (by omega) (by omega) (by omega))
   rw[i7];simp only[Vv];exact Vo ⟨rfl,x,rfl,dY,by omega,hp⟩
 case post =>
  rintro c b0 ⟨rfl,x,rfl,x2,xT,hp⟩;dsimp only;rw[Vz (by omega)];rw[reverseSlice'_eq];have ml:=qfY (L:=L) (D:=T.take x) (R:=T.drop x) (arr:=arrOf b0) (by rw[XU];exact ea);rw[Ue,show min x T.length=x by omega,hL] at ml;refine Vp (Vl ?_);have pT:((T.take x).reverse++T.drop x).Perm T:=by
   refine((List.reverse_perm _).append_right _).trans (List.Perm.of_eq (XU x T))
  have lT:((T.take x).reverse++T.drop x).length=T.length:=pT.length_eq;rw[<- lT];refine Vp (show wpS (model prog w) A E s (asc lo x ((T.take x).reverse++T.drop x).length) _ _ from qke (T:=(T.take x).reverse++T.drop x) hO hk ml hL (by omega) (by omega) (λ y hy=>kT y (pT.mem_iff.mp hy)) ?_ λ n n1 n2 so hn=>?_)
  ·have:x=(T.take x).reverse.length:=by rw[Y0,Ue];omega
   rw[Xb (by omega),XF (by omega)];exact List.pairwise_reverse.mpr hp
  ·exact Vo (h n _ _ pT ml (by omega) (by omega) so)
end
inductive Rs(κ:KeyKind):Nat->List (Nat×Nat×Nat)->List Keyed->Prop
 |nil (o:Nat):Rs κ o [] []
 |cons {o n p:Nat} {X:List Keyed} {ps:List (Nat×Nat×Nat)} {T:List Keyed}:X.length=n->0<n->So κ X->Rs κ (o+n) ps T->Rs κ o ((o,n,p)::ps) (X++T)
theorem Rs.snoc{κ:KeyKind}{o:Nat}{ps:List (Nat×Nat×Nat)}{T X:List Keyed}{n p:Nat}(h:Rs κ o ps T)(hX:X.length=n)(hn:0<n)(so:So κ X):Rs κ o (ps++[(o+T.length,n,p)]) (T++X):=by
 induction h with
 |nil o=>
  have:=Rs.cons (p:=p) (o:=o) hX hn so (Rs.nil (κ:=κ) (o+n))
  simpa using this
 |cons e1 e2 e3 _ ih =>
  rw[Zx,Zb,e1];refine Rs.cons e1 e2 e3 ?_;rw[<- Qj];exact ih
theorem Rs.len(h:Rs κ o ps T):ps.length<=T.length:=by
 induction h with
 |nil o=>exact Q5 _
 |cons e1 e2 _ _ ih=>rw[Uc,Zb];omega
theorem Rs.at2(h:Rs κ o ps T):∀{i:Nat}{sa na pa sb nb pb:Nat},ps[i]?=some (sa,na,pa)->ps[i+1]?=some (sb,nb,pb) ->
  ∃ L X Y R,T=L++(X++(Y++R))/\o+L.length=sa/\X.length=na/\Y.length=nb/\0<na/\0<nb/\sb=sa+na/\So κ X/\So κ Y /\
   ∀ Z,Z.length=na+nb->So κ Z->Rs κ o ((ps.set i (sa,na+nb,pa)).eraseIdx (i+1)) (L++(Z++R)):=by
 induction h with
 |nil o=>intro i sa na pa sb nb pb h1 _;simp at h1
 | @cons o n p X ps T e1 e2 e3 hr ih =>
  intro i sa na pa sb nb pb h1 h2;cases i with
  |zero =>
   simp only[List.getElem?_cons_zero,Option.some.injEq,Prod.mk.injEq] at h1;obtain⟨rfl,rfl,rfl⟩:=h1;cases hr with
   |nil=>simp at h2
   | @cons _ n2 p2 Y ps T e4 e5 e6 hr =>
    simp only[List.getElem?_cons_succ,List.getElem?_cons_zero,Option.some.injEq,Prod.mk.injEq] at h2;obtain⟨rfl,rfl,rfl⟩:=h2;refine⟨[],X,Y,T,rfl,rfl,e1,e4,e2,e5,rfl,e3,e6,λ Z hZ so=>?_⟩;show Rs κ o ((o,n+n2,p)::ps) (Z++T)
    refine Rs.cons hZ (by omega) so ?_;rw[<- Qj];exact hr
  |succ i =>
   rw[List.getElem?_cons_succ] at h1 h2;obtain⟨L,X',Y,R,rfl,a1,a2,a3,a4,a5,a6,a7,a8,a9⟩:=ih h1 h2;refine⟨X++L,X',Y,R,by rw[Zx],by rw[Zb];omega,a2,a3,a4,a5,a6,a7,a8,λ Z hZ so=>?_⟩;rw[Zx];exact Rs.cons e1 e2 e3 (a9 Z hZ so)
theorem Rs.repower(h:Rs κ o ps T)(q:Nat):∀ i,Rs κ o (ps.modify i λ x=>(x.1,x.2.1,q)) T:=by
 induction h with
 |nil o=>intro i;cases i <;> exact Rs.nil _
 |cons e1 e2 e3 hr ih =>
  intro i;cases i with
  |zero=>exact Rs.cons e1 e2 e3 hr
  |succ i=>exact Rs.cons e1 e2 e3 (ih i)
theorem Rs.one(h:Rs κ 0 ps T)(hl:ps.length<=1):So κ T:=by
 cases h with
 |nil=>exact List.Pairwise.nil
 |cons e1 e2 e3 hr =>
  cases hr with
  |nil=>rw[U1];exact e3
  |cons _ _ _ _=>simp at hl
def Rt(κ:KeyKind)(a₀:List Keyed)(st:SortSt)(lo:Nat)(T:List Keyed):Prop:=
 kindOf st=oneType'/\failedOf st=none/\∃ D,(arrOf st).toList=D++T/\D.length=lo/\(D++T).Perm a₀/\Rs κ 0 (pendingOf st).toList D
section
variable {prog:Program}{w:World}{A:Around}{E:Value->Shared->Prop}{s:Shared}{κ:KeyKind}{st:SortSt}
theorem qaM(hO:κ.OneLt) {lo:Nat}(k0:∀ x∈a₀,Kd κ x)(rt:Rt κ a₀ st lo T)(hi:i+1<(pendingOf st).size)(h:∀ b0,Rt κ a₀ b0 lo T->(pendingOf b0).size+1=(pendingOf st).size->Q true b0):wpS (model prog w) A E s (mergeAt' i) Q st:=by
 obtain⟨hk,hf,D,ea,hD,pm,rs⟩:=rt;obtain⟨⟨sa,na,pa⟩,e1⟩:∃ x,(pendingOf st).toList[i]?=some x:=⟨_,Xv (by rw[Ys];omega)⟩;obtain⟨⟨sb,nb,pb⟩,e2⟩:∃ x,(pendingOf st).toList[i+1]?=some x:=⟨_,Xv (by rw[Ys];omega)⟩;obtain⟨L,X,Y,R,rfl,a1,a2,a3,a4,a5,a6,a7,a8,a9⟩:=rs.at2 e1 e2;have kd:∀ x∈X++Y,Kd κ x:=λ x hx=>k0 x (pm.mem_iff.mp (by
  rcases Uy.mp hx with h|h <;> simp[h]))
 refine qfX hO (L:=L) (X:=X) (Y:=Y) (R:=R++T) hk hf (by rw[<- XS];exact e1) (by rw[<- XS];exact e2) a6 (by rw[ea];simp only[Zx]) (by omega) a2 a3 a4 a5 a7 a8 (λ x hx=>kd x (Yg _ hx)) (λ x hx=>kd x (XN _ hx)) λ Z arr g pz sz ez=>?_
 have lZ:Z.length=na+nb:=by rw[pz.length_eq,Zb,a2,a3]
 refine h _ ⟨hk,hf,L++(Z++R),?_,?_,?_,?_⟩ ?_
 ·show arr.toList=_
  rw[ez];simp only[Zx]
 ·rw[<- hD];simp only[Zb];omega
 ·refine List.Perm.trans ?_ pm;refine List.Perm.append_right T (List.Perm.append_left L ?_);rw[<- Zx X];exact pz.append_right R
 ·show Rs κ 0 (((pendingOf st).setIfInBounds i (sa,na+nb,pa)).eraseIdxIfInBounds (i+1)).toList _
  rw[show(((pendingOf st).setIfInBounds i (sa,na+nb,pa)).eraseIdxIfInBounds (i+1)).toList=((pendingOf st).toList.set i (sa,na+nb,pa)).eraseIdx (i+1) by simp[Array.eraseIdxIfInBounds,hi]];exact a9 Z lZ sz
 ·show(((pendingOf st).setIfInBounds i (sa,na+nb,pa)).eraseIdxIfInBounds (i+1)).size+1=_
  simp only[Array.eraseIdxIfInBounds,Array.size_setIfInBounds,hi,Vx,Array.size_eraseIdx];omega
theorem Rt.len{lo:Nat}(h:Rt κ a₀ st lo T):lo+T.length=a₀.length:=by
 obtain⟨_,_,D,_,hD,pm,_⟩:=h
 have:=pm.length_eq
 rw[Zb] at this;omega
theorem Rt.push {lo:Nat}(h:Rt κ a₀ st lo T)(n1:1<=n)(n2:n<=T.length)(so:So κ (T.take n)):Rt κ a₀ (setPending st ((pendingOf st).push (lo,n,0))) (lo+n) (T.drop n):=by
 obtain⟨b1,b2,D,b3,b4,b5,b6⟩:=h;refine⟨b1,b2,D++T.take n,?_,?_,?_,?_⟩
 ·show(arrOf st).toList=_
  rw[b3,Zx,XU]
 ·rw[Zb,Ue];omega
 ·rw[Zx,XU];exact b5
 ·show Rs κ 0 ((pendingOf st).push (lo,n,0)).toList _
  rw[Zu]
  have:=b6.snoc (p:=0) (X:=T.take n) (n:=n) (by rw[Ue];omega) (by omega) so
  rw[Qw,b4] at this;exact this
theorem Rt.repower {lo:Nat}(h:Rt κ a₀ st lo T)(hf:f=λ x=>(x.1,x.2.1,q))(i:Nat):Rt κ a₀ (setPending st ((pendingOf st).modify i f)) lo T:=by
 subst hf;obtain⟨b1,b2,D,b3,b4,b5,b6⟩:=h;refine⟨b1,b2,D,b3,b4,b5,?_⟩;show Rs κ 0 ((pendingOf st).modify i λ x=>(x.1,x.2.1,q)).toList D
 rw[Array.toList_modify];exact b6.repower _ _
theorem qdO(hO:κ.OneLt)(k0:∀ x∈a₀.toList,Kd κ x)(nk:Nk κ a₀.toList)(hk:kindOf st=oneType')(hf:failedOf st=none)(hp:pendingOf st=#[])(ha:arrOf st=a₀)(h:∀ b0,(arrOf b0).Perm a₀->failedOf b0=none->So κ (arrOf b0).toList->Q () b0):wpS (model prog w) A E s sortRuns' Q st:=by
 have nkp:∀{l:List Keyed},l.Perm a₀.toList->Nk κ l:=λ p=>(p.pairwise_iff (λ{x y} hxy e=>hxy e.symm)).mpr nk
 rw[sortRuns'_eq];refine Vp (Vw ?_);dsimp only;rw[ha];have rt0:Rt κ a₀.toList st 0 a₀.toList:=⟨hk,hf,[],by rw[ha];rfl,rfl,Ju _,by rw[hp];exact Rs.nil _⟩;refine Vp (Vq (Q4
  (I:=λ x (c:Option Unit×Nat) b0=>c.1=none/\∃ T,Rt κ a₀.toList b0 c.2 T/\(x<=c.2∨c.2=a₀.size))
  (Q:=λ c b0=>c.1=none/\Rt κ a₀.toList b0 a₀.size []) ?step ?fin ⟨rfl,_,rt0,.inl (Q5 _)⟩) ?post)
 case fin =>
  rintro⟨v,lo⟩ b0 ⟨hv,T,rt,hx⟩
  have:=rt.len
  have hl0:a₀.toList.length=a₀.size:=Ys;change lo+_=_ at this
  change max 0 a₀.size<=lo∨lo=a₀.size at hx
  have e:lo=a₀.size:=by omega
  have e2:T=[]:=X8.mp (by omega);subst e;subst e2;exact⟨hv,rt⟩
 case step =>
  rintro x ⟨v,lo⟩ b0 _ hx ⟨hv,T,rt,xR⟩;have bK:v=none:=hv;subst bK;change x<=lo∨lo=a₀.size at xR
  change Rt κ a₀.toList b0 lo T at rt
  dsimp only;have F0:=rt.len;have hl0:a₀.toList.length=a₀.size:=Ys;by_cases hge:lo ≥ a₀.size
  ·rw[Vy hge];have e:lo=a₀.size:=by omega
   have e2:T=[]:=X8.mp (by omega);subst e;subst e2;exact Vo ⟨rfl,rt⟩
  rw[Vz hge];obtain⟨N0,hf',D,ea,hD,pm,rs⟩:=rt;have lT:a₀.size-lo=T.length:=by omega
  have kT:∀ x∈T,Kd κ x:=λ x hx=>k0 x (pm.mem_iff.mp (XN _ hx))
  have nT:Nk κ T:=(Yk.mp (nkp pm)).2.1;rw[lT];refine Vp (qeU hO N0 ea hD (by omega) kT nT λ m T1 lK p1 ea1 m1 m2 so1=>?_);dsimp only;have l1:T1.length=T.length:=p1.length_eq;have xL:∀(T2:List Keyed)(aC:Array Keyed),T2.Perm T->aC.toList=D++T2->Rt κ a₀.toList (setArr b0 aC) lo T2:=λ T2 aC p2 ea2=>⟨N0,hf',D,ea2,hD,(p2.append_left D).trans pm,rs⟩
  by_cases i7:m<minRun' a₀.size a₀.size 0
  ·rw[Vy i7];refine Vp (wpS_lift (Vk ⟨rfl,?_⟩));refine Vp (qdj hO (st:=setArr b0 lK) N0 ea1 hD (n:=min T.length (minRun' a₀.size a₀.size 0)) (by omega) (by omega) (λ y hy=>kT y (p1.mem_iff.mp hy)) so1 (by omega) λ T2 aC p2 ea2 xH=>?_);simp only[Qh,Ze,Vn];have l2:T2.length=T.length:=(p2.trans p1).length_eq;refine Vp (Vw ?_);cases(pendingOf (setArr b0 aC)).back? with
   |none =>
    dsimp only;exact Vp (Vl (Vo ⟨rfl,_,Rt.push (xL T2 aC (p2.trans p1) ea2) (by omega) (by omega) xH,.inl (by show x+1<=lo+min T.length (minRun' a₀.size a₀.size 0);omega)⟩))
   |some u =>
    obtain⟨s1,k1,z⟩:=u;dsimp only;refine Vp (Vq (Q4 (I:=λ _ (c:Option Unit×Unit) l0=>c=(none,())/\Rt κ a₀.toList l0 lo T2) (Q:=λ c l0=>c=(none,())/\Rt κ a₀.toList l0 lo T2) ?cstep (λ _ _ hh=>hh) ⟨rfl,xL T2 aC (p2.trans p1) ea2⟩) ?cpost)
    case cstep =>
     rintro y c l0 _ _ ⟨rfl,R4⟩;refine Vp (Vw ?_);by_cases h2:(pendingOf l0).size > 1
     ·rw[Vy h2];obtain⟨⟨u,v,z⟩,e⟩:∃ x,(pendingOf l0)[(pendingOf l0).size-2]?=some x:=⟨_,getElem?_pos _ _ (by omega)⟩;rw[e];dsimp only;by_cases h3:z<=power' a₀.size (2*s1+k1) (2*s1+k1+k1+min T.length (minRun' a₀.size a₀.size 0)) a₀.size
      ·rw[Vy h3];exact Vo ⟨rfl,R4⟩
      ·rw[Vz h3];refine Vp (qaM hO k0 R4 (by omega) λ G5 rS _=>?_);simp only[Qh,Ze,Vn];exact Vo ⟨rfl,rS⟩
     ·rw[Vz h2];exact Vo ⟨rfl,R4⟩
    case cpost =>
     rintro c l0 ⟨rfl,R4⟩;dsimp only;refine Vp (Vl ?_);refine Vp (Vl (Vo ⟨rfl,_,Rt.push (R4.repower rfl _) (by omega) (by omega) xH,.inl (by show x+1<=lo+min T.length (minRun' a₀.size a₀.size 0);omega)⟩))
  ·rw[Vz i7];refine Vp (Vw ?_);cases(pendingOf (setArr b0 lK)).back? with
   |none =>
    dsimp only;exact Vp (Vl (Vo ⟨rfl,_,Rt.push (xL T1 lK p1 ea1) m1 (by omega) so1,.inl (by show x+1<=lo+m;omega)⟩))
   |some u =>
    obtain⟨s1,k1,z⟩:=u;dsimp only;refine Vp (Vq (Q4 (I:=λ _ (c:Option Unit×Unit) l0=>c=(none,())/\Rt κ a₀.toList l0 lo T1) (Q:=λ c l0=>c=(none,())/\Rt κ a₀.toList l0 lo T1) ?cstep (λ _ _ hh=>hh) ⟨rfl,xL T1 lK p1 ea1⟩) ?cpost)
    case cstep =>
     rintro y c l0 _ _ ⟨rfl,R4⟩;refine Vp (Vw ?_);by_cases h2:(pendingOf l0).size > 1
     ·rw[Vy h2];obtain⟨⟨u,v,z⟩,e⟩:∃ x,(pendingOf l0)[(pendingOf l0).size-2]?=some x:=⟨_,getElem?_pos _ _ (by omega)⟩;rw[e];dsimp only;by_cases h3:z<=power' a₀.size (2*s1+k1) (2*s1+k1+k1+m) a₀.size
      ·rw[Vy h3];exact Vo ⟨rfl,R4⟩
      ·rw[Vz h3];refine Vp (qaM hO k0 R4 (by omega) λ G5 rS _=>?_);simp only[Qh,Ze,Vn];exact Vo ⟨rfl,rS⟩
     ·rw[Vz h2];exact Vo ⟨rfl,R4⟩
    case cpost =>
     rintro c l0 ⟨rfl,R4⟩;dsimp only;refine Vp (Vl ?_);refine Vp (Vl (Vo ⟨rfl,_,Rt.push (R4.repower rfl _) m1 (by omega) so1,.inl (by show x+1<=lo+m;omega)⟩))
 case post =>
  rintro⟨v,lo⟩ b0 ⟨hv,rt⟩;have bK:v=none:=hv;subst bK;dsimp only;have fin:∀ b0,Rt κ a₀.toList b0 a₀.size []->(pendingOf b0).size<=1->Q () b0:=by
   rintro b0 ⟨b1,b2,D,b3,b4,b5,b6⟩ hs;rw[U1] at b3 b5;exact h b0 (Array.perm_iff_toList_perm.mpr (by rw[b3];exact b5)) b2 (by rw[b3];exact b6.one (by rw[Ys];exact hs))
  have hsz:(pendingOf b0).size<=a₀.size:=by
   obtain⟨b1,b2,D,b3,b4,b5,b6⟩:=rt
   have:=b6.len
   rw[Ys] at this;omega
  refine Vp (Vq (Q4 (I:=λ x (c:Option Unit×Unit) l0=>c=(none,())/\Rt κ a₀.toList l0 a₀.size []/\((pendingOf l0).size<=1∨(pendingOf l0).size+x<=a₀.size))
   (Q:=λ c l0=>c=(none,())/\Rt κ a₀.toList l0 a₀.size []/\(pendingOf l0).size<=1) ?step2 ?fin2 ⟨rfl,rt,.inr hsz⟩) ?post2)
  case post2 =>
   rintro c l0 ⟨rfl,R4,hs⟩;exact Vo (fin l0 R4 hs)
  case fin2 =>
   rintro c l0 ⟨rfl,R4,hs⟩;exact⟨rfl,R4,by omega⟩
  case step2 =>
   rintro x c l0 _ hx ⟨rfl,R4,hs⟩;refine Vp (Vw ?_);by_cases h1:(pendingOf l0).size<=1
   ·rw[Vy h1];exact Vo ⟨rfl,R4,h1⟩
   ·rw[Vz h1];refine Vp (qaM hO k0 R4 ?_ λ G5 rS hs3=>?_)
    ·repeat' split
     all_goals omega
    ·simp only[Qh,Ze,Vn];exact Vo ⟨rfl,rS,.inr (by omega)⟩
end
end FsS
namespace FsS
open PySem PyProof.Rows PySem.Spec
section
variable {prog:Program}{w:World}{A:Around}{E:Value->Shared->Prop}{s:Shared}
theorem So.to(h:So κ xs.toList):SortedToK κ xs xs.size:=by
 intro i j hij hj;have kk:∀ k,(hk:k<xs.size)->KK κ xs k=ky κ xs[k]:=λ k hk=>by
  unfold KK ky;rw[getElem?_pos xs k hk]
 rw[kk i (by omega),kk j hj];rcases Qy i j with h1|h1
 ·have:=Xr.mp h i j (by rw[Ys];omega) (by rw[Ys];omega) h1
  simpa using this
 ·have:i=j:=by omega
  subst this;exact Jc _
theorem nk_strs:∀{vs:List Value}{ss:List Str},StrsAre vs ss->ss.Nodup->Nk strKind (vs.zip vs)
 |_,_,.nil,_=>List.Pairwise.nil
 |_,_,.cons (ys:=ss) x t h,nd=>by
  have G6:=U2.mp nd;rw[Zd];refine Zc.mpr ⟨λ p hp e=>?_,nk_strs h G6.2⟩;have hm:=(mem_zip_self hp).2;obtain⟨y,u,ey⟩:=h.all _ hm;have hy:y∈ss:=by
   rw[<- h.strs];exact Qu.mpr ⟨p.1,hm,by rw[ey];rfl⟩
  have e1:ky strKind p=y.cps.toList:=by unfold ky;rw[ey];rfl
  have e2:x.cps.toList=y.cps.toList:=(show ky strKind (Value.str x t,Value.str x t)=_ from rfl).symm.trans (e.trans e1);have e3:x=y:=by
   cases x;cases y
   congr 1
   exact Array.toList_inj.mp e2
  exact G6.1 (e3 ▸ hy)
theorem sort_method(one:κ.OneLt)(at_:s.heap.get? l=some (seqObj "list" vs.toArray c))(ks:KeysOf κ (pairsOf vs))(un:Nk κ (pairsOf vs).toList)(kind:∀ u v r,vs=u::v::r->keyKind' (u::v::r).toArray=pure oneType')(few:vs.length<100000)(fin:∀ b0:SortSt,(arrOf b0).Perm (pairsOf vs)->SortedToK κ (arrOf b0) (pairsOf vs).size->R (.done (.ret .none)) { s with heap:=sortedHeap s.heap l vs ((arrOf b0).map (·.2)) }):
  wpAny (model prog w) A (Builtin.«list.sort» ⟨[.ref l],[]⟩) R E s:=by
 by_cases short:vs.length<64
 ·exact list_sort_treeK one at_ ks kind short fin
 have lt0:l<s.heap.objs.size:=Qo at_;rw[list_sort_plain];refine Ve (listItems_at at_ rfl (Ve (listUpdate_at at_ rfl ?_ (by rw[Q9,Zo];omega))));obtain⟨e,h1⟩:∃ e,(s.heap.update l (Obj.mapSeq λ _=>#[])).get? l=some (seqObj "list" #[] e):=⟨_,get?_update_seq at_ (λ _=>#[])⟩;refine Ve (seqEpoch_at h1 rfl (Ve (wpAny_newTuple (Ve (Qn (Qk ?_))))));have h2:(((s.heap.update l (Obj.mapSeq λ _=>#[])).push (seqObj "tuple" vs.toArray 0)).push (seqObj "list" #[] 0)).get? l=some (seqObj "list" #[] e):=
  (Heap.get?_push_ne _ _ _ (by rw[size_push',Heap.size_update];exact Qp (Zt lt0))).trans ((Heap.get?_push_ne _ _ _ (by rw[Heap.size_update];exact Qp lt0)).trans h1)
 show wpAny (model prog w) A _ R E { s with heap:=((s.heap.update l (Obj.mapSeq λ _=>#[])).push (seqObj "tuple" vs.toArray 0)).push (seqObj "list" #[] 0) }
 have big:¬ vs.toArray.size<2:=by simp;omega
 dsimp only;rw[Vz big,Vz big];obtain⟨u,v,r,rfl⟩:∃ u v r,vs=u::v::r:=by
  match vs,short with
  | [],h=>simp at h
  | [_],h=>simp at h
  |u::v::r,_=>exact⟨u,v,r,rfl⟩
 rw[kind u v r rfl];refine Ve (Vg (Ve (Vd (qdO one (a₀:=pairsOf (u::v::r)) (st:=SortSt.mk' oneType' (pairsOf (u::v::r)) #[] 7 none)
  (Q:=λ _ b0=>(arrOf b0).Perm (pairsOf (u::v::r))/\failedOf b0=none/\So κ (arrOf b0).toList) ks un rfl rfl rfl rfl λ b0 p f o=>⟨p,f,o⟩) ?_ λ _ _ z=>z)))
 rintro⟨⟨⟩,b0⟩ s' ⟨rfl,p,f,o⟩;have sz:(arrOf b0).size=(u::v::r).length:=p.size_eq.trans (pairsOf_size _);dsimp only;refine Ve (seqEpoch_at h2 rfl (Ve (listUpdate_at h2 rfl ?_ (hsz2:=by rw[Array.size_map,sz,Q9];omega))));rw[f];simp only[Z9,Ze,Vn];refine Vg (fin b0 p ?_);rw[<- p.size_eq];exact o.to
end
end FsS
namespace L2
open PySem PySem.Spec PyProof.Rows
section
variable {prog:Program}{w:World}{A:Around}{E:Value->Shared->Prop}{s:Shared}
theorem qiW(hh:A.handled=none)(hS:qP prog w s.heap S ys)(few:ys.length<4096)(un:ys.Nodup)(h:∀(l:Addr)(h':Heap)(tk e:Nat)(d:Drawn)(out:Array Value)(E5:List Str),(∀ b o,s.heap.get? b=some o->h'.get? b=some o)->s.heap.objs.size<=l->h'.get? l=some (seqObj "list" out e)->StrsAre out.toList E5->E5.Perm ys->sortedS E5=true ->
   Q (.ref l) { s with heap:=h',toks:=tk,drawn:=d }):wpAny (model prog w) A (call (.builtin "sorted") [.ref S]) Q E s:=by
 refine Xo kind_sorted plain_sorted entry_sorted (args_sorted1 _) ?_;unfold Builtin.«sorted»;refine Ve (m:=checkCount "sorted" 1 1 _) (Vg ?_);refine Ve (qeb (by simpa using hh) hS λ h1 tk d vs zs hk F0 hz hA=>?_);have nz:zs.Nodup:=hz.nodup_iff.mpr un;have hl:vs.length<100000:=by
  have:vs.length=zs.length:=hA.length
  rw[this,hz.length_eq];omega
 refine Ve (Qn ?_);have iM:(h1.push (seqObj "list" vs.toArray 0)).get? h1.objs.size=some (seqObj "list" vs.toArray 0):=Yt _ rfl;refine Ve (Qk (Uv slot_list_sort ⟨_,iM,rfl⟩ entry_list_sort (FsS.sort_method strKind_oneLt iM hA.keysOf (by rw[pairsOf_toList];exact FsS.nk_strs hA nz) (λ v₁ v₂ rest e=>keyKind_strs (by rw[<- e];exact hA)) hl λ b0 a1 a2=>⟨_,rfl,?_⟩) (args_list_sort _)));obtain⟨E5,b1,b2,b3⟩:=sorted_out_str hA a1 a2;obtain⟨e,he⟩:=sortedHeap_at (out:=(arrOf b0).map (·.2)) iM;refine Vg ⟨_,rfl,h h1.objs.size _ tk e d _ E5 (λ b o q=>?_) (Qr F0) he b1 (b2.trans hz) b3⟩;have q1:=hk b o q;have hb:=Qo q1;rw[sortedHeap_old (Qp hb) (by rw[Jr];exact Zt hb)];exact XB _ q1
theorem qiX(hl:s.heap.IsList l vs.toArray)(hA:StrsAre vs ss)(few:vs.length<4096)(un:ss.Nodup)(h:∀(out:Array Value)(E5:List Str),StrsAre out.toList E5->E5.Perm ss->sortedS E5=true->Q (.ref (s.heap.objs.size+1)) { s with heap:=sortedAll s.heap vs out }):
  wpAny (model prog w) A (call (.builtin "sorted") [.ref l]) Q E s:=by
 refine Xo kind_sorted plain_sorted entry_sorted (args_sorted1 _) ?_;unfold Builtin.«sorted»;refine Ve (m:=checkCount "sorted" 1 1 _) (Vg ?_);refine Ve (collect_list hl (Ve (Qn ?_)));generalize hg:(s.heap.push (seqObj "list" #[] 0)).update s.heap.objs.size (Obj.mapSeq (·++vs.toArray))=g;have sz:g.objs.size=s.heap.objs.size+1:=by rw[<- hg,Heap.size_update,size_push']
 have at_:(g.push (seqObj "list" vs.toArray 0)).get? (s.heap.objs.size+1)=some (seqObj "list" vs.toArray 0):=by rw[<- sz];exact Yt _ rfl
 show wpAny _ _ _ _ _ { s with heap:=g.push (seqObj "list" vs.toArray 0) }
 rw[sz];refine Ve (Qk (Uv slot_list_sort ⟨_,at_,rfl⟩ entry_list_sort (FsS.sort_method strKind_oneLt at_ hA.keysOf (by rw[pairsOf_toList];exact FsS.nk_strs hA un) (λ v₁ v₂ rest e=>keyKind_strs (by rw[<- e];exact hA)) (by omega) λ b0 a1 a2=>⟨_,rfl,?_⟩) (args_list_sort _)));obtain⟨E5,b1,b2,b3⟩:=sorted_out_str hA a1 a2
 have:=h _ E5 b1 b2 b3
 refine Vg ⟨_,rfl,?_⟩;subst hg;exact this
end
section
variable {X:Cx}
theorem kg(hc:X.calm=true):yG X (.builtin "sorted") (λ xs H Q=>∃ p ys,xs=[.ref p]/\H p=some (qeI X.prog X.w p ys)/\ys.length<4096/\ys.Nodup/\∀ l,H l=none->Q (.ref l) (upd H l (.lst ((qbg ys).map V.str)))):=by
 intro pins s σ H xs us Q I r h;obtain⟨p,ys,rfl,hp,W2,un,q⟩:=h;obtain⟨u,rfl,ru⟩:=zT r;cases ru
 obtain⟨o7,E9,hS⟩:=I.set hp;refine qiW (I.ok.hd hc) hS (by rw[E9.length_eq];exact W2) (E9.nodup_iff.mpr un) λ l h' tk e d out E5 hk F0 he h1 h2 h3=>?_
 have es:=qeG (h2.trans E9) h3;subst es;have hf:=I.hok.fresh F0;refine⟨.ref l,upd H l (.lst ((qbg ys).map V.str)),I.call' (s':={ s with heap:=h',toks:=tk,drawn:=d }) (ch:=[]) rfl (Un.laid hk F0 hf) (I.hok.laid hk F0 ⟨?_,out.toList,e,j8 h1,he⟩) I.bare (λ _ z=>nomatch z),rfl,q _ hf⟩
 have:(qbg ys).length=ys.length:=(h2.trans E9).length_eq
 rw[U0,this];exact Qr (Y8 W2 (by decide))
theorem qdk:yG X (.builtin "sorted") (λ xs H Q=>∃ p ss,xs=[.ref p]/\SqL X.K H p (ss.map V.str)/\ss.length<4096/\ss.Nodup/\∀ l,H l=none->Q (.ref l) (upd H l (.lst ((qbg ss).map V.str)))):=by
 intro pins s σ H xs us Q I r h;obtain⟨p,ss,rfl,hq,W2,un,q⟩:=h;obtain⟨u,rfl,ru⟩:=zT r;cases ru
 obtain⟨its,rv,pl,hz⟩:=I.list hq;have hl:=rv.length;rw[U0] at hl;refine qiX pl.isList (j7 rv) (by omega) un λ out E5 h1 h2 h3=>?_
 obtain⟨e,he⟩:=sortedAll_at s.heap its out;have es:=qeG h2 h3;subst es;refine⟨.ref (s.heap.objs.size+1),_,I.laid (a:=s.heap.objs.size+1) (o:=.lst ((qbg ss).map V.str)) (t':=s.toks) (λ _ _=>sortedAll_old) (Q7 _) ⟨?_,out.toList,e,j8 h1,he⟩,rfl,q _ (I.hok.fresh (Q7 _))⟩;rw[U0] at hz ⊢;rw[h2.length_eq];exact hz
end
end L2
namespace Fs
noncomputable def vE(ρ:Nat->Bool):Nat->List Nat->Nat
 |n,[]=>n
 |n,c::ls=>vE ρ (2*n+if ρ c then 1 else 0) ls
theorem kh(ρ:Nat->Bool):∀(ls:List Nat)(n:Nat),vE ρ n ls=n*2^ls.length+vE ρ 0 ls
 | [],n=>by simp[vE]
 |c::ls,n=>by
  rw[vE,kh ρ ls,vE,kh ρ ls (2*0+_),Uc,Qt];rw[Nat.add_mul,Nat.add_mul,<- Qj,Nat.mul_zero,Nat.zero_mul,Qw,Qx 2 n,Nat.mul_assoc,Qx 2]
theorem qh7(ρ:Nat->Bool):∀(ls:List Nat),vE ρ 0 ls<2^ls.length
 | []=>by simp[vE]
 |c::ls=>by
  rw[vE,kh,Uc,Qt]
  have:=qh7 ρ ls
  split <;> omega
theorem qdl(ρ:Nat->Bool):∀(ls:List Nat)(t:List Bool),t.length=2^ls.length->look ρ ls t=t.getD (vE ρ 0 ls) false
 | [],[b],_=>by simp[look,vE]
 |c::ls,t,h=>by
  rw[Uc,Qt] at h;have h1:(t.take (2^ls.length)).length=2^ls.length:=by rw[Ue];omega
  have h2:(t.drop (2^ls.length)).length=2^ls.length:=by rw[Uf];omega
  have hl:=qh7 ρ ls;rw[look,vE,kh];cases ρ c with
  |true =>
   simp only[Vv,Nat.mul_zero,Qw,Nat.one_mul];rw[qdl ρ ls _ h2];simp[Xj,Zf]
  |false =>
   simp only[Ze,Vn,Nat.mul_zero,Qw,Nat.zero_mul];rw[qdl ρ ls _ h1];simp[Xj,Xt hl]
theorem qdm:∀{ls:List Nat}{n:Nat},(∀ c∈ls,ρ c=τ c)->vE ρ n ls=vE τ n ls
 | [],n,_=>rfl
 |c::ls,n,h=>by rw[vE,vE,h c Y9];exact qdm λ d hd=>h d (Yf _ hd)
theorem qcb:∀{F:List Pr},(∀ p∈F,∀ c∈p,ρ c=τ c)->qy ρ F=qy τ F
 | [],_=>rfl
 |p::F,h=>by
  show xor (p.all ρ) (qy ρ F)=xor (p.all τ) (qy τ F)
  rw[qcb λ q hq=>h q (Yf _ hq)];congr 1
  have h1:=h p Y9;revert h1;clear h;induction p with
  |nil=>intro _;rfl
  |cons c p ih=>intro h1;rw[Qg,Qg,h1 c Y9,ih λ d hd=>h1 d (Yf _ hd)]
end Fs
namespace L2
open PySem PySem.Spec PyProof.Rows
theorem Draws.strAny(hh:A.handled=none)(it:Addr)(x:Str)(t:Tok):
  Draws prog w A it [it] x.cps.size (λ i v=>∃ c u,x.cps[i]?=some c/\v=.str ⟨#[c]⟩ u) (λ i h=>h.IsStrIter it (strIterType x) x t i):=by
 unfold strIterType;cases ha:x.cps.all (·<128) with
 |true=>rw[Vy (by simpa using ha)];exact Draws.strAscii hh it x t
 |false=>rw[Vz (by simpa using ha)];exact Draws.strWide hh it x t
noncomputable def qiY(z:Str):It2:=⟨λ i H=>i<z.cps.size,λ i H ys H'=>H'=H/\ys=[.int i,sgn z i],λ i H=>i=z.cps.size⟩
def qnn(z:Str)(t:Tok)(e it:Addr)(i:Nat)(h:Heap):Prop:=(∃ S4,IsEnum h e it i S4)/\h.IsStrIter it (strIterType z) z t i
theorem qg2{K:W.Frag}{pos:Pos}(z:Str)(t:Tok)(e it:Addr)(M9:e≠it):Turn2 P w K (.Tuple es k pos) (qiY z) [e,it] e (qnn z t e it) where
 obj:=λ i h st b hb=>by
  obtain⟨⟨S4,he⟩,o,ho,c,d⟩:=st;have hb:b=e∨b=it:=by simpa using hb
  rcases hb with y|y
  ·subst y;exact⟨_,he,λ v q=>by cases q⟩
  ·subst y;exact⟨o,ho,λ v q=>by rw[d] at q;cases q⟩
 keep:=λ i h h' st k=>by
  obtain⟨⟨S4,he⟩,p6⟩:=st;obtain⟨o,ho,r⟩:=p6;exact⟨⟨S4,k e (by simp) _ he⟩,o,k it (by simp) o ho,r⟩
 item:=by
  intro X hP hw hK hc i pins s σ H E I hf st hg;subst hP hw hK;have i7:i<z.cps.size:=hg;obtain⟨⟨S4,he⟩,p6⟩:=st;have fe:=hf e (by simp);have fi:=hf it (by simp);refine wpAny_pyNext_enum_itemD (Draws.strAny (A:=X.A.in1) (by simpa using I.ok.hd hc) it z t) he p6 i7 M9 (by simpa using M9) λ u h' tk hP cE K9 ht hsz hk=>?_
  refine⟨s.heap.objs.size,rfl,wpAny_letOwnedTupleGo_enum cE λ h2 tX o6=>?_⟩;replace o6:Heap.SameBut e h' h2:=o6;have dU:e<s.heap.objs.size:=Qo he;have k2:∀ b o,b≠e->b≠it->s.heap.get? b=some o->h2.get? b=some o:=λ b o h1 h3 q=>o6.extBut b o h1 (hk b o h1 h3 q)
  have I1:Inv X pins σ H { s with heap:=h2,toks:=tk+1 }:=by
   refine I.step (g':=s.gens) (d':=s.drawn) (ch:=[e,it]) (λ b hb=>?_) (λ b o _ _ c8 q _=>k2 b o (λ z=>c8 (by simp[z])) (λ z=>c8 (by simp[z])) q)
    (λ b o _ _ c8 q _=>⟨o.slots,k2 b o (λ z=>c8 (by simp[z])) (λ z=>c8 (by simp[z])) q⟩) (λ _ _ _ _ n=>n) (λ b o c8 q=>⟨o,k2 b o (λ z=>c8 (by simp[z])) (λ z=>c8 (by simp[z])) q⟩)
    (λ _ _ q=>q) (λ _ _ _ q=>q) (λ b ps q=>⟨#[],by rw[q];simp⟩) (λ m hm=>?_) (λ b u q=>?_) I.bare
   ·have hb:b=e∨b=it:=by simpa using hb
    rcases hb with z|z
    ·subst z;exact⟨fe.2.2.2.1,fe.2.1,fe.2.2.2.2.1,fe.2.2.2.2.2⟩
    ·subst z;exact⟨fi.2.2.2.1,fi.2.1,fi.2.2.2.2.1,fi.2.2.2.2.2⟩
   ·obtain⟨o,u0,ep,ho,r⟩:=hm;exact⟨o,u0,ep,k2 _ o (Vr fe.2.1) (Vr fi.2.1) ho,r⟩
   ·refine(I.hok b u q).stay (λ c v c8 z=>k2 c v (λ y=>?_) (λ y=>?_) z) (λ _ z=>z) λ _ _ z=>z
    ·rcases c8 with y' | y'
     ·rw[<- y',y,fe.1] at q;cases q
     ·rw[y,fe.1] at y';cases y'
    ·rcases c8 with y' | y'
     ·rw[<- y',y,fi.1] at q;cases q
     ·rw[y,fi.1] at y';cases y'
  obtain⟨c,u',ec,rfl⟩:=hP;obtain⟨o3,ho3,r3⟩:=K9;refine⟨[.int i,sgn z i],[.int i tk,.str ⟨#[c]⟩ u'],H,I1,⟨_,(o6.extBut _ _ (Qs dU) ht),rfl,_,rfl⟩,.cons ⟨_,rfl⟩ (.cons (qeF (v:=.str ⟨#[c]⟩ u') ⟨c,u',ec,rfl⟩) .nil),⟨rfl,rfl⟩,⟨⟨.str ⟨#[c]⟩ u',?_⟩,o3,o6.extBut _ _ (Vr M9) ho3,r3⟩,λ b hb=>(hf b hb).1⟩
  ·have:((i:Int)+1)=((i+1:Nat):Int):=by omega
   rw[<- this];exact tX
 done:=by
  intro X hP hw hK hc i pins s σ H E I hf st hg;subst hP hw hK;have hi:i=z.cps.size:=hg;subst hi;obtain⟨⟨S4,he⟩,p6⟩:=st;obtain⟨f0,f1,f2,f3,f4,f5⟩:=hf it (by simp);exact wpAny_pyNext_enum_endD (Draws.strAny (A:=X.A.in1) (by simpa using I.ok.hd hc) it z t) he p6 λ h' eb=>⟨rfl,I.turned (t':=s.toks) (λ b o hb e=>eb b o hb e) f0 f1 f3 f4 f5⟩
 self:=λ A i s Q E st h=>by
  obtain⟨⟨S4,he⟩,p6⟩:=st;exact Z5 he h
def qno(ta:TA):TI2:=λ σ H R=>ta σ H λ vs H1=>∃ z,vs=[.str z]/\R (qiY z) H1
theorem qdn {pos:Pos}(hg:Gl X "enumerate")(hm:X.mg "enumerate"=none)(ha:PA X [l] ta)(hs:starEach [l] X.env=[(false,eval l X.env)]:=by rfl):
  PI2 X (.Tuple es k B0) (.Call (.Name "enumerate" p) [l] [] pos) (qno ta):=by
 intro pins s σ H R I h;refine qc0 (R:=λ vs H1=>∃ z,vs=[.str z]/\R (qiY z) H1) hg hm boot_enumerate ha I h (λ us s1 vs H1 I1 r1 q1=>?_) (hs:=hs);obtain⟨z,e,q⟩:=q1;subst e;obtain⟨u,rfl,t,rfl⟩:=zT r1;refine call_enumerate_str λ h' he p6 hsz hk=>Z5 he ?_
 refine⟨s1.heap.objs.size+1,[s1.heap.objs.size+1,s1.heap.objs.size],_,_,H1,rfl,I1.kept (t':=s1.toks) hk,qg2 z t _ _ (Ui _),⟨⟨_,he⟩,p6⟩,λ b hb=>?_,q⟩;have hb:b=s1.heap.objs.size+1∨b=s1.heap.objs.size:=by simpa using hb
 rcases hb with z|z
 ·subst z;exact I1.fpOk (Q7 _) (I1.hok.fresh (Q7 _))
 ·subst z;exact I1.fpOk (Q5 _) (I1.hok.fresh (Q5 _))
noncomputable def qiZ(Fs Gs:List (List (List Nat)))(j:Nat):Bool:=match Fs[j]?,Gs[j]? with
 |some F,some G=>decide (F=G)
 |_,_=>true
theorem qkf(Fs Gs:List (List (List Nat)))(hl:Fs.length=Gs.length):(List.range Fs.length).all (qiZ Fs Gs)=decide (Fs=Gs):=by
 rw[Uz,Zl,Uj];constructor
 ·intro h1;refine List.ext_getElem? λ j=>?_
  by_cases hj:j<Fs.length
  ·have:=h1 j (by rw[Jp];omega)
   have ea:Fs[j]?=some Fs[j]:=Xv hj;have eb:Gs[j]?=some (Gs[j]'(by omega)):=Xv (by omega);unfold qiZ at this;rw[ea,eb] at this;rw[ea,eb,Ub this]
  ·rw[XW (by omega),XW (by omega)]
 ·rintro rfl j _;unfold qiZ;cases Fs[j]? with
  |none=>rfl
  |some a=>exact J4 rfl
def qol(K:W.Frag):R2:=λ x y H Q=>∃(a b:Addr)(as bs:List Addr)(Fs Gs:List (List (List Nat))),x=.ref a/\y=.ref b/\SqL K H a (as.map V.ref)/\SqL K H b (bs.map V.ref)/\Paired (λ c (F:List (List Nat))=>SqT K H c (F.map vS)) as Fs/\Paired (λ c (F:List (List Nat))=>SqT K H c (F.map vS)) bs Gs/\Fs.length=Gs.length/\Q (.bl (!decide (Fs=Gs))) H
theorem qfZ:∀{ss E5:List Str}{us:List Value},qL (ss.map V.str) us->qL (E5.map V.str) us->ss=E5
 | [],[],_,_,_=>rfl
 | [],_::_,_,.nil,h=>by cases h
 |_::_,[],_,.cons _ _,h=>by cases h
 |a::ss,b::E5,_,.cons r t,.cons r' t'=>by
  obtain⟨u,rfl⟩:=r;obtain⟨u',e⟩:=r';injection e with e1 e2
  rw[e1,qfZ t t']
theorem qaN:∀{xs:List α}{l:List β},Paired F xs l->∀(k:Nat)(a:α),xs[k]?=some a->∃ b,l[k]?=some b/\F a b
 |_,_,.nil,k,a,h=>by simp at h
 |_,_,.cons r t,0,a,h=>by simp at h;subst h;exact⟨_,rfl,r⟩
 |_,_,.cons r t,k+1,a,h=>qaN t k a (by simpa using h)
theorem qlT(hu:X.A.units+1<cLine):OpR X (compareOp .NotEq) (qol X.K):=by
 intro pins s σ H x y v u Q I rx ry h;obtain⟨a,b,as,bs,Fs,Gs,rfl,rfl,h1,h2,pa,pb,hl,q⟩:=h;cases rx
 cases ry
 obtain⟨its,r1,p1,_⟩:=I.list h1;obtain⟨o8,r2,p2,_⟩:=I.list h2;have l1:=r1.length;have l2:=r2.length;rw[U0] at l1 l2;have la:=Y1 pa;have lb:=Y1 pb;have hs:its.toArray.size=o8.toArray.size:=by rw[Zo,Zo];omega
 refine SeqAt.RcNeAt.lists (A:=X.A) (s:=s) (e:=qiZ Fs Gs) p1.isList p2.isList hs (by omega) (λ j h1 h2=>?_) X.prog X.w X.xe _ ⟨.bl (!decide (Fs=Gs)),H,I,?_,q⟩
 ·rw[Zo] at h1 h2;have ea:as[j]?=some (as[j]'(by omega)):=Xv (by omega);have eb:bs[j]?=some (bs[j]'(by omega)):=Xv (by omega);generalize as[j]'(by omega)=c at ea;generalize bs[j]'(by omega)=d at eb;obtain⟨F,eF,hF⟩:=qaN pa j c ea;obtain⟨G,eG,hG⟩:=qaN pb j d eb;obtain⟨u,hu',ru⟩:=r1.get (i:=j) (x:=V.ref c) (by rw[Zn,ea];rfl);obtain⟨v,bK,rv⟩:=r2.get (i:=j) (x:=V.ref d) (by rw[Zn,eb];rfl);cases ru
  cases rv
  have eu:its.toArray[j]=Value.ref c:=by
   have:its[j]?=some its[j]:=Xv h1
   rw[hu'] at this;simpa using(Option.some.inj this).symm
  have ev:o8.toArray[j]=Value.ref d:=by
   have:o8[j]?=some o8[j]:=Xv h2
   rw[bK] at this;simpa using(Option.some.inj this).symm
  rw[eu,ev];have ee:qiZ Fs Gs j=decide (F=G):=by unfold qiZ;rw[eF,eG]
  rw[ee];rw[zV] at hF hG;obtain⟨iF,rF,pF,_⟩:=I.tuple hF;obtain⟨iG,rG,pG,_⟩:=I.tuple hG;by_cases R7:c=d
  ·subst R7;have e1:iF=iG:=by
    obtain⟨o,ho,_,n,hd⟩:=(show s.heap.IsTuple c iF.toArray from pF);obtain⟨o',cC,_,n',fX⟩:=(show s.heap.IsTuple c iG.toArray from pG);rw[ho] at cC;cases cC
    rw[hd] at fX;injection fX with e _
    exact List.toArray_inj e
   subst e1;have e2:=qfZ rF rG;have e3:F=G:=by
    have:=congrArg (List.map cs) e2
    rwa [qda,qda] at this
   rw[J4 e3];exact SeqAt.EqAt.same _
  ·have lF:=rF.length;have lG:=rG.length;rw[U0] at lF lG
   have:=SeqAt.RcAt.tuples (A:=X.A.in1) (s:=s) (e:=qc2 V.str (F.map qk) (G.map qk)) (show s.heap.IsTuple c iF.toArray from pF) (show s.heap.IsTuple d iG.toArray from pG) (show X.A.in1.units<cLine from hu) (λ j h1 h2=>qbh qc1 rF rG j h1 h2)
   rw[Zo,Zo,<- lF,<- lG,qad qc1] at this;have e4:decide (F.map qk=G.map qk)=decide (F=G):=by
    by_cases h:F=G
    ·subst h;simp
    ·rw[Jh h,Jh];intro e
     have:=congrArg (List.map cs) e
     rw[qda,qda] at this;exact h this
   rw[e4] at this;exact SeqAt.EqAt.of_refs R7 this
 ·rw[Zo,show its.length=Fs.length by omega,qkf Fs Gs hl];rfl
section
variable {X:Cx}
theorem qf0(hc:X.calm=true):yG X (.builtin "any") (λ xs H Q=>∃(p:Addr)(bs:List Bool),xs=[.ref p]/\SqL X.K H p (bs.map V.bl)/\Q (.bl (bs.any id)) H):=by
 intro pins s σ H xs us Q I r h;obtain⟨p,bs,rfl,hq,q⟩:=h;obtain⟨u,rfl,ru⟩:=zT r;cases ru
 obtain⟨its,rv,pl,hz⟩:=I.list hq;have hl:=rv.length;rw[U0] at hl;have hh:X.A.in1.handled=none:=by simp[I.ok.hd hc]
 have gQ:p<s.heap.objs.size:=by obtain⟨_,e,_⟩:=pl.isList;exact Qo e
 refine call_any_walk (Z2 pl.isList ⟨s.heap.objs.size,_,_,_,_,_,λ i=>bs.getD i false,rfl,Walks.list hh s.heap.objs.size p (Qp gQ) its.toArray,
  ⟨⟨_,Yt _ rfl,rfl,rfl⟩,pl.isList.push _⟩,λ i v s Q E hv hQ=>?_,λ h' tk hk=>?_⟩)
 ·have e:its[i]?=some v:=by simpa using hv
  have hi:i<bs.length:=by rw[hl];exact(Xl.mp e).1
  obtain⟨u,hu,ru⟩:=rv.get (i:=i) (x:=.bl bs[i]) (by rw[Zn,Xv hi];rfl);rw[e] at hu;cases hu
  cases ru
  refine Z1 ?_
  have:bs.getD i false=bs[i]:=by rw[Xj,Xv hi];rfl
  have uG:Q (bs.getD i false) s:=hQ;rw[this] at uG;exact uG
 ·have hf:=I.hok.fresh (Q5 s.heap.objs.size);refine⟨.bl (bs.any id),H,?_,?_,q⟩
  ·have I1:Inv X pins σ H { s with heap:=s.heap.push { cls:=.type "list_iterator",data:=.fields #[.ref p,.int 0 0] } }:=I.kept (t':=s.toks) λ _ _ e=>XB _ e
   refine I.kept (t':=tk) λ b o e=>hk b o (λ z=>?_) (XB _ e)
   have:b=s.heap.objs.size:=by simpa using z
   exact absurd (Qo e) (by rw[this];exact Qa _)
  ·show Value.bool _=Value.bool _
   congr 1
   rw[Zo,<- hl,Uz,Uo,Uo];constructor
   ·rintro⟨i,hi,e⟩;have hi:=Jp.mp hi;rw[Xj,Xv hi] at e;exact⟨_,Uk hi,e⟩
   ·rintro⟨b,hb,e⟩;obtain⟨i,hi,eb⟩:=Yw hb;refine⟨i,Jp.mpr hi,?_⟩;rw[Xj,Xv hi,eb];exact e
end
end L2
namespace Fs
structure Ok9(ls:List Nat):Prop where
 rise:ls.Pairwise (·<·)
 len:ls.length<=9
end Fs
namespace L2
open PySem PySem.Spec PyProof.Rows
theorem qbS{t:TGs}{tb:TS}{D:Ends}(Pv:Nat->St->Hp->Prop)(h0:Pv 0 σ H)(hs:∀ i σ H,i<z.cps.size->Pv i σ H->t [.int i,sgn z i] σ H λ σ2 H2=>tb { D with nx:=Pv (i+1),ct:=Pv (i+1),bk:=D.nx } σ2 H2)(hd:∀ σ H,Pv z.cps.size σ H->D.nx σ H):
  ∃ W:Nat->Nat->St->Hp->Prop,(∃ m,W 0 m σ H)/\∀ i m σ H,W i m σ H ->
   ((qiY z).stop i H/\D.nx σ H)∨((qiY z).go i H/\∃ N:St->Hp->Prop,(∀ σ' H',N σ' H'->∃ m',m'<m/\W (i+1) m' σ' H')/\∀ zs H',(qiY z).yld i H zs H'->zs.length=2/\t zs σ H' λ σ2 H2=>tb { D with nx:=N,ct:=N,bk:=D.nx } σ2 H2):=by
 refine⟨λ i m σ H=>m=z.cps.size-i/\i<=z.cps.size/\Pv i σ H,⟨z.cps.size,by simp,Q6 _,h0⟩,?_⟩;rintro i m σ H ⟨rfl,hi,p⟩;by_cases i7:i<z.cps.size
 ·refine .inr ⟨i7,Pv (i+1),λ σ' H' p'=>⟨z.cps.size-(i+1),by omega,rfl,i7,p'⟩,λ zs H' y=>?_⟩;obtain⟨e,ez⟩:=y;subst e ez;exact⟨rfl,hs i σ _ i7 p⟩
 ·have e:i=z.cps.size:=by omega
  subst e;exact .inl ⟨rfl,hd σ H p⟩
end L2
namespace Fs
theorem qi0(F G:List Pr):(added F G).length<=F.length+G.length:=by
 unfold added;rw[(zW _).length_eq,qfx,Zb]
 have:=XY (λ p=>!G.contains p) F
 have:=XY (λ p=>!F.contains p) G
 omega
noncomputable def uni(a b:Pr):Pr:=qI [a++b]
theorem qh8:c∈uni a b ↔ c∈a∨c∈b:=by unfold uni;rw[jr];simp
end Fs
namespace L2
open PySem PySem.Spec PyProof.Rows
section
variable {X:Cx}{pins:List (Addr×Obj)}{σ:St}{H:Hp}{s:Shared}{a:Addr}
theorem Inv.swap(I:Inv X pins σ H s)(e:H a=some u)(n1:∀ x,u≠.own x)(n2:∀ xs,u≠.tup xs)(n3:∀ ps,u≠.tbl ps)(n4:∀ o v,X.H₀ a≠some (.frz o v))(ok:zp X.prog X.w (upd H a u') s.heap a u'):Inv X pins σ (upd H a u') s:=by
 have ne:∀{b:Addr},H b=none->b≠a:=λ h q=>by rw[q,e] at h;cases h
 refine⟨I.ok,I.os,I.bare,⟨I.base.keep,I.base.slot,λ b o q n hx=>?_,I.base.there,λ b xs q=>?_,λ b o v q=>?_,λ b ps q=>?_⟩,I.loc,I.cell,?_,λ x c q=>?_,λ p hp=>?_,λ b v q=>?_,I.len⟩
 ·have:=I.base.free b o q n hx
  rw[qp (ne this)];exact this
 ·have:=I.base.tups b xs q
  rw[qp (λ z=>by rw[z,e] at this;exact n2 _ (Option.some.inj this))];exact this
 ·have:=I.base.frzs b o v q
  rw[qp (show b≠a from λ z=>n4 o v (by rw[<- z];exact q))];exact this
 ·obtain⟨more,h⟩:=I.base.tbls b ps q;exact⟨more,by rw[qp (λ z=>by rw[z,e] at h;exact n3 _ (Option.some.inj h))];exact h⟩
 ·rw[qp (ne I.free)];exact I.free
 ·rw[qp (ne (I.freeC x c q))];exact I.freeC x c q
 ·obtain⟨p1,p2,p3⟩:=I.pin p hp;exact⟨p1,by rw[qp (ne p2)];exact p2,p3⟩
 ·by_cases hb:b=a
  ·subst hb;rw[qe] at q;cases q
   exact ok
  ·rw[qp hb] at q;refine(I.hok b v q).stay (λ c w _ r=>r) (λ c r=>?_) λ c xs r=>?_
   ·rw[qp (λ z=>by rw[z,e] at r;exact n1 _ (Option.some.inj r))];exact r
   ·rw[qp (λ z=>by rw[z,e] at r;exact n2 _ (Option.some.inj r))];exact r
theorem Inv.nofrz(I:Inv X pins σ H s)(e:H a=some u)(h:∀ o v,u≠.frz o v):∀ o v,X.H₀ a≠some (.frz o v):=λ o v q=>by
 have:=I.base.frzs a o v q
 rw[e] at this;exact h o v (Option.some.inj this)
end
noncomputable def qom(a:Addr)(kvs:List (Key×V))(D:Ends):Ends where
 nx:=λ σ H=>∃ o,H a=some (.frz o (.dK kvs))/\D.nx σ (upd H a (.dK kvs))
 rt:=λ v H=>∃ o,H a=some (.frz o (.dK kvs))/\D.rt v (upd H a (.dK kvs))
 bk:=λ σ H=>∃ o,H a=some (.frz o (.dK kvs))/\D.bk σ (upd H a (.dK kvs))
 ct:=λ σ H=>∃ o,H a=some (.frz o (.dK kvs))/\D.ct σ (upd H a (.dK kvs))
def qnp(t:TS):TS:=λ D σ H=>∃ a kvs,H a=some (.dK kvs)/\t (qom a kvs D) σ H
section
variable {X:Cx}
theorem Inv.thaw(I:Inv X pins σ H s)(nf:∀ o v,X.H₀ a≠some (.frz o v))(ho:H a=some (.frz o (.dK kvs))):Inv X pins σ (upd H a (.dK kvs)) s:=by
 refine I.swap ho (λ _ z=>by cases z) (λ _ z=>by cases z) (λ _ z=>by cases z) nf ?_;obtain⟨_,z,y,vs,r,k⟩:=(show zp X.prog X.w H s.heap a (.frz o (.dK kvs)) from I.hok a _ ho);exact⟨z,y,vs,r,k⟩
theorem qlU{st:Stmt}(h:PS X st t):PS X st (qnp t):=by
 intro pins s σ H D I hw;obtain⟨a,kvs,ha,hw⟩:=hw;have nf:=I.nofrz ha λ _ _ z=>by cases z
 refine thn (h pins s σ H _ I hw) λ f s1 q=>?_
 cases f with
 |next=>obtain⟨σ1,H1,I1,o,ho,q⟩:=q;exact⟨σ1,_,I1.thaw nf ho,q⟩
 |brk=>obtain⟨σ1,H1,I1,o,ho,q⟩:=q;exact⟨σ1,_,I1.thaw nf ho,q⟩
 |cont=>obtain⟨σ1,H1,I1,o,ho,q⟩:=q;exact⟨σ1,_,I1.thaw nf ho,q⟩
 |ret u=>obtain⟨v,σ1,H1,I1,r,o,ho,q⟩:=q;exact⟨v,σ1,_,I1.thaw nf ho,r,q⟩
end
end L2
namespace L2
open PySem PySem.Spec PyProof.Rows PySem.StrLaws PySem.Builtin PySem.Builtin.Str
noncomputable def qeV(c:Nat):Nat->List Nat->List Nat
 |_,[]=>[]
 |k,x::l=>if x=c then k::qeV c (k+1) l else qeV c (k+1) l
end L2
namespace L2
open PySem PySem.Spec PyProof.Rows
end L2
namespace Fs
theorem qh9{α:Type}[DecidableEq α](f:α->Nat):∀{l m:List α},l.Nodup->(∀ x∈l,x∈m)->(l.map f).sum<=(m.map f).sum
 | [],_,_,_=>Q6 _
 |a::l,m,nd,h=>by
  have G6:=U2.mp nd;have ha:a∈m:=h a Y9;have ih:=qh9 f (l:=l) (m:=m.erase a) G6.2 λ x hx=>(List.mem_erase_of_ne (λ(e:x=a)=>G6.1 (by rw[<- e];exact hx))).mpr (h x (Yf _ hx))
  have e:(m.map f).sum=((a::m.erase a).map f).sum:=by
   have:=(List.perm_cons_erase ha).map f
   clear ih;generalize m.map f=u at this;generalize (a::m.erase a).map f=v at this;induction this with
   |nil=>rfl
   |cons x _ ih=>rw[Qi,Qi,ih]
   |swap x y l=>rw[Qi,Qi,Qi,Qi];omega
   |trans _ _ a b=>exact a.trans b
  rw[e,Qc,Qc,Qi,Qi];omega
theorem qbw(l:Nat):∀ P:List Pr,((P.map (l::·)).map List.length).sum=(P.map List.length).sum+P.length
 | []=>rfl
 |p::P=>by
  have ih:=qbw l P;rw[Qc,Qc,Qi,Qc,Qi,ih,Uc,Uc];omega
theorem qlV(u v:List Nat):(u++v).sum=u.sum+v.sum:=by
 induction u with
 |nil=>simp
 |cons a u ih=>rw[Up,Qi,Qi,ih];omega
theorem qdo:∀ ls:List Nat,2*((zn ls).map List.length).sum=ls.length*2^ls.length
 | []=>rfl
 |l::ls=>by
  have ih:=qdo ls;have pl:=za ls;rw[zn,U7,qlV,qbw,Uc,Qt,pl];generalize 2^ls.length=N at ih ⊢
  have:(ls.length+1)*(N*2)=2*(ls.length*N)+2*N:=by
   rw[Nat.add_mul,Nat.one_mul,Qx N 2,<- Nat.mul_assoc,Qx ls.length 2,Nat.mul_assoc]
  rw[this];omega
theorem On.flat2(h:On ls F)(hl:ls.Pairwise (·<·)):2*F.flatten.length<=ls.length*2^ls.length:=by
 rw[<- qdo,List.length_flatten]
 have:=qh9 List.length (l:=F) (m:=zn ls) h.vf.nodup λ p hp=>zJ.mpr (h.sub hl p hp)
 omega
theorem Ok9.le(o:Ok9 ls)(h:On ls F):F.length<=512:=by
 have h1:=h.len o.rise;have h2:2^ls.length<=2^9:=Yo (by decide) o.len;omega
noncomputable def zi(F G:List Pr):List Pr:=F.flatMap λ p=>G.map λ q=>uni p q
end Fs
namespace L2
open PySem PySem.Spec PyProof.Rows
section
variable {X:Cx}
abbrev rAS:R2:=λ x y H Q=>∃ i j,x=.str i/\y=.str j/\i.length+j.length<=sizeLine/\Q (.str (i++j)) H
theorem qN:OpR X (binaryOp .Add) rAS:=qcF
end
end L2
namespace L2
open PySem PySem.Spec PyProof.Rows PySem.StrLaws PySem.Builtin PySem.Builtin.Str
theorem qkg(z:Str)(c:Nat):∀(m k:Nat)(st:Array Nat×Nat),1<=st.1.size->(forIn (List.range' k m) st (occBody z ⟨#[c]⟩ z.length 1)).run.fst.toList=st.1.toList:=by
 intro m;induction m with
 |zero=>intro k st h;rfl
 |succ m ih =>
  intro k st h;rw[List.range'_succ,U8];unfold occBody;rw[Vz (λ q=>by have:st.1.size<1:=q.1.1.1;omega)];exact ih (k+1) (st.1,st.2) h
theorem qi1(z:Str)(c:Nat):∀(m k:Nat)(st:Array Nat×Nat),st.2<=k->st.1.toList=[]->(forIn (List.range' k m) st (occBody z ⟨#[c]⟩ z.length 1)).run.fst.toList=(qeV c k ((cs z).drop k |>.take m)).take 1:=by
 intro m;induction m with
 |zero=>intro k st h1 h2;rw[Jx];exact h2
 |succ m ih =>
  intro k st h1 h2;have hz:st.1.size=0:=by rw[<- Ys,h2];rfl
  rw[List.range'_succ,U8];unfold occBody;by_cases e:(cs z)[k]?=some c
  ·obtain⟨c1,c2⟩:=(subAt_one z c k).mpr e;rw[Vy ⟨⟨⟨by omega,h1⟩,c1⟩,c2⟩]
   have:=qkg z c m (k+1) (st.1.push k,k+1) (by rw[Array.size_push];omega)
   refine Eq.trans this ?_;rw[Zu,h2];obtain⟨i7,ek⟩:=Xl.mp e;rw[Xq i7,List.take_succ_cons,ek];show _=List.take 1 (if c=c then _ else _)
   rw[Vy rfl];rfl
  ·rw[Vz (λ q=>e ((subAt_one z c k).mp ⟨q.1.2,q.2⟩))]
   have:=ih (k+1) (st.1,st.2) (Zy h1) h2
   refine Eq.trans this ?_;congr 1
   by_cases i7:k<(cs z).length
   ·rw[Xq i7,List.take_succ_cons];show _=(if (cs z)[k]=c then _ else _)
    rw[Vz (λ q=>e (by rw[Xv i7,q]))]
   ·rw[XG (by omega),XG (by omega)];simp[qeV]
theorem qlW(z:Str)(c:Nat):occurrences z ⟨#[c]⟩ 0 z.length 1=(qeV c 0 (cs z)).take 1:=by
 rw[occ_eq,qi1 z c _ 0 (#[],0) (Q5 _) rfl,Jw];congr 2
 exact XF (by simp[Str.length])
theorem qf1(c:Nat):∀(w r:List Nat)(k:Nat),c∉w->qeV c k (w++c::r)=(k+w.length)::qeV c (k+w.length+1) r
 | [],r,k,_=>by show(if c=c then _ else _)=_;rw[Vy rfl];rfl
 |x::w,r,k,h=>by
  have hx:¬ x=c:=λ e=>h (by rw[e];exact Y9 ..)
  show(if x=c then _ else qeV c (k+1) (w++c::r))=_
  rw[Vz hx,qf1 c w r (k+1) (λ hm=>h (Yf _ hm))];simp[Qj,Nat.add_comm 1]
theorem qbT(l:List Nat)(i j:Nat):strSub (qk l) i j=qk ((l.drop i).take (j-i)):=by
 show(⟨(l.toArray).extract i j⟩:Str)=⟨((l.drop i).take (j-i)).toArray⟩
 congr 1
 apply Array.toList_inj.mp
 simp[List.extract_eq_drop_take]
section
variable {X:Cx}
def qon:V->List V->Hp->VK->Prop:=λ x vs H Q=>∃(w r:List Nat)(c:Nat),x=vS (w++c::r)/\vs=[vS [c]]/\c∉w/\w.length+r.length<=60000/\∀ p,H p=none->Q (.ref p) (upd H p (.tup [vS w,vS [c],vS r]))
theorem qlX:MtR X "str.partition" qon:=by
 intro pins s σ H x vs v us Q I rx rv h;obtain⟨w,r,c,rfl,rfl,hc,hz,q⟩:=h;obtain⟨t,rfl⟩:=rx;obtain⟨u,rfl,ru⟩:=zT rv;obtain⟨tu,rfl⟩:=ru;have hl:(qk (w++c::r)).length=w.length+(r.length+1):=by rw[qw,Zb,Uc]
 refine Vj PySem.F.slot_str_partition (Vi _ _ _) PySem.F.entry_str_partition (PySem.F.args_str_partition_2 _ _) (meets_str_partition (qk (w++c::r)) (qk [c]) t tu rfl (by rw[hl];exact qE (by omega))) ?_;have ho:occurrences (qk (w++c::r)) (qk [c]) 0 (qk (w++c::r)).length 1=[w.length]:=by
  rw[show qk [c]=(⟨#[c]⟩:Str) from rfl,qlW];show(qeV c 0 (w++c::r)).take 1=_
  rw[qf1 c w r 0 hc];simp
 rw[ho];have hf:=I.hok.fresh (Q5 s.heap.objs.size);have e1:strSub (qk (w++c::r)) 0 w.length=qk w:=by rw[qbT];simp
 have e2:strSub (qk (w++c::r)) (w.length+(qk [c]).length) (qk (w++c::r)).length=qk r:=by
  rw[qbT,hl,qw,XR]
  have:(w++c::r).drop (w.length+1)=r:=by rw[show w++c::r=(w++[c])++r by simp,Xc (by simp)];simp
  rw[this,XF (by omega)]
 dsimp only;rw[e1,e2];refine⟨.ref s.heap.objs.size,_,I.laid (a:=s.heap.objs.size) (o:=.tup [vS w,vS [c],vS r]) (t':=s.toks+1+1) (λ _ _ h=>XB _ h) (Q5 _) ⟨qE (by show 3<=_;decide),_,.cons ⟨_,rfl⟩ (.cons ⟨_,rfl⟩ (.cons ⟨_,rfl⟩ .nil)),⟨_,Yt _ rfl,rfl,_,rfl⟩⟩,rfl,q _ hf⟩
def qnq:V->List V->Hp->VK->Prop:=λ x vs H Q=>∃(i j:Nat)(w:List Nat),x=vS (List.replicate i 32++w++List.replicate j 32)/\vs=[vS [32]]/\w≠[]/\32∉w/\i+w.length+j<=60000/\Q (vS w) H
theorem qf2(n:Nat)(l:List Nat)(h:∀ x,l.head?=some x->¬ x=32):((List.replicate n 32++l).takeWhile λ c=>(#[32]:Array Nat).contains c).length=n:=by
 induction n with
 |zero =>
  cases l with
  |nil=>rfl
  |cons x l =>
   have:¬ x=32:=h x rfl
   have e:(#[32]:Array Nat).contains x=false:=by simp[this]
   rw[List.replicate_zero,U5,List.takeWhile_cons,e];rfl
 |succ n ih =>
  rw[List.replicate_succ,Up,List.takeWhile_cons];have e:(#[32]:Array Nat).contains 32=true:=by simp
  rw[e,Vy rfl,Uc,ih]
theorem qkh(i j:Nat)(w:List Nat)(hw:w≠[])(h:32∉w):Txt.stripChars (qk (List.replicate i 32++w++List.replicate j 32)) (qk [32])=qk w:=by
 have lo:stripLo (#[32]:Array Nat).contains true (qk (List.replicate i 32++w++List.replicate j 32))=i:=by
  unfold stripLo;rw[Vy rfl];show(((List.replicate i 32++w++List.replicate j 32)).takeWhile _).length=i
  rw[Zx];refine qf2 i _ λ x hx=>?_
  cases w with
  |nil=>exact absurd rfl hw
  |cons a w=>simp at hx;subst hx;exact λ e=>h (by rw[e];exact Y9 ..)
 have hl:(qk (List.replicate i 32++w++List.replicate j 32)).length=i+w.length+j:=by rw[qw];simp[Qj]
 have hi:stripHi (#[32]:Array Nat).contains true (qk (List.replicate i 32++w++List.replicate j 32)) i=i+w.length:=by
  unfold stripHi;rw[Vy rfl,hl];show i+w.length+j-((((List.replicate i 32++w++List.replicate j 32)).drop i).reverse.takeWhile _).length=_
  have e:((List.replicate i 32++w++List.replicate j 32)).drop i=w++List.replicate j 32:=by
   rw[Zx,Xc (by simp)];simp
  rw[e,Yz,List.reverse_replicate,qf2 j _ λ x hx=>λ e2=>?_]
  ·omega
  ·subst e2
   have:32∈w.reverse:=List.mem_of_mem_head? hx
   exact h (List.mem_reverse.mp this)
 have st:stripped (#[32]:Array Nat).contains true true (qk (List.replicate i 32++w++List.replicate j 32))=qk w:=by
  unfold stripped;rw[lo,hi,qbT];have e:((List.replicate i 32++w++List.replicate j 32)).drop i=w++List.replicate j 32:=by
   rw[Zx,Xc (by simp)];simp
  rw[e,show i+w.length-i=w.length by omega];simp
 show Txt.stripBy (#[32]:Array Nat).contains true true _=_
 unfold Txt.stripBy;split
 ·rename_i hs;unfold stripSame at hs;rw[lo,hi,hl] at hs;have hs:i=0/\i+w.length=i+w.length+j:=by simpa using hs
  obtain⟨h1,h2⟩:=hs;have hj:j=0:=by omega
  subst h1 hj;simp
 ·exact st
theorem qf3:MtR X "str.strip" qnq:=by
 intro pins s σ H x vs v us Q I rx rv h;obtain⟨i,j,w,rfl,rfl,hw,hn,hz,q⟩:=h;obtain⟨t,rfl⟩:=rx;obtain⟨u,rfl,ru⟩:=zT rv;obtain⟨tu,rfl⟩:=ru;have hl:(qk (List.replicate i 32++w++List.replicate j 32)).length=i+w.length+j:=by rw[qw];simp[Qj]
 refine SC.stripChars (y:=qk [32]) (λ t' k=>?_) (by rw[hl];exact qE (by omega));rw[qkh i j w hw hn];exact⟨vS w,H,I.tok k,⟨_,rfl⟩,q⟩
end
end L2
namespace Fs
noncomputable def qG(n N:Nat):List Bool:=(List.range n).map λ k=>decide (N / 2^(n-1-k) % 2=1)
theorem zB(n N:Nat):(qG n N).length=n:=by unfold qG;rw[U0,Zw]
theorem qf4(h:k<n):(qG n N)[k]?=some (decide (N / 2^(n-1-k) % 2=1)):=by
 unfold qG;rw[Zn,Y2 h];rfl
theorem qaO(n N:Nat):qG (n+1) N=decide (N / 2^n % 2=1)::qG n N:=by
 unfold qG;rw[List.range_succ_eq_map,Qc,Qv];congr 1
 refine Y4 λ k hk=>?_
 show decide (N / 2^(n+1-1-(k+1)) % 2=1)=_
 rw[show n+1-1-(k+1)=n-1-k by omega]
theorem qi2(n N:Nat):qG n (N % 2^n)=qG n N:=by
 unfold qG;refine Y4 λ k hk=>?_
 have hk:=Jp.mp hk;rw[<- Nat.testBit_eq_decide_div_mod_eq,<- Nat.testBit_eq_decide_div_mod_eq,Nat.testBit_mod_two_pow,J4 (show n-1-k<n by omega)];rfl
noncomputable def asg(ls:List Nat)(r:List Bool)(c:Nat):Bool:=(((ls.zip r).find? λ x=>decide (x.1=c)).map (·.2)).getD false
theorem qbx(c:Nat)(ls:List Nat)(b:Bool)(r:List Bool):asg (c::ls) (b::r) c=b:=by unfold asg;rw[Zd,U4];simp
theorem ki(ls:List Nat)(b:Bool)(r:List Bool)(h:¬ c=d):asg (c::ls) (b::r) d=asg ls r d:=by
 unfold asg;rw[Zd,U4,show decide ((c,b).1=d)=false from Jh h]
theorem qef:∀{ls:List Nat},ls.Nodup->∀{N:Nat},N<2^ls.length->vE (asg ls (qG ls.length N)) 0 ls=N
 | [],_,N,h=>by
  have e:N=0:=by simpa using h
  rw[e];rfl
 |d::ls,nd,N,h=>by
  have G6:=U2.mp nd;have hp:0<2^ls.length:=Je _;rw[Uc,qaO,vE,kh,qbx,qdm (τ:=asg ls (qG ls.length (N % 2^ls.length))),qef G6.2 (Vc _ hp)]
  ·have hd:N / 2^ls.length<2:=by
    rw[Uc,Qt,Qx] at h;exact Yp (by rw[Qx];exact h)
   have:=Nat.div_add_mod N (2^ls.length)
   generalize hq:N / 2^ls.length=q at this hd ⊢;generalize 2^ls.length=P at *;rcases(show q=0∨q=1 by omega) with e|e
   ·subst e;simpa using this
   ·subst e;simpa using this
  ·intro c hc;rw[ki _ _ _ (λ(e:d=c)=>G6.1 (e ▸ hc)),qi2]
theorem qi3(hl:ls.Pairwise (·<·))(ht:t.length=2^ls.length)(h:N<2^ls.length):qy (asg ls (qG ls.length N)) (formOf ls t)=t.getD N false:=by
 rw[qbe _ ht,qdl _ ls t ht,qef (q9 Qa hl) h]
end Fs
namespace Fs
open PySem L2
theorem qR{F G:α->β->Prop}(h:∀ a b,F a b->G a b):∀{xs:List α}{ys:List β},Paired F xs ys->Paired G xs ys
 |_,_,.nil=>.nil
 |_,_,.cons r t=>.cons (h _ _ r) (qR h t)
theorem qS:∀{xs:List α}{l:List β},Paired F xs l->∀(k:Nat)(a:α),xs[k]?=some a->∃ b,l[k]?=some b/\F a b
 |_,_,.nil,k,a,h=>by simp at h
 |_,_,.cons r t,0,a,h=>by simp at h;subst h;exact⟨_,rfl,r⟩
 |_,_,.cons r t,k+1,a,h=>qS t k a (by simpa using h)
theorem qby(n:Nat):ixN (n+1) (-1)=some n:=by
 unfold ixN;rw[Vz (by decide),Vy (by omega)];congr 1;omega
def qoo(K:W.Frag):List V->Hp->VK->Prop:=λ xs H Q=>∃(p:Addr)(bs:List Bool),xs=[V.ref p]/\SqL K H p (bs.map V.bl)/\Q (.bl (bs.all id)) H
def qop(K:W.Frag):List V->Hp->VK->Prop:=λ xs H Q=>∃ p ys,xs=[.ref p]/\(SqL K H p ys∨SqT K H p ys)/\Q (.int ys.length) H
theorem qmJ(p:List Nat):decide (vS p=vS p)=true:=J4 rfl
theorem qcc {ls:List Nat}(hl:ls.Pairwise (·<·))(hp:p.Pairwise (·<·))(h:∀ c∈p,c∈ls):(ls.filter λ c=>decide (c∈p))=p:=
 qfv Qa (λ a b h=>Nat.lt_asymm h) (hl.filter _) hp λ c=>by
  rw[Ux];exact⟨λ h=>Ub h.2,λ hc=>⟨h c hc,J4 hc⟩⟩
theorem kn{α:Type}{l:List α}{f:α->Bool}(hi:i<l.length):(l.take (i+1)).filter f=(l.take i).filter f++(if f l[i]=true then [l[i]] else []):=by
 rw[Xa hi,List.filter_append];congr 1
 rw[Uq];rfl
theorem vg(ls:List Nat):(ls.map λ c=>vS [c])=(ls.map λ c=>[c]).map vS:=by rw[Qv];rfl
end Fs
namespace L2
open PySem PySem.Spec PyProof.Rows
noncomputable def qki(a:Addr)(o:Obj)(kvs:List (Key×V)):It2:=
 ⟨λ i H=>H a=some (.frz o (.dK kvs))/\i<kvs.length,λ i H xs H'=>H'=H/\∃ k v,kvs[i]?=some (k,v)/\xs=[kV k,v],λ i H=>H a=some (.frz o (.dK kvs))/\kvs.length<=i⟩
def qnr(it a:Addr)(n ep:Nat)(i:Nat)(h:Heap):Prop:=∃ ok ov,IsItemIter h it a i n ep ok ov
theorem qg3{K:W.Frag}{pos:Pos}(a it:Addr)(o:Obj)(kvs:List (Key×V))(vs:List (Key×Value))(ep:Nat)(r:KV kvs vs)(hd:∀ h:Heap,h.get? a=some o->h.DictAt (qu P w) a vs ep):
  Turn2 P w K (.Tuple es k pos) (qki a o kvs) [it] it (qnr it a vs.length ep) where
 obj:=λ i h st b hb=>by
  obtain⟨ok,ov,he⟩:=st;have e:b=it:=by simpa using hb
  subst e;exact⟨_,he,λ v q=>by cases q⟩
 keep:=λ i h h' st k=>by
  obtain⟨ok,ov,he⟩:=st;exact⟨ok,ov,k it (by simp) _ he⟩
 item:=by
  intro X hP hw hK hc i pins s σ H E I hf st hg;subst hP hw hK;obtain⟨hq,hi⟩:=hg;have ho:s.heap.get? a=some o:=(I.hok a _ hq).1;obtain⟨f0,f1,f2,f3,f4,f5⟩:=hf it (by simp);have hx:kvs[i]?=some kvs[i]:=Xv hi;obtain⟨q,S5,rk⟩:=qbr r i kvs[i] hx;obtain⟨k,v⟩:=q;obtain⟨ok,ov,he⟩:=st;refine wpAny_pyNext_items_item he (hd _ ho) S5 λ key h' G9 cE ht hsz hk=>?_
  refine⟨s.heap.objs.size,rfl,wpAny_letOwnedTupleGo_items cE λ h2 tX o6=>?_⟩;replace o6:Heap.SameBut it h' h2:=o6;have dU:it<s.heap.objs.size:=Qo he;have I1:Inv X pins σ H { s with heap:=h2 }:=I.turned (t':=s.toks) (λ b o hb e=>o6.extBut b o hb (hk b o hb e)) f0 f1 f3 f4 f5;have ek:kvs[i].1=k:=rk.1;exact⟨[kV k,kvs[i].2],[key,v],H,I1,⟨_,(o6.extBut _ _ (Qs dU) ht),rfl,_,rfl⟩,.cons (qlO G9) (.cons rk.2 .nil),⟨rfl,k,kvs[i].2,by rw[hx,<- ek],rfl⟩,⟨_,_,tX⟩,λ b hb=>(hf b hb).1⟩
 done:=by
  intro X hP hw hK hc i pins s σ H E I hf st hg;subst hP hw hK;obtain⟨hq,hi⟩:=hg;have ho:s.heap.get? a=some o:=(I.hok a _ hq).1;have lv:kvs.length=vs.length:=Y1 r;obtain⟨f0,f1,f2,f3,f4,f5⟩:=hf it (by simp);obtain⟨ok,ov,he⟩:=st;exact wpAny_pyNext_items_end (I.ok.hd hc) he (hd _ ho) (XW (by omega)) λ h' eb=>⟨rfl,I.turned (t':=s.toks) (λ b o hb e=>eb b o hb e) f0 f1 f3 f4 f5⟩
 self:=λ A i s Q E st h=>by
  obtain⟨ok,ov,he⟩:=st;exact W.kcp_self he h
section
variable {X:Cx}{tg:Expr}
def qns(tl:TE):TI2:=λ σ H R=>tl σ H λ x H1=>∃ a kvs,x=.ref a/\H1 a=some (.dK kvs)/\∀ o,R (qki a o kvs) (upd H1 a (.frz o (.dK kvs)))
theorem qkj(ho:PE X o to)(T3:attributeBase o "items" X.env (eval o X.env)=eval o X.env:=by rfl)(S7:(w5.endLine == C7.line)=true:=by rfl):PI2 X (.Tuple es k B0) (.Call (.Attribute o "items" w5) [] [] C7) (qns to):=by
 intro pins s σ H R I h;refine wpAny_Call_method0_late T3 S7 (thn (ho pins s σ H _ I h) λ v s1 ⟨x,H1,I1,r1,q1⟩=>?_);obtain⟨d,kvs,rfl,hd,q⟩:=q1;cases r1
 obtain⟨z,y,vs,r,ob,es,ep,mP,rest⟩:=(show zp X.prog X.w H1 s1.heap d (.dK kvs) from I1.hok d _ hd);have dd:s1.heap.DictOf (qu X.prog X.w) d vs:=⟨ob,es,ep,mP,rest⟩;have hdA:∀ h:Heap,h.get? d=some ob->h.DictAt (qu X.prog X.w) d vs ep:=λ h e=>⟨ob,es,e,rest⟩
 obtain⟨h1,h2⟩:=qgL (T:="dict") I1 (x:=.ref d) (v:=.ref d) rfl (.inr (.inr (.inl ⟨rfl,.inl ⟨kvs,hd⟩⟩)));refine⟨"dict","dict.items",PySem.F.plainAttrs_dict,PySem.F.slot_dict_items,PySem.F.type_dict_items,h1,h2,XE rfl (PySem.evalArgs_none ?_)⟩;refine call_meetsIn PySem.F.slot_dict_items dd.typeIs PySem.F.entry_dict_items (PySem.F.args_dict_items_1 _) (meets_dict_items (qu X.prog X.w) d y) ⟨⟨vs,dd⟩,?_⟩;refine wpAny_pyIter_items (knd:=qu X.prog X.w) (kvs:=vs) (ep:=ep) (d:=d) (s:={ s1 with heap:=s1.heap.push { cls:=.type "dict_items",data:=.fields #[.ref d] } }) ⟨_,Yt _ rfl,rfl,rfl⟩ (hdA _ (XB _ mP)) ?_;have I2:Inv X pins σ (upd H1 d (.frz ob (.dK kvs))) s1:=I1.swap hd (λ _ z=>by cases z) (λ _ z=>by cases z) (λ _ z=>by cases z) (I1.nofrz hd λ _ _ z=>by cases z) ⟨mP,z,y,vs,r,ob,es,ep,mP,rest⟩;have I3:Inv X pins σ (upd H1 d (.frz ob (.dK kvs))) { s1 with heap:=s1.heap.push { cls:=.type "dict_items",data:=.fields #[.ref d] } }:=I2.kept (t':=s1.toks) λ b o e=>XB _ e
 refine⟨(s1.heap.push { cls:=.type "dict_items",data:=.fields #[.ref d] }).objs.size,[(s1.heap.push { cls:=.type "dict_items",data:=.fields #[.ref d] }).objs.size],_,_,upd H1 d (.frz ob (.dK kvs)),rfl,I3.kept (t':=s1.toks) λ b o e=>XB _ e,qg3 d _ ob kvs vs ep r hdA,⟨_,_,Yt _ rfl⟩,λ b hb=>?_,q ob⟩;have e:b=(s1.heap.push { cls:=.type "dict_items",data:=.fields #[.ref d] }).objs.size:=by simpa using hb
 subst e;exact I3.fpOk (Q5 _) (I3.hok.fresh (Q5 _))
end
theorem qnt{t:TGs}{tb:TS}{D:Ends}(Pv:Nat->St->Hp->Prop)(h0:Pv 0 σ H)(hl:∀ i σ H,i<=kvs.length->Pv i σ H->H a=some (.frz ob (.dK kvs)))(hs:∀ i k v σ H,kvs[i]?=some (k,v)->Pv i σ H->t [kV k,v] σ H λ σ2 H2=>tb { D with nx:=Pv (i+1),ct:=Pv (i+1),bk:=D.nx } σ2 H2)(hd:∀ σ H,Pv kvs.length σ H->D.nx σ H):
  ∃ W:Nat->Nat->St->Hp->Prop,(∃ m,W 0 m σ H)/\∀ i m σ H,W i m σ H ->
   ((qki a ob kvs).stop i H/\D.nx σ H)∨((qki a ob kvs).go i H/\∃ N:St->Hp->Prop,(∀ σ' H',N σ' H'->∃ m',m'<m/\W (i+1) m' σ' H')/\∀ zs H',(qki a ob kvs).yld i H zs H'->zs.length=2/\t zs σ H' λ σ2 H2=>tb { D with nx:=N,ct:=N,bk:=D.nx } σ2 H2):=by
 refine⟨λ i m σ H=>m=kvs.length-i/\i<=kvs.length/\Pv i σ H,⟨kvs.length,by simp,Q6 _,h0⟩,?_⟩;rintro i m σ H ⟨rfl,hi,p⟩;have q:=hl i σ H hi p;by_cases i7:i<kvs.length
 ·refine .inr ⟨⟨q,i7⟩,Pv (i+1),λ σ' H' p'=>⟨kvs.length-(i+1),by omega,rfl,i7,p'⟩,λ zs H' y=>?_⟩;obtain⟨e,k,v,hk,ex⟩:=y;subst e ex;exact⟨rfl,hs i k v σ _ hk p⟩
 ·have e:i=kvs.length:=by omega
  subst e;exact .inl ⟨⟨q,Q5 _⟩,hd σ H p⟩
section
variable {X:Cx}
theorem qi4:MtR X "dict.update" (λ x vs H Q=>∃ d o kvs more,x=.ref d/\vs=[.ref o]/\H d=some (.dK kvs)/\H o=some (.dK more)/\d≠o/\kvs.length+more.length<=sizeLine/\Q .non (upd H d (.dK (qM kvs more)))):=by
 intro pins s σ H x vs v us Q I rx rv h;obtain⟨d,o,kvs,more,rfl,rfl,hd,ho,M9,hz,q⟩:=h;cases rx
 obtain⟨u,rfl,ru⟩:=zT rv;cases ru
 obtain⟨z1,s1,va,ra,da⟩:=qfp I.hok hd;obtain⟨z2,s2,vb,rb,db⟩:=qfp I.hok ho;refine call_meetsIn PySem.F.slot_dict_update da.typeIs PySem.F.entry_dict_update (PySem.F.args_dict_update_2 _ _) (meets_dict_update (qu X.prog X.w) d o M9 s2) ⟨va,vb,da,db,by rw[<- ra.length,<- rb.length];exact hz,λ h' gJ _ hs=>?_⟩;have he:∃ q,h'.get? d=some q:=let ⟨q,_,_,hq,_⟩:=gJ;⟨q,hq⟩;exact⟨.non,_,qcm (t':=s.toks) I (by rw[hd];exact True.intro) hs he (qcJ (Qq (yu more kvs) hz) s1 (KV.merge rb ra) gJ),rfl,q⟩
end
theorem qlY(I:Inv X pins σ H s)(hu:A.units<cLine) {G:List Int}(hF:SqL X.K H c (F.map V.int))(hG:SqL X.K H d (G.map V.int)):SeqAt.EqAt A s (.ref c) (.ref d) (decide (F=G)):=by
 obtain⟨iF,rF,pF,_⟩:=I.list hF;obtain⟨iG,rG,pG,_⟩:=I.list hG;have lF:=rF.length;have lG:=rG.length;rw[U0] at lF lG;by_cases R7:c=d
 ·subst R7;have e3:F=G:=by
   have:=I.list_inj hF hG
   exact Zi (λ a b e=>by injection e) |>.mp this
  rw[J4 e3];exact SeqAt.EqAt.same _
 ·refine SeqAt.EqAt.of_refs R7 ?_;by_cases hs:iF.toArray.size=iG.toArray.size
  ·have:=SeqAt.RcAt.lists (A:=A) (s:=s) (e:=qc2 V.int F G) pF.isList pG.isList hs hu (λ j h1 h2=>qbh qfC rF rG j h1 h2)
   have e:=qad qfC F G;rw[Zo,Zo] at hs;rw[show F.length=G.length by omega,Nat.min_self,Ur,Bool.and_true] at e;rw[Zo,show iF.length=G.length by omega,e] at this;exact this
  ·have:=SeqAt.RcAt.lists_lengths (A:=A) (s:=s) pF.isList pG.isList (by simpa using hs) hu
   rw[Jh]
   ·exact this
   ·intro e;rw[Zo,Zo,<- lF,<- lG,e] at hs;exact hs rfl
def GP(w:World)(es:List DictEntry)(kvs:List (Str×Str)):Prop:=Paired (λ(e:DictEntry)(kv:Str×Str)=>∃ t t',e=⟨hashStr w kv.1,.str kv.1 t,.str kv.2 t'⟩) es kvs
def GD(K:W.Frag)(w:World)(fr:Addr)(kvs:List (Str×Str)):Prop:=
 (∃(es:List DictEntry)(n:Nat),K.lookup fr=some ⟨.type "dict",none,.dict es.toArray n,#[]⟩/\GP w es kvs)/\(kvs.map (·.1)).Nodup
theorem qf5:∀{es:List DictEntry}{kvs:List (Str×Str)},GP w es kvs->∃ vs:List (Key×Value),Pairs (qu P w) es vs/\(∀ e∈es,∃ k,(qu P w).is k e.key=true/\e.hash=(qu P w).hash k) /\
  vs.map (·.1)=kvs.map (λ kv=>(Sum.inr kv.1:Key))/\∀ k v,kvs.lookup k=some v->∃ t,valueAt vs (Sum.inr k)=some (.str v t)
 |_,_,.nil=>⟨[],.nil,by simp,rfl,by simp⟩
 |_,kv::kvs,.cons ⟨t,t',h⟩ r=>by
  obtain⟨vs,p,q,m,l⟩:=qf5 (P:=P) r;subst h;refine⟨(Sum.inr kv.1,.str kv.2 t')::vs,.cons (zh P w kv.1 t) rfl p,λ e he=>?_,by rw[Qc,Qc,m],λ k v hv=>?_⟩
  ·rcases Qb.mp he with e1 | e1
   ·subst e1;exact⟨Sum.inr kv.1,zh P w kv.1 t,rfl⟩
   ·exact q e e1
  ·rw[Uh] at hv;unfold valueAt;rw[U4];by_cases e1:k=kv.1
   ·subst e1;rw[Ur] at hv;cases hv
    exact⟨t',by simp⟩
   ·rw[beq_false_of_ne e1] at hv;rw[show decide ((Sum.inr kv.1:Key)=Sum.inr k)=false from Jh (λ e2=>e1 (Sum.inr.inj e2).symm)];exact l k v hv
theorem qlZ{K:W.Frag}{h:Heap}(g:GD K w fr kvs)(dQ:∀ a o,K.lookup a=some o->h.get? a=some o):
  ∃ vs:List (Key×Value),h.DictOf (qu P w) fr vs/\∀ k v,kvs.lookup k=some v->∃ t,valueAt vs (Sum.inr k)=some (.str v t):=by
 obtain⟨⟨es,n,lk,gp⟩,nd⟩:=g;obtain⟨vs,p,q,m,l⟩:=qf5 (P:=P) gp;refine⟨vs,⟨_,es.toArray,n,dQ _ _ lk,⟨rfl,rfl,rfl⟩,rfl,λ e he=>q e (by simpa using he),by simpa using p,?_⟩,l⟩;rw[m];exact Zr.mpr ((Zr.mp nd).imp λ{a b} E7 e=>E7 (Sum.inr.inj e))
def qoq(kvs:List (Str×Str))(ty:TE):TE:=λ σ H Q=>ty σ H λ y H1=>∃ k v,y=.str k/\kvs.lookup k=some v/\Q (.str v) H1
theorem ql0 {pos:Pos}(hg:Gl X x)(hm:X.mg x=some (.ref fr))(g:GD X.K X.w fr kvs)(hi:PE X i ty)(hs:qm2 i)(hd:(x == ("__debug__":Str))=false:=by decide):
  PE X (.Subscript (.Name x p) i pos) (qoq kvs ty):=by
 intro pins s σ H Q I h;refine qhS PySem.F.slot_dict_getitem.lookup hs (qa4 I hg hm (thn (hi pins s σ H _ I h) λ iv s2 ⟨y,H2,I2,ry,k,v,ey,hl,q2⟩=>?_) hd);subst ey;obtain⟨vs,dd,l⟩:=qlZ (P:=X.prog) g I2.kIn;obtain⟨t,hv⟩:=l k v hl;exact⟨dd.typeIs,wpAny_getItem_of (qd0 (k:=Sum.inr k) ry) dd.mapOf hv ⟨.str v,H2,I2.tok _,⟨t,rfl⟩,q2⟩⟩
def qor(K:W.Frag):R2:=λ x y H Q=>∃(a b:Addr)(bs:List Addr)(F:List Int)(Gs:List (List Int)),x=.ref a/\y=.ref b/\SqL K H a (F.map V.int)/\SqL K H b (bs.map V.ref)/\Paired (λ c (G:List Int)=>SqL K H c (G.map V.int)) bs Gs/\Q (.bl (decide (F∈Gs))) H
theorem qeg:∀{bs:List Addr}{us:List Value},qL (bs.map V.ref) us->us=bs.map Value.ref
 | [],_,.nil=>rfl
 |b::bs,_,.cons r t=>by
  rw[qeg t];obtain rfl:=(show _=Value.ref b from r);rfl
theorem ql1(hu:X.A.units+1<cLine):OpR X (compareOp .In) (qor X.K):=by
 intro pins s σ H x y v u Q I rx ry h;obtain⟨a,b,bs,F,Gs,rfl,rfl,h1,h2,pa,q⟩:=h;cases rx
 cases ry
 obtain⟨its,r,pl,hz⟩:=I.list h2;have ei:=qeg r;subst ei
 open Classical in
 refine SeqAt.in_listAt (λ u=>decide (∃ c,u=Value.ref c/\∃ G:List Int,SqL X.K H c (G.map V.int)/\G=F)) pl.isList (λ w hw=>?_) ⟨.bl _,H,I,rfl,?_⟩
 ·have iB:w∈bs.map Value.ref:=by simpa using hw
  obtain⟨c,hc,rfl⟩:=Qu.mp iB;obtain⟨k,hk⟩:=XX.mp hc;have key:∃ G:List Int,SqL X.K H c (G.map V.int):=by
   have gen:∀{xs:List Addr}{l:List (List Int)},Paired (λ c (G:List Int)=>SqL X.K H c (G.map V.int)) xs l->∀ c∈xs,∃ G:List Int,SqL X.K H c (G.map V.int):=by
    intro xs l p;induction p with
    |nil=>intro c h;cases h
    |cons r t ih =>
     intro c h;rcases Qb.mp h with e|e
     ·subst e;exact⟨_,r⟩
     ·exact ih c e
   exact gen pa c hc
  obtain⟨G,hG⟩:=key;have e:=qlY (A:=X.A.in1) I (by exact hu) hG h1;have ed:decide (∃ c',Value.ref c=Value.ref c'/\∃ G:List Int,SqL X.K H c' (G.map V.int)/\G=F)=decide (G=F):=by
   refine Uw.mpr ⟨?_,λ e=>⟨c,rfl,G,hG,e⟩⟩;rintro⟨c',e1,G',hG',e2⟩;cases e1
   have:=I.list_inj hG hG'
   rw[Zi (λ a b e=>by injection e)] at this;rw[this,e2]
  rw[ed];exact e
 ·have e:((bs.map Value.ref).toArray.any λ u=>decide (∃ c,u=Value.ref c/\∃ G:List Int,SqL X.K H c (G.map V.int)/\G=F))=decide (F∈Gs):=by
   rw[Uz,Zl];simp only[List.any_toArray,Uo,Qu,decide_eq_true_eq];constructor
   ·rintro⟨_,⟨c,hc,rfl⟩,c',e1,G,hG,rfl⟩;cases e1
    have gen:∀{xs:List Addr}{l:List (List Int)},Paired (λ c (G:List Int)=>SqL X.K H c (G.map V.int)) xs l->∀ c∈xs,SqL X.K H c (G.map V.int)->G∈l:=by
     intro xs l p;induction p with
     |nil=>intro c h;cases h
     |cons r t ih =>
      intro c h hc;rcases Qb.mp h with e|e
      ·subst e
       have:=I.list_inj hc r
       rw[Zi (λ a b e=>by injection e)] at this;rw[this];exact Y9 ..
      ·exact Yf _ (ih c e hc)
    exact gen pa c hc hG
   ·intro hF;have gen:∀{xs:List Addr}{l:List (List Int)},Paired (λ c (G:List Int)=>SqL X.K H c (G.map V.int)) xs l->∀ G∈l,∃ c∈xs,SqL X.K H c (G.map V.int):=by
     intro xs l p;induction p with
     |nil=>intro G h;cases h
     |cons r t ih =>
      intro G h;rcases Qb.mp h with e|e
      ·subst e;exact⟨_,Y9 ..,r⟩
      ·obtain⟨c,hc,hs⟩:=ih G e;exact⟨c,Yf _ hc,hs⟩
    obtain⟨c,hc,hs⟩:=gen pa F hF;exact⟨_,⟨c,hc,rfl⟩,c,rfl,F,hs,rfl⟩
  rw[e];exact q
theorem qdp:∀(l:List (Str×NameKind))(n:Nat)(c7:List (Str×Addr))(x:Str)(c:Addr),(cellsFrom n l c7).lookup x=some c->((x,NameKind.cell)∈l/\n<=c)∨c7.lookup x=some c
 | [],n,c7,x,c,h=>.inr h
 |(nm,k)::r,n,c7,x,c,h=>by
  unfold cellsFrom at h;split at h
  ·rename_i hk;have hk:k=.cell:=by simpa using hk
   rcases qdp r (n+1) _ x c h with⟨h1,h2⟩|h1
   ·exact .inl ⟨Yf _ h1,Nat.le_of_succ_le h2⟩
   ·rw[Uh] at h1;cases hx:x == nm with
    |true =>
     rw[hx] at h1;have e1:x=nm:=Vh.mp hx;have e2:n=c:=Option.some.inj h1;subst e1 hk;exact .inl ⟨Y9 ..,Nat.le_of_eq e2⟩
    |false=>rw[hx] at h1;exact .inr h1
  ·rcases qdp r n c7 x c h with⟨h1,h2⟩ | h1
   ·exact .inl ⟨Yf _ h1,h2⟩
   ·exact .inr h1
theorem qcr:∀(l:List (Str×NameKind))(n:Nat)(c7:List (Str×Addr))(x:Str),(c7.lookup x).isSome=true->((cellsFrom n l c7).lookup x).isSome=true
 | [],n,c7,x,h=>h
 |(nm,k)::r,n,c7,x,h=>by
  unfold cellsFrom;split
  ·refine qcr r _ _ x ?_;rw[Uh];cases x == nm with
   |true=>rfl
   |false=>exact h
  ·exact qcr r n c7 x h
theorem qg4:∀(l:List (Str×NameKind))(n:Nat)(c7:List (Str×Addr))(x:Str),(x,NameKind.cell)∈l->((cellsFrom n l c7).lookup x).isSome=true
 |(nm,k)::r,n,c7,x,h=>by
  unfold cellsFrom;rcases Qb.mp h with e|e
  ·cases e
   rw[Vy (by decide)];refine qcr r _ _ _ ?_;rw[Uh];simp
  ·split
   ·exact qg4 r _ _ x e
   ·exact qg4 r n c7 x e
theorem qeW:∀(l:List (Str×NameKind))(n:Nat)(c7:List (Str×Addr))(x:Str),(x,NameKind.cell)∉l->(cellsFrom n l c7).lookup x=c7.lookup x
 | [],n,c7,x,_=>rfl
 |(nm,k)::r,n,c7,x,h=>by
  have hr:(x,NameKind.cell)∉r:=λ e=>h (Yf _ e)
  unfold cellsFrom;split
  ·rename_i hk;have hk:k=.cell:=by simpa using hk
   rw[qeW r _ _ x hr,Uh];cases hx:x == nm with
   |true =>
    have e1:x=nm:=Vh.mp hx;subst e1 hk;exact absurd (Y9 ..) h
   |false=>rfl
  ·exact qeW r n c7 x hr
theorem qg5:∀(l:List (Str×NameKind))(n:Nat)(c7:List (Str×Addr)),(∀ x c,c7.lookup x=some c->c<n)->(∀ x y c,c7.lookup x=some c->c7.lookup y=some c->x=y) ->
  ∀ x y c,(cellsFrom n l c7).lookup x=some c->(cellsFrom n l c7).lookup y=some c->x=y
 | [],n,c7,_,hi,x,y,c,h1,h2=>hi x y c h1 h2
 |(nm,k)::r,n,c7,hb,hi,x,y,c,h1,h2=>by
  unfold cellsFrom at h1 h2;split at h1
  ·rename_i hk;rw[Vy hk] at h2;refine qg5 r (n+1) ((nm,n)::c7) (λ x c e=>?_) (λ x y c e1 e2=>?_) x y c h1 h2
   ·rw[Uh] at e;cases hx:x == nm with
    |true=>rw[hx] at e;cases e;exact Ud _
    |false=>rw[hx] at e;exact Zt (hb x c e)
   ·rw[Uh] at e1 e2;cases hx:x == nm with
    |true =>
     rw[hx] at e1;cases hy:y == nm with
     |true=>rw[Vh.mp hx,Vh.mp hy]
     |false=>rw[hy] at e2;cases e1;exact absurd (hb y _ e2) (Qa _)
    |false =>
     rw[hx] at e1;cases hy:y == nm with
     |true=>rw[hy] at e2;cases e2;exact absurd (hb x _ e1) (Qa _)
     |false=>rw[hy] at e2;exact hi x y c e1 e2
  ·rename_i hk;rw[Vz hk] at h2;exact qg5 r n c7 hb hi x y c h1 h2
theorem qeX:∀(l:List (Str×NameKind))(h:Heap)(c7:List (Str×Addr))(x:Str)(c:Addr),(cellsFrom h.objs.size l c7).lookup x=some c->(pushCells h l).IsCell c none∨c7.lookup x=some c
 | [],h,c7,x,c,e=>.inr e
 |(nm,k)::r,h,c7,x,c,e=>by
  unfold cellsFrom at e;unfold pushCells;split at e
  ·rename_i hk;rw[Vy hk];have e:(cellsFrom (h.push { cls:=.type "cell",data:=.cell none }).objs.size r ((nm,h.objs.size)::c7)).lookup x=some c:=by rw[Jr];exact e
   rcases qeX r _ _ x c e with h1|h1
   ·exact .inl h1
   ·rw[Uh] at h1;cases hx:x == nm with
    |true =>
     rw[hx] at h1;have e2:h.objs.size=c:=Option.some.inj h1;subst e2;exact .inl ⟨_,Jo r _ _ _ (Yt _ rfl),rfl⟩
    |false=>rw[hx] at h1;exact .inr h1
  ·rename_i hk;rw[Vz hk];exact qeX r h c7 x c e
theorem qeh(env:Env):∀(l:List (Str×NameKind))(c7:List (Str×Addr))(x:Str)(c:Addr),(zO env l c7).lookup x=some c->(x,NameKind.free)∈l∨c7.lookup x=some c
 | [],c7,x,c,h=>.inr h
 |(n,k)::r,c7,x,c,h=>by
  rw[zO] at h;rcases qeh env r _ x c h with h1|h1
  ·exact .inl (Yf _ h1)
  ·by_cases hk:(k == NameKind.free)=true
   ·rw[Vy hk,Uh] at h1;have hk:k=.free:=by simpa using hk
    cases hx:x == n with
    |true =>
     have e1:x=n:=Vh.mp hx;subst e1 hk;exact .inl (Y9 ..)
    |false=>rw[hx] at h1;exact .inr h1
   ·rw[Vz hk] at h1;exact .inr h1
theorem kq{α:Type}:∀{l:List (Str×α)},(l.map (·.1)).Nodup->∀{x:Str}{k:α},(x,k)∈l->l.lookup x=some k
 | [],_,x,k,h=>by cases h
 |(n,j)::r,nd,x,k,h=>by
  have G6:=U2.mp nd;rw[Uh];rcases Qb.mp h with e|e
  ·cases e;simp
  ·have:x≠n:=λ q=>G6.1 (by subst q;exact Qu.mpr ⟨_,e,rfl⟩)
   rw[Y6.mpr this];exact kq G6.2 e
theorem kr{env:Env}:∀{names:List (Str×NameKind)}{x:Str}{k:NameKind},
  (names.map λ(n,k)=>if (k == NameKind.free && env.scope.kind == .function && env.kindOf n == some .cell) then(n,NameKind.cell) else(n,k)).lookup x=some k->(k=.cell∨k=.free)->names.lookup x=some .free∨names.lookup x=some .cell
 | [],_,_,h,_=>by simp at h
 |(n,k0)::r,x,k,h,hk=>by
  have ih:=@kr env r x k;replace h:List.lookup x ((if (k0 == NameKind.free && env.scope.kind == .function && env.kindOf n == some .cell)=true then(n,NameKind.cell) else(n,k0))::(r.map λ(n,k)=>if (k == NameKind.free && env.scope.kind == .function && env.kindOf n == some .cell) then(n,NameKind.cell) else(n,k)))=some k:=h;rw[Uh];by_cases hc:(k0 == NameKind.free && env.scope.kind == .function && env.kindOf n == some .cell)=true
  ·rw[Vy hc,Uh] at h;have h0:k0=.free:=by
    rw[Ug,Ug] at hc;simpa using hc.1.1
   cases hx:x == n with
   |true=>left;rw[h0]
   |false=>rw[hx] at h;exact ih h hk
  ·rw[Vz hc,Uh] at h;cases hx:x == n with
   |true =>
    rw[hx] at h;have e:k0=k:=Option.some.inj h;rw[e];rcases hk with q|q
    ·right;rw[q]
    ·left;rw[q]
   |false=>rw[hx] at h;exact ih h hk
noncomputable def y8(X:Cx)(NY:List Str)(scope:Scope)(C:Addr)(s:Shared)(H:Hp)(fp:List Addr)(pins:List (Addr×Obj)):Cx:=
 { X with N:=NY,s₀:=s,H₀:=H,env:=compEnvC scope (cellsFrom (C+1) scope.names (zO X.env scope.names [])) C X.env,outer:=X.stack,ex:=fp,fn:=λ x=>scope.names.lookup x == some .cell,pn:=X.pn++pins,xe:=λ _ _=>False }
structure CompScopeC(X:Cx)(NY:List Str)(o:Nat)(caps:List Nat)(scope:Scope):Prop where
 kind:scope.kind=.function
 nd:NY.Nodup
 names:(scope.names.map (·.1)).Nodup
 frees:∀ y∈scope.names,y.2=.free->(X.env.kindOf y.1=some .cell∨X.env.kindOf y.1=some .free)
 locs:∀ y∈scope.names,y.2=.local->scope.names.lookup y.1=some .local
 capOk:∀(j:Nat)(i:Nat),caps[j]?=some i->∃ x,NY[o+j]?=some x/\X.N[i]?=some x/\scope.names.lookup x=some .free
 len:NY.length=o+caps.length
theorem qf6(frees:List Str)(k:scope.kind=.function)(nd:NY.Nodup)(nc:(scope.names.map (·.1)).Nodup)(lc:scope.names.all (λ y=>y.2 != .local || scope.names.lookup y.1 == some .local)=true)(fr:scope.names.all (λ y=>y.2 != .free || frees.contains y.1)=true)(fk:∀ x∈frees,X.env.kindOf x=some .cell∨X.env.kindOf x=some .free)(wO:∀(j i:Nat),caps[j]?=some i->∃ x,NY[o+j]?=some x/\X.N[i]?=some x/\scope.names.lookup x=some .free)(len:NY.length=o+caps.length):CompScopeC X NY o caps scope where
 kind:=k
 nd:=nd
 names:=nc
 frees:=λ y hy e=>by
  have:=Uj.mp fr y hy
  rw[e] at this;exact fk _ (XT.mp this)
 locs:=λ y hy e=>by
  have:=Uj.mp lc y hy
  rw[e] at this;simpa using this
 capOk:=wO
 len:=len
section
variable {X:Cx}
theorem qi5(S:CompScopeC X NY o caps scope)(I2:Inv X pins σ H2 s2)(B3:∀ b∈fp,yY X pins H2 b)(mP:∀ b∈fp,∃ ob,s2.heap.get? b=some ob)(hns:h₁.Ns (s2.heap.objs.size+1) λ _=>none)(l7:∀ b ob,s2.heap.get? b=some ob->h₁.get? b=some ob)(cF:∀ x c,(cellsFrom (s2.heap.objs.size+1+1) scope.names (zO X.env scope.names [])).lookup x=some c->h₁.IsCell c none∨(zO X.env scope.names []).lookup x=some c)(hD:∃ n,h₁.get? s2.heap.objs.size=some { cls:=.type "list",data:=.seq ([]:List Value).toArray n })(t':Nat):
  Inv (y8 X NY scope (s2.heap.objs.size+1) s2 H2 fp pins) [] (stY o caps σ) (upd H2 s2.heap.objs.size (.lst [])) { s2 with heap:=h₁,toks:=t' }:=by
 have frees:∀ y∈scope.names,y.2=.free->∃ c,X.env.cells.lookup y.1=some c:=λ y hy e=>I2.ok.has _ (S.frees y hy e)
 have r6:∀ x c,(zO X.env scope.names []).lookup x=some c->X.env.cells.lookup x=some c:=qaE X.env scope.names [] frees (λ x c e=>by simp at e);have S4:∀ x c,(zO X.env scope.names []).lookup x=some c->c<s2.heap.objs.size:=λ x c e=>by
  obtain⟨v,ob,q,d⟩:=I2.cell x c (r6 x c e);exact Qo q
 have cP:∀ x c,(cellsFrom (s2.heap.objs.size+1+1) scope.names (zO X.env scope.names [])).lookup x=some c->s2.heap.objs.size+1+1<=c∨(zO X.env scope.names []).lookup x=some c:=λ x c e =>
  (qdp _ _ _ x c e).imp (λ h=>h.2) id
 have T7:H2 s2.heap.objs.size=none:=I2.hok.fresh (Q5 _);have oH:H2 (s2.heap.objs.size+1)=none:=I2.hok.fresh (Q7 _);have sH:∀ b ob,s2.heap.get? b=some ob->b≠s2.heap.objs.size+1:=λ b ob e=>Qp (Zt (Qo e))
 have sG:∀ b ob,s2.heap.get? b=some ob->b≠s2.heap.objs.size:=λ b ob e=>Qp (Qo e)
 have oB:HOk X.prog X.w (upd H2 s2.heap.objs.size (.lst [])) h₁:=by
  obtain⟨n,hD⟩:=hD;exact I2.hok.laid l7 (Q5 _) ⟨Q6 _,[],n,.nil,hD⟩
 refine⟨?_,rfl,I2.bare,?_,?_,?_,?_,?_,?_,oB,?_⟩
 ·refine⟨I2.ok.mod,S.kind,I2.ok.glob,I2.ok.blt,Q7 _,λ x y c h1 h2=>?_,λ x hx=>?_,λ x c e h=>?_,I2.ok.hd,I2.ok.frames,.inl rfl,λ b hb=>?_,
   I2.bs,Qq I2.ok.bsz I2.sz,λ b ob e hb=>?_,λ b hb z=>?_,I2.stack,I2.stkFree⟩
  ·exact qg5 scope.names (s2.heap.objs.size+1+1) (zO X.env scope.names []) (λ x c e=>Zt (Zt (S4 x c e))) (λ x y c h1 h2=>I2.ok.inj x y c (r6 x c h1) (r6 y c h2)) x y c h1 h2
  ·have x3:scope.names.lookup x=some .free∨scope.names.lookup x=some .cell:=by
    rcases hx with q|q
    ·exact kr (env:=X.env) q (.inl rfl)
    ·exact kr (env:=X.env) q (.inr rfl)
   rcases x3 with q|q
   ·exact Xs.mp (qcr _ _ _ x (vR X.env scope.names [] x (Yu q)))
   ·exact Xs.mp (qg4 _ _ _ x (Yu q))
  ·rcases cP x c h with q | q
   ·exact Qq (Qq (Q7 _) (Q7 _)) q
   ·rcases qeh X.env _ _ x c q with z | z
    ·have e1:=kq S.names z;have e2:scope.names.lookup x=some .cell:=by simpa using(show(scope.names.lookup x == some .cell)=true from e)
     rw[e1] at e2;cases e2
    ·simp at z
  ·obtain⟨ob,e⟩:=mP b hb;refine⟨sH b ob e,λ x c q=>?_⟩;rcases cP x c q with z | z
   ·exact λ y=>absurd (Qo e) (by rw[<- y];exact Nat.not_lt.mpr (Qq (Qq (Q7 _) (Q7 _)) z))
   ·exact(B3 b hb).2.2.2.2.1 x c (r6 x c z)
  ·rcases(B3 b hb).2.2.2.1 with q | q
   ·exact I2.ok.noex b ob e q
   ·exact absurd (Y8 (Qo e) (Qq I2.ok.bsz q)) (Qa _)
  ·rcases Qb.mp (I2.stkSub b z) with q | q
   ·exact(B3 b hb).2.1 q
   ·exact(B3 b hb).2.2.1 q
 ·exact Un.laid l7 (Q5 _) T7
 ·refine⟨_,hns,λ j x v e1 e2 e3=>?_⟩;obtain⟨j',i,ej,ec,es⟩:=qjL e2;obtain⟨x',n1,n2,n3⟩:=S.capOk j' i ec;rw[<- ej] at n1;have ex:x=x':=Option.some.inj ((show NY[j]?=some x from e1).symm.trans n1);subst ex;have hk:=S.frees (x,.free) (Yu n3) rfl;obtain⟨m,_,hl⟩:=I2.loc;have hv:Vis X.env.scope x:=hk.elim (λ q=>.inr (.inl q)) λ q=>.inr (.inr q)
  obtain⟨u,ru,lk⟩:=hl i x v n2 es hv;refine⟨u,ru,.inr ⟨j5 (env:=X.env) n3,?_⟩⟩;rcases lk with⟨q,_⟩|⟨_,c,ec,cell⟩
  ·rcases hk with z | z
   ·rw[show X.env.kindOf x=some .cell from z] at q;cases q
   ·rw[show X.env.kindOf x=some .free from z] at q;cases q
  ·obtain⟨c',I0⟩:=Xs.mp (vR X.env scope.names [] x (Yu n3))
   have:=r6 x c' I0
   rw[ec] at this;cases this
   obtain⟨ob,e,d⟩:=cell;refine⟨c,?_,ob,l7 c ob e,d⟩;show(cellsFrom (s2.heap.objs.size+1+1) scope.names (zO X.env scope.names [])).lookup x=some c
   rw[qeW _ _ _ x (λ z=>by have:=kq S.names z;rw[n3] at this;cases this)];exact I0
 ·intro x c e;rcases cF x c e with q | q
  ·exact⟨_,q⟩
  ·obtain⟨v,ob,q,d⟩:=I2.cell x c (r6 x c q);exact⟨v,ob,l7 c ob q,d⟩
 ·show upd H2 s2.heap.objs.size (.lst []) (s2.heap.objs.size+1)=none
  rw[qp (Ui _)];exact oH
 ·intro x c e;rcases cP x c e with z | z
  ·have hc:s2.heap.objs.size<c:=Y8 (Zt (Ud _)) z;rw[qp (Qs hc)];exact I2.hok.fresh (Qr hc)
  ·obtain⟨v,ob,q,d⟩:=I2.cell x c (r6 x c z);rw[qp (sG c ob q)];exact I2.freeC x c (r6 x c z)
 ·intro p hp;have E9:p∈X.pn++pins:=by
   have:p∈(X.pn++pins)++[]:=hp
   simpa using this
  obtain⟨e,n,ne,nf,d⟩:=I2.pin p E9;refine⟨l7 _ _ e,by rw[qp (sG _ _ e)];exact n,sH _ _ e,λ z=>?_,d⟩;rcases Qb.mp (I2.stkSub p.1 z) with q|q
  ·exact ne q
  ·exact nf q
 ·show(stY o caps σ).length=NY.length
  unfold stY;rw[Zb,XO,U0,S.len]
theorem ql2{code:Value}(hQ:Q (newEnv scope s.heap.objs.size globals (cellsFrom (s.heap.objs.size+1) scope.names aU) qual func code (some outer) builtins) { s with heap:=pushCells (s.heap.push { cls:=.type "dict",data:=.dict #[] }) scope.names }):
  wpAny M A (newFunctionEnv scope globals aU [] qual func code (some outer) builtins) Q E s:=by
 simp only[newFunctionEnv,Option.isSome_some,Vv];refine Ve (wpAny_alloc ?_);refine Ve (wpAny_layCells _ (λ name kind cells=>by cases hkc:kind == NameKind.cell <;> simp[hkc]) _ _ _ _ ?_);rw[show({ s with heap:=s.heap.push { cls:=.type "dict",data:=.dict #[] } }:Shared).heap.objs.size=s.heap.objs.size+1 from Jr ..];rw[Jv];exact Ve (Vg (Vg hQ))
theorem qf7{pos:Pos}(S:CompScopeC X NY o caps scope)(I2:Inv X pins σ H2 s2)(B3:∀ b∈fp,yY X pins H2 b)(l0:tn 0 s2.heap)(Wk:∀ C,Walk (y8 X NY scope C s2 H2 fp pins) tg fp it tn adv stop)(ht:∀ C,PTs (y8 X NY scope C s2 H2 fp pins) C3 tt)(he:∀ C,PE (y8 X NY scope C s2 H2 fp pins) G0 te)(h:yO o caps adv stop tt te σ H2 Q):
  wpAny (model X.prog X.w) X.A (newList []) (λ c7 s₃=>wpAny (model X.prog X.w) X.A (newFunctionEnv scope X.env.globals (zO X.env scope.names []) [] X.env.qual none .none (some X.env)) (λ R0 s₄ =>
   codeAny (model X.prog X.w) X.A (.compStart (.ListComp G0 [⟨tg,iter,C3,0⟩] scope pos) 0 (.ref it) c7 { R0 with scope:=relabel scope X.env }) (compPost (model X.prog X.w) X.A X.xe none (EP X pins σ Q) c7 R0.locals) s₄) X.xe s₃) X.xe s2:=by
 refine Z4 (ql2 ?_);have hC:(s2.heap.push { cls:=.type "list",dict:=none,data:=.seq ([]:List Value).toArray }).objs.size=s2.heap.objs.size+1:=Jr _ _;dsimp only;rw[hC];have hszD:((s2.heap.push { cls:=.type "list",dict:=none,data:=.seq ([]:List Value).toArray }).push { cls:=.type "dict",data:=.dict #[] }).objs.size=s2.heap.objs.size+1+1:=by rw[Jr,hC]
 have cF:∀ x c,(cellsFrom (s2.heap.objs.size+1+1) scope.names (zO X.env scope.names [])).lookup x=some c->(pushCells ((s2.heap.push { cls:=.type "list",dict:=none,data:=.seq ([]:List Value).toArray }).push { cls:=.type "dict",data:=.dict #[] }) scope.names).IsCell c none∨(zO X.env scope.names []).lookup x=some c:=λ x c e =>
  qeX scope.names _ _ x c (by rw[hszD];exact e)
 have hns₁:(pushCells ((s2.heap.push { cls:=.type "list",dict:=none,data:=.seq ([]:List Value).toArray }).push { cls:=.type "dict",data:=.dict #[] }) scope.names).Ns (s2.heap.objs.size+1) λ _=>none:=by
  have:=(Heap.Ns.new (s2.heap.push { cls:=.type "list",dict:=none,data:=.seq ([]:List Value).toArray }) (.type "dict")).keeps (Jo scope.names _)
  rw[hC] at this;exact this
 have l7:∀ b ob,s2.heap.get? b=some ob->(pushCells ((s2.heap.push { cls:=.type "list",dict:=none,data:=.seq ([]:List Value).toArray }).push { cls:=.type "dict",data:=.dict #[] }) scope.names).get? b=some ob:=λ b ob e =>
  Jo _ _ _ _ (XB _ (XB _ e))
 have hD:∃ n,(pushCells ((s2.heap.push { cls:=.type "list",dict:=none,data:=.seq ([]:List Value).toArray }).push { cls:=.type "dict",data:=.dict #[] }) scope.names).get? s2.heap.objs.size=some { cls:=.type "list",data:=.seq ([]:List Value).toArray n }:=
  ⟨_,Jo _ _ _ _ (XB _ (Yt _ rfl))⟩
 generalize pushCells ((s2.heap.push { cls:=.type "list",dict:=none,data:=.seq ([]:List Value).toArray }).push { cls:=.type "dict",data:=.dict #[] }) scope.names=h₁ at hns₁ cF l7 hD ⊢;have T7:H2 s2.heap.objs.size=none:=I2.hok.fresh (Q5 _);obtain⟨W,⟨m0,w0⟩,turn⟩:=h _ T7;have cQ:=(Wk 0).obj 0 s2.heap l0;have I4:=qi5 S I2 B3 (λ b hb=>(cQ b hb).imp λ _ q=>q.1) (hns:=hns₁) l7 cF hD s2.toks;have lQ:tn 0 h₁:=(Wk 0).keep _ _ _ l0 λ b _ ob e=>l7 b ob e
 have uU:∀ b∈fp,upd H2 s2.heap.objs.size (.lst []) b=none:=λ b hb=>by
  obtain⟨ob,e,_⟩:=cQ b hb;rw[qp (Qp (Qo e))];exact(B3 b hb).1
 have loop:codeAny (model X.prog X.w) X.A (.compLoop (.ListComp G0 [⟨tg,iter,C3,0⟩] scope pos) 0 (.ref it) (.ref s2.heap.objs.size) (compEnvC scope (cellsFrom (s2.heap.objs.size+1+1) scope.names (zO X.env scope.names [])) (s2.heap.objs.size+1) X.env))
   (compPost (model X.prog X.w) X.A X.xe none (EP X pins σ Q) (.ref s2.heap.objs.size) (s2.heap.objs.size+1)) { s2 with heap:=h₁ }:=by
  have Wk:=Wk (s2.heap.objs.size+1);have ht:=ht (s2.heap.objs.size+1);have he:=he (s2.heap.objs.size+1);generalize hY:y8 X NY scope (s2.heap.objs.size+1) s2 H2 fp pins=Y at Wk ht he I4;have eR:∀{H':Hp},(∀ b∈fp,H' b=none)->∀ b∈fp,yY Y [] H' b:=λ{H'} hn b hb=>by
   subst hY;obtain⟨ob,e,_⟩:=cQ b hb;have k:=I4.ok.exf b hb;refine⟨hn b hb,k.1,I4.ok.exfs b hb,.inl hb,k.2,λ p hp=>?_⟩;have E9:p∈X.pn++pins:=by
    have:p∈(X.pn++pins)++[]:=hp
    simpa using this
   exact(B3 b hb).2.2.2.2.2 p E9
  refine j6 (λ n s'=>∃ i ys H',Inv Y [] (stY o caps σ) H' s'/\tn i s'.heap/\(∀ b∈fp,H' b=none)/\W i n ys H') ?_ m0 ⟨0,[],_,I4,lQ,uU,w0⟩;rintro n s3 ⟨i,ys,H3,I3,G5,aT,w3⟩;have eE:Y.xe=λ _ _=>False:=by subst hY;rfl
  have wJ:Y.prog=X.prog/\Y.w=X.w/\Y.A=X.A/\Y.env=compEnvC scope (cellsFrom (s2.heap.objs.size+1+1) scope.names (zO X.env scope.names [])) (s2.heap.objs.size+1) X.env:=by subst hY;exact⟨rfl,rfl,rfl,rfl⟩
  obtain⟨eP,ew,eA,ee⟩:=wJ;rw[<- eP,<- ew,<- eA,<- ee,<- eE];rcases turn i n ys H3 w3 with⟨stp,qn⟩|av
  ·refine thn (Wk.done i [] s3 _ H3 I3 (eR aT) G5 stp) λ r s4 ⟨hr,I5⟩=>?_
   subst hr;obtain⟨m,hn,_⟩:=id I5.loc;have eC:Y.env.locals=s2.heap.objs.size+1:=by rw[ee];rfl
   rw[eC] at hn;refine⟨m,hn,λ h' hs=>?_⟩;have u:=I5.base;have dG:=I5.hok;have A8:=I5.free;rw[eC] at A8;have T4:=I5.bare;have tL:=I5.os;subst hY;have u2:Un (frs X.stack) fp H2 H3 s2.heap h':=Un.but u hs (Q7 _);have dH:HOk X.prog X.w H3 h':=HOk.but dG hs A8;refine⟨.ref s2.heap.objs.size,H3,?_,rfl,qn⟩;obtain⟨hh,g,d,t,nP⟩:=s4;obtain rfl:nP=s2.os:=tL;exact Inv.call (s:=s2) (h':=h') (g':=g) (d':=d) (t':=t) (ch:=fp) I2 u2 dH T4 λ b hb=>⟨(B3 b hb).2.2.2.1,(B3 b hb).2.1,(B3 b hb).2.2.2.2.1,(B3 b hb).2.2.2.2.2⟩
  ·refine thn (Wk.item i [] s3 _ H3 _ I3 (eR aT) G5 av) λ r s4 ⟨u,hr,h4⟩=>?_
   subst hr;refine thn h4 λ _ s5 h5=>thn h5 λ _ s6 ⟨σ6,H6,I6,⟨kp,q6⟩,S0,uT⟩=>?_
   have xE:=I6.pinned (fp:=fp) (eR uT) (Wk.obj _ _ S0);refine thn (ht _ s6 σ6 H6 _ xE q6) λ b s7 ⟨H7,I7,q7⟩=>?_
   cases b with
   |false =>
    obtain⟨m',hm,w7⟩:=q7;obtain⟨J1,J2,J3⟩:=zE (tg:=tg) (tn:=tn) (i:=i+1) (Wk.obj _ _ S0) (λ h' k=>Wk.keep _ _ _ S0 k) I7;exact⟨m',hm,i+1,ys,H7,J1.weak kp.2.symm kp.get,J2,J3,w7⟩
   |true =>
    refine thn (he _ s7 σ6 H7 _ I7 q7) λ y s8 ⟨yv,H8,I8,r8,uI,mC,m',hm,w8⟩=>?_
    refine thn (yb (X:=Y) _ s8 σ6 H8 (.ref s2.heap.objs.size) [yv] _ _ (λ v H'=>v=.non/\H'=upd H8 s2.heap.objs.size (.lst (ys++[yv]))) I8 rfl (.cons r8 .nil) ⟨_,ys,yv,rfl,rfl,uI,mC,rfl,rfl⟩) λ v s9 ⟨_,H9,I9,_,_,e9⟩=>?_
    subst e9;obtain⟨J1,J2,J3⟩:=zE (tg:=tg) (tn:=tn) (i:=i+1) (Wk.obj _ _ S0) (λ h' k=>Wk.keep _ _ _ S0 k) I9;exact⟨m',hm,i+1,ys++[yv],_,J1.weak kp.2.symm kp.get,J2,J3,w8⟩
 exact XM loop ((Wk 0).self _ 0 _ _ _ lQ loop)
theorem qkk{pos:Pos}(S:CompScopeC X NY o caps scope)(hc:X.calm=true)(hi:PI X tg iter wi)(hg:∀ C s H fp pins,PG (y8 X NY scope C s H fp pins) tg g)(ht:∀ C s H fp pins,PTs (y8 X NY scope C s H fp pins) C3 tt)(he:∀ C s H fp pins,PE (y8 X NY scope C s H fp pins) G0 te)(hs:∀ x,foldedSetIterable iter X.env x=pure x:=by intro _;rfl):PE X (.ListComp G0 [⟨tg,iter,C3,0⟩] scope pos) (qjM o caps wi g tt te):=by
 intro pins s σ H Q I h;rw[eval_ListComp];refine X0 (use:=none) (g:=⟨tg,iter,C3,0⟩) (gs:=[]) rfl hs (yw λ y hy e=>I.ok.has _ (S.frees y hy e)) S.kind S.locs ?_;show wpAny _ _ (eval iter X.env) _ _ s
 refine thn (hi pins s σ H _ I h) λ v s1 h1=>thn h1 λ hW s2 h2=>?_
 obtain⟨it,fp,tn,J,H2,e,I2,T,l0,f2,hr⟩:=h2;subst e;exact qf7 S I2 f2 l0 (λ C=>Turn.walk (Y:=y8 X NY scope C s2 H2 fp pins) hc T (hg _ _ _ _ _)) (λ C=>ht _ _ _ _ _) (λ C=>he _ _ _ _ _) hr
end
end L2
namespace PySem
open Sem (wp)
structure ZApart(z TI TO i1 i2:Addr)(fp1 fp2:List Addr):Prop where
 TIz:TI≠z
 TOz:TO≠z
 i1z:i1≠z
 i2z:i2≠z
 TITO:TI≠TO
 TIi1:TI≠i1
 TIi2:TI≠i2
 TOi1:TO≠i1
 TOi2:TO≠i2
 i12:i1≠i2
 z1:z∉fp1
 TO1:TO∉fp1
 o1:i2∉fp1
 z2:z∉fp2
 TO2:TO∉fp2
 o2:i1∉fp2
section
variable {prog:Program}{w:World}{A:Around}{E:Value->Shared->Prop}{s:Shared}
theorem Draws.past(D:Draws prog w A it fp n P St)(st:St i h)(hs:Heap.ExtBut c h h')(nc:c∉fp):St i h':=
 D.frame i h h' st λ b hb o e=>hs b o (λ z=>nc (z ▸ hb)) e
theorem qdq{Q:Value->Shared->Prop}(D1:Draws prog w A i1 fp1 n1 P1 S1)(D2:Draws prog w A i2 fp2 n2 P2 S2)(D:ZApart z TI TO i1 i2 fp1 fp2)(hz:IsZip s.heap z TI TO .none)(K0:IsPair s.heap TI (.ref i1) (.ref i2))(B1:IsPair s.heap TO a b)(h1:S1 k1 s.heap)(h2:S2 k2 s.heap)(hx:k1<n1)(hy:k2<n2)(hQ:∀ x y h' tk,P1 k1 x->P2 k2 y->IsZip h' z TI TO (rawInt s.heap.objs.size)->IsPair h' TO x y->S1 (k1+1) h'->S2 (k2+1) h'->IsPair h' s.heap.objs.size x y->h'.objs.size=s.heap.objs.size+1 ->
   (∀ c o,c≠z->c≠TO->c≠i1->c≠i2->s.heap.get? c=some o->h'.get? c=some o)->Q (.ref s.heap.objs.size) { s with heap:=h',toks:=tk }):
  wpAny (model prog w) A (Builtin.«zip.__next__» ⟨[.ref z],[]⟩) (λ fin s'=>∃ v,fin=.done (.ret v)/\Q v s') E s:=by
 show wpAny _ _ (field (.ref z) 2 >>= _) _ _ _
 refine Ve (Vb hz rfl (x:=.bool false) rfl ?_);show wpAny _ _ (field (.ref z) 3 >>= _) _ _ _
 refine Ve (Vb hz rfl (x:=.ref TI) rfl ?_);refine Ve (J9 K0 rfl ?_);show wpAny _ _ (Builtin.SmallTypes.ownedTupleIsFree (.ref z) >>= _) _ _ _
 refine Ve ?_;unfold Builtin.SmallTypes.ownedTupleIsFree;refine Ve (Vb hz rfl (x:=.none) rfl (Vg ?_));simp only[Vv];refine Ve (Vk ?_);refine Ve (Vb hz rfl (x:=.ref TO) rfl ?_);refine Ve (Zm hz (by simp) λ h₁ hz₁ hs₁=>?_);replace hz₁:IsZip h₁ z TI TO .ellipsis:=hz₁;refine Ve ?_;simp only[List.zipIdx_cons,List.zipIdx_nil,U8,Jv];refine Ve (Ve (wpAny_onRaise ?_));show wpAny _ _ (Builtin.SmallTypes.nextOf (.ref i1) >>= _) _ _ _
 refine Ve (D1.item k1 _ _ _ hx (D1.past h1 hs₁.extBut D.z1) λ x h₂ tk hPx h1₂ hs₂=>Vg ?_);replace hs₂:Heap.SameBut i1 h₁ h₂:=hs₂;have B1₂:IsPair h₂ TO a b:=hs₂.extBut _ _ D.TOi1 (hs₁.extBut _ _ D.TOz B1);refine Ve (J9 B1₂ rfl ?_);refine Ve (wpAny_updateSeq_pair B1₂ λ h₃ B1₃ hs₃=>?_);replace B1₃:IsPair h₃ TO x b:=B1₃;replace hs₃:Heap.SameBut TO h₂ h₃:=hs₃;refine Ve (wpAny_letGo (Vg ?_));refine Ve (Ve (wpAny_onRaise ?_));show wpAny _ _ (Builtin.SmallTypes.nextOf (.ref i2) >>= _) _ _ _
 refine Ve (D2.item k2 _ _ _ hy (D2.past (D2.past (D2.past h2 hs₁.extBut D.z2) hs₂.extBut D.o2) hs₃.extBut D.TO2) λ y h₄ nK hPy h2₄ hs₄=>Vg ?_);replace hs₄:Heap.SameBut i2 h₃ h₄:=hs₄;have B1₄:IsPair h₄ TO x b:=hs₄.extBut _ _ D.TOi2 B1₃;refine Ve (J9 B1₄ rfl ?_);refine Ve (wpAny_updateSeq_pair B1₄ λ h₅ B1₅ hs₅=>?_);replace B1₅:IsPair h₅ TO x y:=B1₅;replace hs₅:Heap.SameBut TO h₄ h₅:=hs₅;refine Ve (wpAny_letGo (Vg (Vg ?_)));refine Ve (J9 B1₅ rfl ?_);refine Ve (wpAny_newTuple ?_);have hsz:h₅.objs.size=s.heap.objs.size:=by rw[hs₅.1,hs₄.1,hs₃.1,hs₂.1,hs₁.1]
 have hz₅:IsZip h₅ z TI TO .ellipsis:=hs₅.extBut _ _ D.TOz.symm (hs₄.extBut _ _ D.i2z.symm (hs₃.extBut _ _ D.TOz.symm (hs₂.extBut _ _ D.i1z.symm hz₁)));have hk₅:∀ c o,c≠z->c≠TO->c≠i1->c≠i2->s.heap.get? c=some o->h₅.get? c=some o:=λ c o c1 c2 c3 c4 e =>
  hs₅.extBut _ _ c2 (hs₄.extBut _ _ c4 (hs₃.extBut _ _ c2 (hs₂.extBut _ _ c3 (hs₁.extBut _ _ c1 e))))
 have h1₅:S1 (k1+1) h₅:=D1.past (D1.past (D1.past h1₂ hs₃.extBut D.TO1) hs₄.extBut D.o1) hs₅.extBut D.TO1;have h2₅:S2 (k2+1) h₅:=D2.past h2₄ hs₅.extBut D.TO2;have sO:z<h₅.objs.size:=Qo hz₅;show wpAny _ _ (Builtin.SmallTypes.ownedTupleHandOut (.ref z) (.ref h₅.objs.size) >>= _) _ _ _
 refine Ve ?_;unfold Builtin.SmallTypes.ownedTupleHandOut;have hz₆:IsZip (h₅.push { cls:=.type "tuple",data:=.seq #[x,y] }) z TI TO .ellipsis:=XB _ hz₅;refine Ve (Zm hz₆ (by simp) λ h₇ hz₇ hs₇=>?_);replace hz₇:IsZip h₇ z TI TO (rawInt h₅.objs.size):=hz₇;refine Zm hz₇ (by simp) λ h₈ hz₈ hs₈=>?_
 replace hz₈:IsZip h₈ z TI TO (rawInt h₅.objs.size):=hz₈;have up:∀ c o,c≠z->h₅.get? c=some o->h₈.get? c=some o:=λ c o c1 e=>hs₈.extBut _ _ c1 (hs₇.extBut _ _ c1 (XB _ e))
 have hT₈:IsPair h₈ h₅.objs.size x y:=hs₈.extBut _ _ (Qs sO) (hs₇.extBut _ _ (Qs sO) (Yt _ rfl));have mC:h₈.objs.size=h₅.objs.size+1:=by rw[hs₈.1,hs₇.1,Jr]
 rw[hsz] at hz₈ hT₈ mC;refine Vg ⟨_,rfl,?_⟩;show Q (.ref h₅.objs.size) _
 rw[hsz];exact hQ x y h₈ nK hPx hPy hz₈ (up _ _ D.TOz B1₅) (D1.frame _ _ _ h1₅ λ c hc o e=>up c o (λ q=>D.z1 (q ▸ hc)) e) (D2.frame _ _ _ h2₅ λ c hc o e=>up c o (λ q=>D.z2 (q ▸ hc)) e) hT₈ mC λ c o c1 c2 c3 c4 e=>up c o c1 (hk₅ c o c1 c2 c3 c4 e)
end
end PySem
namespace L2
open PySem PySem.Spec PyProof.Rows
section
variable {prog:Program}{w:World}{A:Around}{E:Value->Shared->Prop}{s:Shared}{z TI TO i1 i2 S:Addr}{n1 n2:Nat}{fp1 fp2:List Addr}{P1 P2:Nat->Value->Prop}{S1 S2:Nat->Heap->Prop}
theorem qdP(D1:Draws prog w A i1 fp1 n1 P1 S1)(D:ZApart z TI TO i1 i2 fp1 fp2)(hz:IsZip s.heap z TI TO .none)(K0:IsPair s.heap TI (.ref i1) (.ref i2))(B1:IsPair s.heap TO a b)(h1:S1 n1 s.heap)(hE:∀ h' e,(∀ c o,c≠z->c≠TO->c≠i1->c≠i2->s.heap.get? c=some o->h'.get? c=some o)->(∃ o,h'.get? e=some o/\o.cls=.type "StopIteration")->E (.ref e) { s with heap:=h' }):
  wpAny (model prog w) A (Builtin.«zip.__next__» ⟨[.ref z],[]⟩) Q E s:=by
 show wpAny _ _ (field (.ref z) 2 >>= _) _ _ _
 refine Ve (Vb hz rfl (x:=.bool false) rfl ?_);show wpAny _ _ (field (.ref z) 3 >>= _) _ _ _
 refine Ve (Vb hz rfl (x:=.ref TI) rfl ?_);refine Ve (J9 K0 rfl ?_);show wpAny _ _ (Builtin.SmallTypes.ownedTupleIsFree (.ref z) >>= _) _ _ _
 refine Ve ?_;unfold Builtin.SmallTypes.ownedTupleIsFree;refine Ve (Vb hz rfl (x:=.none) rfl (Vg ?_));simp only[Vv];refine Ve (Vk ?_);refine Ve (Vb hz rfl (x:=.ref TO) rfl ?_);refine Ve (Zm hz (by simp) λ h₁ hz₁ hs₁=>?_);replace hz₁:IsZip h₁ z TI TO .ellipsis:=hz₁;refine Ve ?_;simp only[List.zipIdx_cons,List.zipIdx_nil,U8,Jv];refine Ve (Ve (wpAny_onRaise ?_));show wpAny _ _ (Builtin.SmallTypes.nextOf (.ref i1) >>= _) _ _ _
 refine Ve (D1.done _ _ _ (D1.past h1 hs₁.extBut D.z1) λ h₂ e hs₂ he=>?_);obtain⟨oe,hoe,hce⟩:=he;have hz₂:IsZip h₂ z TI TO .ellipsis:=hs₂ _ _ D.i1z.symm hz₁;have hez:e≠z:=λ x=>by subst x;rw[hz₂] at hoe;cases hoe;simp at hce
 refine Zm hz₂ (by simp) λ h₃ _ hs₃=>hE h₃ e (λ c o c1 _ c3 _ x=>hs₃.extBut _ _ c1 (hs₂ _ _ c3 (hs₁.extBut _ _ c1 x))) ⟨oe,hs₃.extBut _ _ hez hoe,hce⟩
end
end L2
namespace PySem
open Sem (wp)
noncomputable abbrev ql3(h:Heap)(x:Str)(t:Tok):Heap:=h.push { cls:=.type "str_ascii_iterator",data:=.fields #[.str x t,.int 0 0] }
noncomputable abbrev ql4(h:Heap)(x:Str)(t:Tok)(l2:Addr):Heap:=(ql3 h x t).push { cls:=.type "list_iterator",data:=.fields #[.ref l2,.int 0 0] }
noncomputable abbrev ql5(h:Heap)(x:Str)(t:Tok)(l2:Addr):Heap:=(ql4 h x t l2).push { cls:=.type "tuple",data:=.seq #[.ref h.objs.size,.ref (ql3 h x t).objs.size] }
noncomputable abbrev ql6(h:Heap)(x:Str)(t:Tok)(l2:Addr):Heap:=(ql5 h x t l2).push { cls:=.type "tuple",data:=.seq #[.none,.none] }
noncomputable abbrev qg6(h:Heap)(x:Str)(t:Tok)(l2:Addr):Heap:=(ql6 h x t l2).push { cls:=.type "zip",data:=.fields #[.none,.bool false,.bool false,.ref (ql4 h x t l2).objs.size,.ref (ql5 h x t l2).objs.size] }
theorem qdr(x:Str)(t:Tok)(ha:x.cps.all (·<128)=true)(l2:Addr)(ys:Array Value):
  Meets (Builtin.«zip.__new__» ⟨[.type "zip",.str x t,.ref l2],[]⟩) (λ _ R s=>s.heap.IsList l2 ys /\
   R (.ok (.ret (.ref (ql6 s.heap x t l2).objs.size))) { s with heap:=qg6 s.heap x t l2 }):=
 .of_wp λ prog w A R s h=>by
  obtain⟨hp,g,d,tk,os⟩:=s;obtain⟨S8,h⟩:=h;have sU:=sub_zip;have oN:Heap.IsList (Shared.heap ⟨hp.push { cls:=.type "str_ascii_iterator",data:=.fields #[.str x t,.int 0 0] },g,d,tk,os⟩) l2 ys:=Heap.IsList.push S8 _
  wp_walk using wpAny_pyIter_ascii ha,Z2 oN
  exact⟨_,rfl,h⟩
section
variable {prog:Program}{w:World}{A:Around}{E:Value->Shared->Prop}{s:Shared}
theorem qg7(ha:x.cps.all (·<128)=true)(S8:s.heap.IsList l2 ys)(h:∀ h',IsZip h' (s.heap.objs.size+4) (s.heap.objs.size+2) (s.heap.objs.size+3) .none->IsPair h' (s.heap.objs.size+2) (.ref s.heap.objs.size) (.ref (s.heap.objs.size+1)) ->
   IsPair h' (s.heap.objs.size+3) .none .none->h'.IsStrIter s.heap.objs.size "str_ascii_iterator" x t 0->h'.IsListIter (s.heap.objs.size+1) l2 0->h'.objs.size=s.heap.objs.size+5 ->
   (∀ c o,s.heap.get? c=some o->h'.get? c=some o)->Q (.ref (s.heap.objs.size+4)) { s with heap:=h' }):
  wpAny (model prog w) A (call (.type "zip") [.str x t,.ref l2]) Q E s:=by
 refine callType_new F.called_zip (by decide) (F.typeCall_zip_2 _ _) (F.newCall_zip_2 _ _) (λ obj=>F.args_object_init_3 obj _ _) F.entry_zip_new
  (qdr x t ha l2 ys) ⟨S8,?_⟩
 have z1:(ql3 s.heap x t).objs.size=s.heap.objs.size+1:=Jr ..;have z2:(ql4 s.heap x t l2).objs.size=s.heap.objs.size+2:=by rw[Jr,z1]
 have z3:(ql5 s.heap x t l2).objs.size=s.heap.objs.size+3:=by rw[Jr,z2]
 have z4:(ql6 s.heap x t l2).objs.size=s.heap.objs.size+4:=by rw[Jr,z3]
 have z5:(qg6 s.heap x t l2).objs.size=s.heap.objs.size+5:=by rw[Jr,z4]
 have g5:(qg6 s.heap x t l2).get? (ql6 s.heap x t l2).objs.size=some _:=Yt _ rfl;have g4:(qg6 s.heap x t l2).get? (ql5 s.heap x t l2).objs.size=some _:=XB _ (Yt _ rfl);have g3:(qg6 s.heap x t l2).get? (ql4 s.heap x t l2).objs.size=some _:=XB _ (XB _ (Yt _ rfl));have g2:(qg6 s.heap x t l2).get? (ql3 s.heap x t).objs.size=some _:=XB _ (XB _ (XB _ (Yt _ rfl)));have g1:(qg6 s.heap x t l2).get? s.heap.objs.size=some _:=XB _ (XB _ (XB _ (XB _ (Yt _ rfl))));show _/\_
 rw[z2,z3,z4] at g5;rw[z1,z2] at g3;rw[z3] at g4;rw[z1] at g2;rw[z4];exact⟨⟨_,g5,rfl⟩,h _ g5 g3 g4 ⟨_,g1,rfl,rfl⟩ ⟨_,g2,rfl,rfl⟩ z5 λ c o x =>
  XB _ (XB _ (XB _ (XB _ (XB _ x))))⟩
theorem qg8{n l2:Nat}(h2:l2<n):ZApart (n+4) (n+2) (n+3) (n+0) (n+1) [n+0] [n+1,l2] where
 TIz:=(by show(n+2:Nat)≠n+4;omega)
 TOz:=(by show(n+3:Nat)≠n+4;omega)
 i1z:=(by show(n+0:Nat)≠n+4;omega)
 i2z:=(by show(n+1:Nat)≠n+4;omega)
 TITO:=(by show(n+2:Nat)≠n+3;omega)
 TIi1:=(by show(n+2:Nat)≠n+0;omega)
 TIi2:=(by show(n+2:Nat)≠n+1;omega)
 TOi1:=(by show(n+3:Nat)≠n+0;omega)
 TOi2:=(by show(n+3:Nat)≠n+1;omega)
 i12:=(by show(n+0:Nat)≠n+1;omega)
 z1:=λ h=>by have h:(n+4:Nat)=n+0:=Zg.mp h;omega
 TO1:=λ h=>by have h:(n+3:Nat)=n+0:=Zg.mp h;omega
 o1:=λ h=>by have h:(n+1:Nat)=n+0:=Zg.mp h;omega
 z2:=λ h=>by
  rcases Qb.mp h with e|e
  ·have e:(n+4:Nat)=n+1:=e;omega
  ·have e:(n+4:Nat)=l2:=Zg.mp e;omega
 TO2:=λ h=>by
  rcases Qb.mp h with e|e
  ·have e:(n+3:Nat)=n+1:=e;omega
  ·have e:(n+3:Nat)=l2:=Zg.mp e;omega
 o2:=λ h=>by
  rcases Qb.mp h with e|e
  ·have e:(n+0:Nat)=n+1:=e;omega
  ·have e:(n+0:Nat)=l2:=Zg.mp e;omega
end
end PySem
namespace L2
open PySem PySem.Spec PyProof.Rows
noncomputable def qkl(K:W.Frag)(x:Str)(b:Addr):It2:=
 ⟨λ i H=>i<x.cps.size/\∃ ys y,SqL K H b ys/\ys[i]?=some y,λ i H zs H'=>H'=H/\∃ y,zs=[sgn x i,y]/\∀ ys,SqL K H b ys->ys[i]?=some y,λ i H=>i=x.cps.size/\∃ ys,SqL K H b ys⟩
def qpn(z TI TO i1 i2:Addr)(x:Str)(t:Tok)(b:Addr)(i:Nat)(h:Heap):Prop:=IsZip h z TI TO .none/\IsPair h TI (.ref i1) (.ref i2)/\(∃ c d,IsPair h TO c d)/\h.IsStrIter i1 "str_ascii_iterator" x t i/\h.IsListIter i2 b i
theorem qi6{K:W.Frag}{pos:Pos} {TI TO:Addr}(D:ZApart z TI TO i1 i2 [i1] [i2,b])(W0:b≠i2):
  Turn2 P w K (.Tuple es k pos) (qkl K x b) [z,TI,TO,i1,i2] z (qpn z TI TO i1 i2 x t b) where
 obj:=λ i h st c hc=>by
  obtain⟨hz,K0,⟨c1,d1,B1⟩,⟨o1,M3,cc1,dd1⟩,⟨o2,S6,cc2,nB⟩⟩:=st;have hc:c=z∨c=TI∨c=TO∨c=i1∨c=i2:=by simpa using hc
  rcases hc with e|e|e|e|e
  ·subst e;exact⟨_,hz,λ v q=>by cases q⟩
  ·subst e;exact⟨_,K0,λ v q=>by cases q⟩
  ·subst e;exact⟨_,B1,λ v q=>by cases q⟩
  ·subst e;exact⟨o1,M3,λ v q=>by rw[dd1] at q;cases q⟩
  ·subst e;exact⟨o2,S6,λ v q=>by rw[nB] at q;cases q⟩
 keep:=λ i h h' st k=>by
  obtain⟨hz,K0,⟨c1,d1,B1⟩,⟨o1,M3,r1⟩,h2⟩:=st;exact⟨k z (by simp) _ hz,k TI (by simp) _ K0,⟨c1,d1,k TO (by simp) _ B1⟩,⟨o1,k i1 (by simp) _ M3,r1⟩,h2.at λ o q=>k i2 (by simp) o q⟩
 item:=by
  intro X hP hw hK hc i pins s σ H E I hf st hg;subst hP hw hK;obtain⟨hi,ys,y,S5,hy⟩:=hg;obtain⟨o8,nM,p2,xQ⟩:=I.list S5;obtain⟨u2,xW,nN⟩:=nM.get hy;obtain⟨hz,K0,⟨c1,d1,B1⟩,h1,h2⟩:=st;have hh:=I.ok.hd hc;have hT:s.TypeIs (.ref z) "zip":=⟨_,hz,rfl⟩;have hy2:i<o8.toArray.size:=by
   have:=Xl.mp xW
   obtain⟨h,_⟩:=this;simpa using h
  unfold pyNext;refine Ve (Qm (XA (name:=Str.ofString "__next__") hT XZ
   (Uv XZ hT PySem.F.entry_zip_next
    (qdq (Draws.strAscii (by simpa using hh) i1 x t) (Draws.list (by simpa using hh) i2 b W0 o8.toArray) D hz K0 B1 h1 ⟨h2,p2.isList⟩ hi hy2 λ v1 v2 h' tk hP1 hP2 hz' oM h1' dZ hp hsz hk=>Vg ?_) (PySem.F.args_zip_next_1 _))))
  have e2:v2=u2:=by
   have:o8[i]?=some v2:=by simpa using hP2
   rw[xW] at this;exact(Option.some.inj this).symm
  subst e2;have rs:qT (sgn x i) v1:=qeF hP1;refine⟨s.heap.objs.size,rfl,wpAny_letOwnedTupleGo_zip hz' λ dZ nY o6=>?_⟩;rename_i rD;replace o6:Heap.SameBut z h' dZ:=o6;have sP:z<s.heap.objs.size:=Qo hz;have k2:∀ c o,c≠z->c≠TO->c≠i1->c≠i2->s.heap.get? c=some o->dZ.get? c=some o:=λ c o a1 a2 a3 a4 q=>o6.extBut c o a1 (hk c o a1 a2 a3 a4 q)
  have fz:=hf z (by simp);have fO:=hf TO (by simp);have f1:=hf i1 (by simp);have f2:=hf i2 (by simp);have nn:∀ c,c∉[z,TO,i1,i2]->c≠z/\c≠TO/\c≠i1/\c≠i2:=λ c c8=>by simpa using c8
  have I1:Inv X pins σ H { s with heap:=dZ,toks:=tk }:=by
   refine I.step (g':=s.gens) (d':=s.drawn) (t':=tk) (ch:=[z,TO,i1,i2]) (λ c c8=>?_) (λ c o _ _ c8 q _=>k2 c o (nn c c8).1 (nn c c8).2.1 (nn c c8).2.2.1 (nn c c8).2.2.2 q)
    (λ c o _ _ c8 q _=>⟨o.slots,k2 c o (nn c c8).1 (nn c c8).2.1 (nn c c8).2.2.1 (nn c c8).2.2.2 q⟩) (λ _ _ _ _ n=>n) (λ c o c8 q=>⟨o,k2 c o (nn c c8).1 (nn c c8).2.1 (nn c c8).2.2.1 (nn c c8).2.2.2 q⟩)
    (λ _ _ q=>q) (λ _ _ _ q=>q) (λ c ps q=>⟨#[],by rw[q];simp⟩) (λ m hm=>?_) (λ c u q=>?_) I.bare
   ·have:yY X pins H c:=by
     have c8:c=z∨c=TO∨c=i1∨c=i2:=by simpa using c8
     rcases c8 with e|e|e|e <;> subst e <;> assumption
    exact⟨this.2.2.2.1,this.2.1,this.2.2.2.2.1,this.2.2.2.2.2⟩
   ·obtain⟨o,u0,ep,ho,r⟩:=hm;exact⟨o,u0,ep,k2 _ o (Vr fz.2.1) (Vr fO.2.1) (Vr f1.2.1) (Vr f2.2.1) ho,r⟩
   ·have no:∀ b',H b'=none->∀ c',(c'=c∨H c'=some (.own c))->c'≠b':=λ b' dX c' I0 e=>by
     subst e;rcases I0 with e|e
     ·subst e;rw[dX] at q;cases q
     ·rw[dX] at e;cases e
    exact(I.hok c u q).stay (λ c' v c8 r=>k2 c' v (no z fz.1 c' c8) (no TO fO.1 c' c8) (no i1 f1.1 c' c8) (no i2 f2.1 c' c8) r) (λ _ r=>r) λ _ _ r=>r
  have hpt:IsPair dZ s.heap.objs.size v1 v2:=o6.extBut _ _ (Qs sP) hp;refine⟨[sgn x i,y],[v1,v2],H,I1,⟨_,hpt,rfl,_,rfl⟩,.cons rs (.cons nN .nil),⟨rfl,y,rfl,λ ws hw=>by rw[I.list_inj hw S5];exact hy⟩,?_,λ c c8=>(hf c c8).1⟩;obtain⟨o1,M3,r1⟩:=h1';refine⟨nY,o6.extBut _ _ D.TIz (hk _ _ D.TIz D.TITO D.TIi1 D.TIi2 K0),⟨_,_,o6.extBut _ _ D.TOz oM⟩,⟨o1,o6.extBut _ _ D.i1z M3,r1⟩,?_⟩;exact rD.1.extBut o6.extBut D.i2z
 done:=by
  intro X hP hw hK hc i pins s σ H E I hf st hg;subst hP hw hK;obtain⟨hx,ys,S5⟩:=hg;subst hx;obtain⟨hz,K0,⟨c1,d1,B1⟩,h1,h2⟩:=st;have hh:=I.ok.hd hc;have hT:s.TypeIs (.ref z) "zip":=⟨_,hz,rfl⟩;have fz:=hf z (by simp);have fO:=hf TO (by simp);have f1:=hf i1 (by simp);have f2:=hf i2 (by simp);have nn:∀ c,c∉[z,TO,i1,i2]->c≠z/\c≠TO/\c≠i1/\c≠i2:=λ c c8=>by simpa using c8
  unfold pyNext;refine Ve (Qm (XA (name:=Str.ofString "__next__") hT XZ
   (Uv XZ hT PySem.F.entry_zip_next (qdP (fp2:=[i2,b]) (Draws.strAscii (by simpa using hh) i1 x t) D hz K0 B1 h1 λ h' e k2 he=>?_) (PySem.F.args_zip_next_1 _))))
  obtain⟨o,ho,cF⟩:=he;refine Ve (Uu (T:="StopIteration") (b:=true) ⟨o,ho,cF⟩ J8 ?_);refine Vg ⟨rfl,?_⟩;refine I.step (g':=s.gens) (d':=s.drawn) (t':=s.toks) (ch:=[z,TO,i1,i2]) (λ c c8=>?_) (λ c o _ _ c8 q _=>k2 c o (nn c c8).1 (nn c c8).2.1 (nn c c8).2.2.1 (nn c c8).2.2.2 q)
   (λ c o _ _ c8 q _=>⟨o.slots,k2 c o (nn c c8).1 (nn c c8).2.1 (nn c c8).2.2.1 (nn c c8).2.2.2 q⟩) (λ _ _ _ _ n=>n) (λ c o c8 q=>⟨o,k2 c o (nn c c8).1 (nn c c8).2.1 (nn c c8).2.2.1 (nn c c8).2.2.2 q⟩)
   (λ _ _ q=>q) (λ _ _ _ q=>q) (λ c ps q=>⟨#[],by rw[q];simp⟩) (λ m hm=>?_) (λ c u q=>?_) I.bare
  ·have:yY X pins H c:=by
    have c8:c=z∨c=TO∨c=i1∨c=i2:=by simpa using c8
    rcases c8 with e|e|e|e <;> subst e <;> assumption
   exact⟨this.2.2.2.1,this.2.1,this.2.2.2.2.1,this.2.2.2.2.2⟩
  ·obtain⟨o,u0,ep,ho,r⟩:=hm;exact⟨o,u0,ep,k2 _ o (Vr fz.2.1) (Vr fO.2.1) (Vr f1.2.1) (Vr f2.2.1) ho,r⟩
  ·have no:∀ b',H b'=none->∀ c',(c'=c∨H c'=some (.own c))->c'≠b':=λ b' dX c' I0 e=>by
    subst e;rcases I0 with e|e
    ·subst e;rw[dX] at q;cases q
    ·rw[dX] at e;cases e
   exact(I.hok c u q).stay (λ c' v c8 r=>k2 c' v (no z fz.1 c' c8) (no TO fO.1 c' c8) (no i1 f1.1 c' c8) (no i2 f2.1 c' c8) r) (λ _ r=>r) λ _ _ r=>r
 self:=λ A i s Q E st h=>Us st.1 h
def qos(K:W.Frag)(ta:TA):TI2:=λ σ H R=>ta σ H λ vs H1=>∃ x b,vs=[.str x,.ref b]/\x.cps.all (·<128)=true/\(∃ ys,SqL K H1 b ys)/\R (qkl K x b) H1
theorem ql7 {pos:Pos}(hg:Gl X "zip")(hm:X.mg "zip"=none)(ha:PA X [l1,l2] ta)(hs:starEach [l1,l2] X.env=[(false,eval l1 X.env),(false,eval l2 X.env)]:=by rfl)(o6:starEach [l2] X.env=[(false,eval l2 X.env)]:=by rfl):
  PI2 X (.Tuple es k B0) (.Call (.Name "zip" p) [l1,l2] [] pos) (qos X.K ta):=by
 intro pins s σ H R I h;refine Call_ (qaA I hg hm boot_zip (Xe (thn (ha pos pins s σ H _ I h) λ us s1 ⟨vs,H1,I1,r1,q1⟩=>?_) (by rw[hs,o6]) (by rw[o6];rfl)));obtain⟨x,b,e,hasc,⟨ys,S5⟩,q⟩:=q1;subst e;obtain⟨u1,u2,rfl,rR,nN⟩:=qfn r1;obtain⟨t,rfl⟩:=rR;cases nN
 obtain⟨o8,nM,p2,xQ⟩:=I1.list S5;have a2:b<s1.heap.objs.size:=by obtain⟨_,e,_⟩:=p2.isList;exact Qo e
 refine qg7 hasc p2.isList λ h' hz K0 B1 hi1 hi2 hsz hk=>Us hz ?_
 refine⟨s1.heap.objs.size+4,[s1.heap.objs.size+4,s1.heap.objs.size+2,s1.heap.objs.size+3,s1.heap.objs.size,s1.heap.objs.size+1],_,_,H1,rfl,I1.kept (t':=s1.toks) hk,qi6 (qg8 a2) (Qp (Zt a2)),⟨hz,K0,⟨_,_,B1⟩,hi1,hi2⟩,λ c hc=>?_,q⟩;have hc:c=s1.heap.objs.size+4∨c=s1.heap.objs.size+2∨c=s1.heap.objs.size+3∨c=s1.heap.objs.size∨c=s1.heap.objs.size+1:=by simpa using hc
 have F0:s1.heap.objs.size<=c:=by rcases hc with e|e|e|e|e <;> rw[e] <;> omega
 exact I1.fpOk F0 (I1.hok.fresh F0)
theorem qkm{K:W.Frag}{t:TGs}{tb:TS}{D:Ends}(Pv:Nat->St->Hp->Prop)(h0:Pv 0 σ H)(c9:x.cps.size=ys.length)(hl:∀ i σ H,i<=ys.length->Pv i σ H->SqL K H b ys)(hs:∀ i y σ H,i<x.cps.size->ys[i]?=some y->Pv i σ H->t [sgn x i,y] σ H λ σ2 H2=>tb { D with nx:=Pv (i+1),ct:=Pv (i+1),bk:=D.nx } σ2 H2)(hd:∀ σ H,Pv ys.length σ H->D.nx σ H):
  ∃ W:Nat->Nat->St->Hp->Prop,(∃ m,W 0 m σ H)/\∀ i m σ H,W i m σ H ->
   ((qkl K x b).stop i H/\D.nx σ H)∨((qkl K x b).go i H/\∃ N:St->Hp->Prop,(∀ σ' H',N σ' H'->∃ m',m'<m/\W (i+1) m' σ' H')/\∀ zs H',(qkl K x b).yld i H zs H'->zs.length=2/\t zs σ H' λ σ2 H2=>tb { D with nx:=N,ct:=N,bk:=D.nx } σ2 H2):=by
 refine⟨λ i m σ H=>m=ys.length-i/\i<=ys.length/\Pv i σ H,⟨ys.length,by simp,Q6 _,h0⟩,?_⟩;rintro i m σ H ⟨rfl,hi,p⟩;have q2:=hl i σ H hi p;by_cases i7:i<ys.length
 ·refine .inr ⟨⟨by omega,ys,ys[i],q2,Xv i7⟩,Pv (i+1),λ σ' H' p'=>⟨ys.length-(i+1),by omega,rfl,i7,p'⟩,λ zs H' y=>?_⟩;obtain⟨e,y,ez,hy⟩:=y;subst e ez;exact⟨rfl,hs i y σ _ (by omega) (hy ys q2) p⟩
 ·have e:i=ys.length:=by omega
  subst e;exact .inl ⟨⟨c9.symm,ys,q2⟩,hd σ H p⟩
end L2
namespace Law
open PySem L2 Fs
noncomputable def top(i:Nat):Stmt:=PySem.Challenge.pw_fillsay_k52_whole_widest_or_none.main.body.getD i (.Pass ⟨0,0,0,0⟩)
noncomputable abbrev qeY:Stmt:=top 3
noncomputable abbrev vh:Stmt:=top 4
noncomputable abbrev qds:Stmt:=top 5
noncomputable abbrev qaP:Stmt:=top 6
noncomputable abbrev vi:Stmt:=top 7
noncomputable abbrev qeZ:Stmt:=top 8
noncomputable abbrev qdt:Stmt:=top 9
noncomputable abbrev kt:Stmt:=top 10
noncomputable abbrev qaQ:Stmt:=top 11
noncomputable abbrev qbU:Stmt:=top 12
noncomputable abbrev yR:Stmt:=top 13
noncomputable abbrev qbz:Stmt:=top 14
noncomputable abbrev qbV:Stmt:=top 17
noncomputable abbrev yq:Stmt:=top 18
noncomputable abbrev jj:Stmt:=top 19
noncomputable abbrev vj:Stmt:=top 20
noncomputable abbrev yx:Stmt:=qO (top 30) 0
noncomputable abbrev yy:Stmt:=qO (top 30) 1
noncomputable abbrev yA:Stmt:=qO (top 30) 4
noncomputable abbrev y9:Stmt:=qO (top 31) 0
noncomputable abbrev ja:Stmt:=qO (top 31) 1
noncomputable abbrev jb:Stmt:=qO (top 31) 4
noncomputable abbrev jA:Stmt:=qO (top 32) 0
noncomputable abbrev yB:Stmt:=qO (top 32) 1
noncomputable abbrev yC:Stmt:=qO (top 32) 2
noncomputable abbrev yD:Stmt:=qO (top 32) 5
noncomputable abbrev qaR:Stmt:=qO (top 33) 0
noncomputable abbrev vm:Stmt:=qO (top 33) 1
noncomputable abbrev vo:Stmt:=qO (top 33) 2
noncomputable abbrev vp:Stmt:=qO (top 33) 5
noncomputable abbrev ku:Stmt:=qO (top 34) 0
noncomputable abbrev jw:Stmt:=qO (top 34) 1
noncomputable abbrev vq:Stmt:=qO (top 35) 0
noncomputable abbrev vt:Stmt:=qO (top 35) 2
noncomputable abbrev qaf:Stmt:=qO (top 36) 0
noncomputable abbrev qag:Stmt:=qO (top 36) 2
noncomputable abbrev yE:Stmt:=qO (top 37) 0
noncomputable abbrev yF:Stmt:=qO (top 37) 2
noncomputable abbrev qg9:Stmt:=top 42
noncomputable abbrev jk:Stmt:=top 43
noncomputable abbrev qe0:Stmt:=top 44
noncomputable abbrev kz:Stmt:=top 45
noncomputable abbrev qbW:Stmt:=top 46
noncomputable abbrev kC:Stmt:=top 47
noncomputable abbrev qdu:Stmt:=top 48
noncomputable abbrev kF:Stmt:=qO (top 54) 0
noncomputable abbrev jB:Stmt:=qO (top 54) 1
noncomputable abbrev kH:Stmt:=qO (top 54) 2
noncomputable abbrev kI:Stmt:=qO (top 54) 6
noncomputable abbrev vv:Stmt:=qO (top 54) 7
noncomputable abbrev yS:Stmt:=qO (top 54) 8
noncomputable abbrev kJ:Stmt:=top 55
noncomputable abbrev yr:Stmt:=top 56
noncomputable abbrev qaS:Stmt:=top 57
noncomputable abbrev kK:Stmt:=top 59
noncomputable abbrev qaT:Stmt:=top 60
noncomputable abbrev qaU:Stmt:=top 61
noncomputable abbrev vw:Stmt:=top 62
noncomputable abbrev jx:Stmt:=top 63
noncomputable abbrev qbX:Stmt:=top 64
noncomputable abbrev qaV:Stmt:=top 65
noncomputable abbrev kM:Stmt:=top 66
noncomputable abbrev yT:Stmt:=top 67
noncomputable abbrev jC:Stmt:=top 68
noncomputable abbrev vy:Stmt:=top 69
noncomputable abbrev jD:Stmt:=top 70
noncomputable abbrev jE:Stmt:=top 71
noncomputable abbrev qaW:Stmt:=top 72
noncomputable abbrev kQ:Stmt:=top 73
noncomputable abbrev kS:Stmt:=top 74
noncomputable abbrev zZ:Stmt:=top 75
noncomputable abbrev qei:Stmt:=top 76
structure Txt(mg:Str->Option Value):Prop where
 len:mg "len"=none
 list:mg "list"=none
 sorted:mg "sorted"=none
 set:mg "set"=none
 tuple:mg "tuple"=none
 dict:mg "dict"=none
 zip:mg "zip"=none
 reversed:mg "reversed"=none
 range:mg "range"=none
 enumerate:mg "enumerate"=none
 all:mg "all"=none
 min:mg "min"=none
 max:mg "max"=none
 isinstance:mg "isinstance"=none
 tup:mg "str"=none
 bool:mg "bool"=none
theorem qcs:bootBuiltins "list"=some (.type "list"):=by decide +kernel
theorem qdv:bootBuiltins "tuple"=some (.type "tuple"):=by decide +kernel
theorem qe1:bootBuiltins "set"=some (.type "set"):=by decide +kernel
theorem qia:bootBuiltins "dict"=some (.type "dict"):=by decide +kernel
theorem qah:bootBuiltins "sorted"=some (.builtin "sorted"):=by decide +kernel
theorem qe2:bootBuiltins "all"=some (.builtin "all"):=by decide +kernel
theorem qnu:bootBuiltins "min"=some (.builtin "min"):=by decide +kernel
section
variable {P:Program}{w:World}{K:W.Frag}{mg:Str->Option Value}{base:Heap}
def qf8(K:W.Frag)(n:Nat):Sp:=λ vs H Q _=>∃(a:Addr)(t:List Bool)(m:Nat),vs=[.ref a]/\SqL K H a (t.map V.bl)/\t.length=2^m/\m<n/\m<=9 /\
 ∀ r H',qi H H'->H' r=some (.lst ((zo m t).map V.bl))->Q (.ref r) H'
theorem qai:FnScope ["truths","half","low","high"] ["truths"] (qf qbz):=scF
theorem qbA(h:m<=9):2^m<=512:=by
 have:2^m<=2^9:=Yo (by decide) h
 exact this
theorem qib:(["left","right"]:List Str).Nodup:=by decide +kernel
theorem qf9(F:Fun K "summed" "summed" qbz f fd)(T:Txt mg)(bF:qh K fd ["truths"] [])(mF:mg "summed"=some (.ref f))(G:FnOk P w K mg base CX0 n f fd ["truths"] (qf8 K n)):FnOk P w K mg base CX0 (n+1) f fd ["truths"] (qf8 K (n+1)):=by
 refine F.okd qai (λ cdv A outer s H vs Q E hr h=>?_);obtain⟨a,t,m,rfl,hS,ht,hm,h9,q⟩:=h;have h512:=qbA h9;refine⟨_,qc (qY (qt zq (qv qz rfl T.len J0 (qa (pv 0) qb)) qg (qB _)) (qd (ql (zu jX rfl T.list qcs (qa (pv 0) qb)))) qC)
  (qc (qx (i:=1) qai.nd rfl (Or.inl rfl) (qr yZ (qv qz rfl T.len J0 (qa (pv 0) qb)) qg))
  (qc (qx (i:=2) qai.nd rfl (Or.inl rfl) (zk G hr rfl mF F.kp bF .nil qF (qa (qfs qhY (pv 0) qhV (qhW (pv 1))) qb)))
  (qc (qx (i:=3) qai.nd rfl (Or.inl rfl) (zk G hr rfl mF F.kp bF .nil qF (qa (qfs qhY (pv 0) (qhW (pv 1)) qhV) qb)))
  (qd (ql (qr qjG (pv 2) (qbf (n:=2) (csc (NY:=["left","right"]) (o:=2) (caps:=[]) [] rfl (by simp) yk rfl) rfl
   (qgP rfl T.zip (qa (pv 2) (qa (pv 3) qb)))
   (λ C s H fp pins=>qH (qo (i:=0) qib rfl (Or.inl rfl)) (qH (qo (i:=1) qib rfl (Or.inl rfl)) zL)) (λ _=>rfl) (λ _=>rfl)
   (λ C s H fp pins=>ze) (λ C s H fp pins=>yf qfm (pv 0) (pv 1) (qB _))))))))),?_⟩
 have hl:(t.map V.bl).length=2^m:=by rw[U0,ht]
 refine⟨_,rfl,a,_,rfl,.inl hS,rfl,_,rfl,?_⟩;refine vM (λ c=>?_) (λ c=>?_)
 ·have c':V.int (((t.map V.bl).length:Nat):Int)=V.int 1:=Ub c;rw[hl] at c';have c2:((2^m:Nat):Int)=1:=by injection c'
  have hm0:m=0:=by
   cases m with
   |zero=>rfl
   |succ k=>rw[Qt] at c2;omega
  subst hm0;refine⟨_,rfl,a,_,rfl,.inl hS,λ r O4=>?_⟩;exact q r _ (qi.up O4) qe
 ·have c':¬ V.int (((t.map V.bl).length:Nat):Int)=V.int 1:=Zk (Zv.mpr c);rw[hl] at c';obtain⟨k,rfl⟩:∃ k,m=k+1:=by
   cases m with
   |zero=>exact absurd rfl c'
   |succ k=>exact⟨k,rfl⟩
  have aP:2^(k+1)=2^k+2^k:=by rw[Qt];omega
  have h1:(t.take (2^k)).length=2^k:=by rw[Ue];omega
  have h2:(t.drop (2^k)).length=2^k:=by rw[Uf];omega
  have wF:(((t.map V.bl).length:Nat):Int) / 2=((2^k:Nat):Int):=by rw[hl];omega
  refine⟨_,rfl,a,_,rfl,.inl hS,_,_,rfl,rfl,⟨by decide,by decide⟩,?_⟩;dsimp only;rw[wF];refine⟨_,rfl,_,rfl,_,rfl,a,_,rfl,hS,λ p1 V8=>?_⟩;have e1:qft (t.map V.bl) none (some ((2^k:Nat):Int))=(t.take (2^k)).map V.bl:=by
   unfold qft;rw[HT.sIx_nat,hl,aP];show((t.map V.bl).drop 0).take (min (2^k) (2^k+2^k)-0)=_
   rw[Jw,Nat.sub_zero,Jd (by omega),List.map_take]
  rw[e1];refine⟨p1,t.take (2^k),k,rfl,SqL.of qe,h1,by omega,by omega,λ r1 H1 g1 e1=>?_⟩;have g1':qi H H1:=(qi.up V8).trans g1;refine⟨_,rfl,_,rfl,_,rfl,a,_,rfl,g1'.seq hS,λ p2 hp2'=>?_⟩;have e2:qft (t.map V.bl) (some ((2^k:Nat):Int)) none=(t.drop (2^k)).map V.bl:=by
   unfold qft;rw[HT.sIx_nat,hl,aP,Jd (by omega)];show((t.map V.bl).drop (2^k)).take (2^k+2^k-2^k)=_
   rw[<- List.map_drop,XF (by rw[U0,h2];omega)]
  rw[e2];refine⟨p2,t.drop (2^k),k,rfl,SqL.of qe,h2,by omega,by omega,λ r2 H2 g2 e3=>?_⟩;have rD:qi H1 H2:=(qi.up hp2').trans g2;have f1:H2 r1=some (.lst ((zo k (t.take (2^k))).map V.bl)):=rD _ _ e1;have l1:=qV k _ h1;have l2:=qV k _ h2;refine⟨_,rfl,_,rfl,_,rfl,r1,r2,rfl,⟨_,SqL.of f1⟩,⟨_,SqL.of e3⟩,?_⟩;refine qgX (SqL.of f1) (SqL.of e3) (by rw[U0,U0,l1,l2]) (λ i=>((List.zipWith (· != ·) (zo k (t.take (2^k))) (zo k (t.drop (2^k)))).take i).map V.bl) rfl (λ i hi=>?_) ?_ ?_
  ·rw[U0,Ue];rw[U0,l1] at hi;exact zb (by omega)
  ·intro i x y H3 D Y Z hx hy hD M5 sm hY hZ;obtain⟨b1,T8,rfl⟩:=qj hx;obtain⟨b2,W0,rfl⟩:=qj hy;refine⟨_,_,rfl,_,_,rfl,rfl,⟨rfl,rfl⟩,?_⟩;refine⟨_,rfl,_,rfl,rfl,?_⟩;rw[qeN];exact hY _ _ M5 sm (zr (qaK T8 W0))
  ·intro D H3 hD sm M5;have e4:(((List.zipWith (· != ·) (zo k (t.take (2^k))) (zo k (t.drop (2^k)))).take ((zo k (t.take (2^k))).map V.bl).length).map V.bl)=(List.zipWith (· != ·) (zo k (t.take (2^k))) (zo k (t.drop (2^k)))).map V.bl:=by
    rw[XF (by rw[Yv,U0];omega)]
   rw[e4] at M5;refine⟨r1,D,_,_,rfl,rfl,sm _ _ f1,M5,?_,λ r3 mI=>?_⟩
   ·rw[U0,U0,Yv,l1,l2];exact qE (by omega)
   ·refine q r3 _ ((g1'.trans rD).trans (sm.to mI)) ?_;rw[qe,<- U7];rfl
theorem qej(F:Fun K "summed" "summed" qbz f fd)(T:Txt mg)(bF:qh K fd ["truths"] [])(mF:mg "summed"=some (.ref f)):∀ n,FnOk P w K mg base CX0 n f fd ["truths"] (qf8 K n)
 |0=>⟨λ vs H Q E h=>by obtain⟨_,_,_,_,_,_,h,_⟩:=h;exact absurd h (Nat.not_lt_zero _),λ A outer s H args us vs Q E _ _ _ _ h=>by obtain⟨_,_,_,_,_,_,h,_⟩:=h;exact absurd h (Nat.not_lt_zero _)⟩
 |n+1=>qf9 F T bF mF (qej F T bF mF n)
def qct:Sp:=λ vs H Q _=>∃(ls:List Nat),vs=[vS ls]/\ls.length<=9/\∀ r H',qi H H'->H' r=some (.lst ((zn ls).map vS))->Q (.ref r) H'
theorem qbB:FnScope ["letters","products","letter"] ["letters"] (qf yR):=scF
theorem qot:(["product","letter"]:List Str).Nodup:=by decide +kernel
theorem qkn(F:Fun K "products_over" "products_over" yR f fd)(T:Txt mg):FnOk P w K mg base CX0 (k+1) f fd ["letters"] qct:=by
 refine F.okd qbB (λ cdv A outer s H vs Q E hr h=>?_);obtain⟨ls,rfl,h9,q⟩:=h;refine⟨_,qc (qx (i:=1) qbB.nd rfl (Or.inl rfl) (zY (qa qm qb)))
  (qc (yn Jf rfl (qng rfl T.reversed (qa (pv 0) qb)) (qo (i:=2) qbB.nd rfl (Or.inr rfl))
   (qd (qx (i:=1) qbB.nd rfl (Or.inl rfl) (qr qjG (pv 1) (zg (csc (NY:=["product","letter"]) (o:=1) (caps:=[2]) ["letter"] rfl
    (by intro x hx;rw[Zg.mp hx];exact .inl rfl) (jz rfl rfl rfl yk) rfl) rfl
    (zF (pv 1)) (λ C s H fp pins=>qo (i:=0) qot rfl (Or.inl rfl)) (λ C s H fp pins=>ze) (λ C s H fp pins=>qr qcF (pv 1) (pv 0)))))))
  (qd (ql (pv 1)))),?_⟩
 have hz:(qk ls).length=ls.length:=qw ls;refine⟨qE (by show 1<=_;decide),λ p0 xZ=>?_⟩;refine⟨_,rfl,_,rfl,by rw[hz];exact qE (by omega),?_⟩;refine qh1 (λ i σ H1=>∃(r:Addr)(v:Option V),σ=[some (vS ls),some (.ref r),v]/\qi H H1/\H1 r=some (.lst ((zn (ls.drop (ls.length-i))).map vS))) ?_ ?_ ?_
 ·refine⟨p0,none,rfl,qi.up xZ,?_⟩;rw[qe,Nat.sub_zero,List.drop_length];rfl
 ·rintro i σ H1 hi ⟨r,v,rfl,g1,e1⟩;rw[hz] at hi;have i7:ls.length-1-i<ls.length:=by omega
  have ev:qj4 (qk ls) i=vS [ls[ls.length-1-i]]:=by
   unfold qj4;rw[hz];show V.str ⟨#[ls.toArray.getD (ls.length-1-i) 0]⟩=V.str ⟨#[ls[ls.length-1-i]]⟩
   rw[Xf];simp[i7]
  have ed:ls.drop (ls.length-(i+1))=ls[ls.length-1-i]::ls.drop (ls.length-i):=by
   rw[show ls.length-(i+1)=ls.length-1-i by omega,Xq i7,show ls.length-1-i+1=ls.length-i by omega]
  rw[ev];have w6:(zn (ls.drop (ls.length-i))).length<=512:=by
   rw[za,Uf];exact qbA (by omega)
  refine⟨_,rfl,_,rfl,r,rfl,⟨_,SqL.of e1⟩,?_⟩;refine vX (SqL.of e1) (λ j=>((((zn (ls.drop (ls.length-i))).map (ls[ls.length-1-i]::·)).take j).map vS)) rfl (λ j hj=>?_) ?_ ?_
  ·rw[U0,Ue,U0];exact zb (by omega)
  ·intro j x H2 D Y Z hx hD p4 sm hY hZ;obtain⟨p,hp,rfl⟩:=qj hx;have tJ:p.length<=9:=by
    have:=(zJ.mp (Yh hp)).length_le
    rw[Uf] at this;omega
   refine⟨⟨rfl,rfl⟩,?_⟩;refine⟨_,rfl,_,rfl,_,_,rfl,rfl,by rw[qw,qw];exact qE (by simp;omega),?_⟩;rw[yo];refine hY _ _ p4 sm ?_;exact zr (f:=vS) (by rw[Zn,hp];rfl)
  ·intro D H2 hD sm p4;rw[U0,XF (by rw[U0];exact Q5 _)] at p4;refine⟨r,D,_,_,rfl,rfl,sm _ _ e1,p4,?_,λ r3 mI=>?_⟩
   ·rw[U0,U0,U0];exact qE (by omega)
   ·refine⟨r3,_,rfl,g1.trans (sm.to mI),?_⟩;rw[qe,ed,zn,U7]
 ·rintro σ H1 ⟨r,v,rfl,g1,e1⟩;rw[hz,Nat.sub_self,Jw] at e1;exact⟨_,rfl,q r H1 g1 e1⟩
def qbY(K:W.Frag):Sp:=λ vs H Q _=>∃(a:Addr)(F:List Pr),vs=[.ref a]/\SqT K H a (F.map vS)/\F.flatten.length<=4000/\F.length<=2000/\(qI F).length<64/\∀ H',qi H H'->Q (vS (qI F)) H'
theorem qha:FnScope ["form"] ["form"] (qf vi):=scF
theorem zK(l:List Nat):(l.map λ c=>[c]).flatten=l:=by
 induction l with
 |nil=>rfl
 |cons a l ih=>rw[Qc,Zs,ih];rfl
theorem qhb(F:Fun K "letters_of" "letters_of" vi f fd)(T:Txt mg):FnOk P w K mg base CX0 (k+1) f fd ["form"] (qbY K):=by
 refine F.okd qha (λ cdv A outer s H vs Q E hr h=>?_);obtain⟨a,F,rfl,hS,h4,h2,W2,q⟩:=h;refine⟨_,qd (ql (yW XI Ya Yb qac qm (qa (qv (qdL rfl) rfl T.sorted qah (qa (zu (qbi rfl) rfl T.set qe1 (qa
  (yW XI Ya Yb qac qm (qa (pv 0) qb)) qb)) qb)) qb))),?_⟩
 rw[zV] at hS;have hz:("":Str).length=0:=by decide
 refine⟨rfl,rfl,?_⟩;refine⟨_,rfl,_,a,F.map qk,rfl,rfl,.inr hS,?_,?_⟩
 ·rw[jM,hz];show F.flatten.length+_*0<=_;omega
 rw[jL];refine⟨F.flatten.map λ c=>qk [c],.inr ⟨_,rfl,rfl⟩,by rw[U0];show _<4096;omega,λ l ys hl nd hm=>?_⟩;have pR:=vP (F.flatten.map λ c=>[c]);have pV:∀ x,x∈ys ↔ cs x∈qaw (F.flatten.map λ c=>[c]):=λ x=>by
  rw[hm x,qaa,Qu,Qu];constructor
  ·rintro⟨c,hc,rfl⟩;exact⟨c,hc,rfl⟩
  ·rintro⟨c,hc,e⟩;exact⟨c,hc,qgQ e⟩
 have c9:ys.length=(qI F).length:=by
  rw[vZ nd pR pV,<- (zW _).length_eq,y6,U0]
 refine⟨l,ys,rfl,qe,by rw[c9];exact W2,λ l2 S8=>?_⟩;rw[qeO nd pR pV,y6,zV];refine⟨_,l2,((qI F).map λ c=>[c]).map qk,rfl,rfl,.inl (SqL.of qe),?_,?_⟩
 ·rw[jM,hz,zK];show _+_*0<=_;omega
 rw[jL,zK];exact q _ ((qi.up hl).to S8)
def qic(K:W.Frag):Sp:=λ vs H Q _=>∃(a:Addr)(F:List Pr)(ls:List Nat),vs=[.ref a,vS ls]/\SqT K H a (F.map vS)/\F.length<=2000/\ls.length<=9/\∀ r H',qi H H'->H' r=some (.lst ((j4 F ls).map V.bl))->Q (.ref r) H'
theorem qga:FnScope ["form","letters","standing"] ["form","letters"] (qf qaQ):=scF
theorem qpo:(["product"]:List Str).Nodup:=by decide +kernel
theorem qou:(["product","standing"]:List Str).Nodup:=by decide +kernel
theorem qko(kvs:List (Key×V))(k k':Key)(v:V):(zU (y3 kvs k v) k').isSome=((zU kvs k').isSome || decide (k=k')):=by
 rw[<- vK,<- vK];unfold y3;split
 ·rename_i h;rw[Qz];have e:((λ kv:Key×V=>decide (kv.1=k')) ∘ λ kv=>if kv.1=k then(kv.1,v) else kv)=λ kv=>decide (kv.1=k'):=by
   funext kv
   show decide ((if kv.1=k then(kv.1,v) else kv).1=k')=_
   split <;> rfl
  rw[e];by_cases hk:k=k'
  ·subst hk;rw[h];simp
  ·simp[hk]
 ·rw[List.any_append];simp
theorem qek(k':Key):∀(ls c7:List (Key×V)),(zU (qM c7 ls) k').isSome=((zU c7 k').isSome || ls.any λ kv=>decide (kv.1=k'))
 | [],c7=>by simp[qM]
 |x::ls,c7=>by
  show(zU (qM (y3 c7 x.1 x.2) ls) k').isSome=_
  rw[qek k' ls,qko,Qd,Bool.or_assoc]
theorem qe3(F:List Pr)(p:Pr):(zU (qM [] (kvK (F.map λ p=>(qk p,V.bl true)))) (.inr (qk p))).isSome=F.contains p:=by
 rw[qek];show(false || _)=_
 rw[Qe];unfold kvK;rw[Qv,Qz,Uz,Uo,XT];constructor
 ·rintro⟨q,hq,e⟩;have e:(Sum.inr (qk q):Key)=.inr (qk p):=Ub e;rw[<- qbq (Sum.inr.inj e)];exact hq
 ·intro hp;exact⟨p,hp,J4 rfl⟩
theorem qkp(F:Fun K "table_of" "table_of" qaQ f fd)(T:Txt mg)(Gp:Dp P w K mg base 1 fp wD ["letters"] qct "products_over")(Gs:Dp P w K mg base 10 fs wC ["truths"] (qf8 K 10) "summed"):FnOk P w K mg base CX0 11 f fd ["form","letters"] (qic K):=by
 refine F.okd qga (λ cdv A outer s H vs Q E hr h=>?_);obtain⟨a,F,ls,rfl,hS,hF,h9,q⟩:=h;have hu:=jI hr;have G4:Room 1 _:=hr.mono (by decide);refine⟨_,qc (qx (i:=2) qga.nd rfl (Or.inr rfl) (zu (qfN rfl) rfl T.dict qia (qa (zg (csc (NY:=["product"]) (o:=1) (caps:=[]) [] rfl (by simp) yk rfl) rfl
   (qcE (pv 0)) (λ C s H fp pins=>qo (i:=0) qpo rfl (Or.inl rfl)) (λ C s H fp pins=>ze) (λ C s H fp pins=>zM (qa (pv 0) (qa qa3 qb)))) qb)))
  (qd (ql (zk Gs.g hr rfl Gs.m Gs.e Gs.b .nil qF (qa (zg (csc (NY:=["product","standing"]) (o:=1) (caps:=[2]) ["standing"] rfl
    (by intro x hx;rw[Zg.mp hx];exact .inl rfl) (jz rfl rfl rfl yk) rfl) rfl
   (zF (zk Gp.g G4 rfl Gp.m Gp.e Gp.b .nil qF (qa (pv 1) qb))) (λ C s H fp pins=>qo (i:=0) qou rfl (Or.inl rfl)) (λ C s H fp pins=>ze) (λ C s H fp pins=>qmV (qm3 hu (pv 0) (pv 1)))) qb)))),?_⟩
 have hFl:(F.map vS).length=F.length:=U0 _;refine⟨_,rfl,a,rfl,⟨_,hS⟩,?_⟩;refine yL (F.map vS).length (λ i ys H2=>∃ ps:List Addr,ys=ps.map V.ref/\Paired (λ a (kv:Str×V)=>H2 a=some (.tup [.str kv.1,kv.2])) ps ((F.take i).map λ p=>(qk p,V.bl true))) ?_ ?_ ?_ ?_ ?_
 ·intro D hD;exact⟨[],rfl,.nil⟩
 ·rintro i ys H2 hi ⟨ps,rfl,hp⟩
  have:=hp.length
  rw[U0,Ue] at this;rw[U0];rw[hFl] at hi;exact zb (by omega)
 ·rintro i ys H2 D Y Z hi hD p4 sm ⟨ps,rfl,hp⟩ hY hZ;rw[hFl] at hi;refine⟨⟨_,_,sm.seqT hS,Xv (by rw[hFl];exact hi)⟩,?_⟩;rintro x H' ⟨rfl,x3⟩;have ex:=x3 _ (sm.seqT hS);obtain⟨p,E9,rfl⟩:=qj ex;refine⟨⟨rfl,rfl⟩,?_⟩;refine⟨_,rfl,qE (by show 2<=_;decide),λ t ht=>?_⟩;have hDt:D≠t:=zw p4 ht;refine hY _ _ (by rw[qp hDt];exact p4) (sm.to ht) ⟨ps++[t],by rw[U7];rfl,?_⟩;rw[q0 E9,U7];refine qX (L2.Paired.mapP hp λ b kv e=>?_) (.cons ?_ .nil)
  ·have hbD:b≠D:=qmC e p4 (by intro z;cases z);rw[qp hbD,qp (zw e ht)];exact e
  ·rw[qp (Vr hDt),qe]
 ·intro H2 sm;exact⟨_,sm.seqT hS,Q5 _⟩
 rintro D H2 ys hD sm p4 ⟨ps,rfl,hp⟩;rw[hFl,Ul] at hp;refine⟨D,ps,_,rfl,SqL.of p4,L2.Paired.mapP hp λ b kv e=>SqT.of e,λ d hd=>?_⟩;have g3:qi H (upd H2 d (.dK (qM [] (kvK (F.map λ p=>(qk p,V.bl true)))))):=sm.to hd;refine⟨_,rfl,ls,rfl,h9,λ r1 H3 g4 e3=>?_⟩;have hd3:H3 d=some (.dK (qM [] (kvK (F.map λ p=>(qk p,V.bl true))))):=g4 _ _ qe;have w6:(zn ls).length<=512:=by rw[za];exact qbA h9
 refine⟨r1,rfl,⟨_,SqL.of e3⟩,?_⟩;refine vX (SqL.of e3) (λ j=>(((zn ls).map λ p=>F.contains p).take j).map V.bl) rfl (λ j hj=>?_) ?_ ?_
 ·rw[U0,Ue,U0];exact zb (by omega)
 ·intro j x H4 D2 Y Z hx iV hH4 xI hY hZ;obtain⟨p,E9,rfl⟩:=qj hx;refine⟨⟨rfl,rfl⟩,?_⟩;refine⟨_,rfl,_,rfl,d,_,rfl,qa8.k (k:=Sum.inr (qk p)) (xI _ _ hd3),?_⟩;rw[qe3];exact hY _ _ hH4 xI (zr (f:=V.bl) (by rw[Zn,E9];rfl))
 ·intro D2 H4 iV xI hH4;rw[U0,XF (by rw[U0];exact Q5 _)] at hH4;refine⟨D2,(zn ls).map λ p=>F.contains p,ls.length,rfl,SqL.of hH4,by rw[U0,za],by omega,h9,λ r H5 g5 e5=>?_⟩;exact q r H5 (((g3.trans g4).trans xI).trans g5) e5
def qhc(K:W.Frag):Sp:=λ vs H Q _=>∃(a:Addr)(t:List Bool)(ls:List Nat),vs=[vS ls,.ref a]/\SqL K H a (t.map V.bl)/\t.length=2^ls.length/\ls.length<=9/\ls.Nodup /\
 ∀ r H',qi H H'->H' r=some (.tup ((formOf ls t).map vS))->Q (.ref r) H'
theorem qid:FnScope ["letters","table","products"] ["letters","table"] (qf qbU):=scF
theorem qkq:(["product","stands"]:List Str).Nodup:=by decide +kernel
theorem qnv{α β:Type}{as:List α}{bs:List β}{i:Nat}{a:α}{b:β}(h1:as[i]?=some a)(h2:bs[i]?=some b):(as.zip bs)[i]?=some (a,b):=qaK h1 h2
theorem qgb(h:ss.map V.str=F.map vS):(qbg ss).map V.str=(srt F).map vS:=by
 have e:ss=F.map qk:=by
  rw[zV] at h;exact Zi (λ a b e=>by injection e) |>.mp h
 subst e;unfold qbg;rw[qda,zV]
theorem ql8(F:Fun K "form_of" "form_of" qbU f fd)(T:Txt mg)(Gp:Dp P w K mg base 1 fp wD ["letters"] qct "products_over")(Gs:Dp P w K mg base 10 fs wC ["truths"] (qf8 K 10) "summed"):FnOk P w K mg base CX0 11 f fd ["letters","table"] (qhc K):=by
 refine F.okd qid (λ cdv A outer s H vs Q E hr h=>?_);obtain⟨a,t,ls,rfl,hS,ht,h9,nd,q⟩:=h;have G4:Room 1 _:=hr.mono (by decide);refine⟨_,qc (qx (i:=2) qid.nd rfl (Or.inl rfl) (zk Gp.g G4 rfl Gp.m Gp.e Gp.b .nil qF (qa (pv 0) qb)))
  (qd (ql (zu qav rfl T.tuple qdv (qa (qv qdk rfl T.sorted qah (qa (qbf (n:=2) (csc (NY:=["product","stands"]) (o:=2) (caps:=[]) [] rfl (by simp) yk rfl) rfl
   (qgP rfl T.zip (qa (pv 2) (qa (zk Gs.g hr rfl Gs.m Gs.e Gs.b .nil qF (qa (pv 1) qb)) qb)))
   (λ C s H fp pins=>qH (qo (i:=0) qkq rfl (Or.inl rfl)) (qH (qo (i:=1) qkq rfl (Or.inl rfl)) zL)) (λ _=>rfl) (λ _=>rfl)
   (λ C s H fp pins=>qab (jf (pv 1))) (λ C s H fp pins=>pv 0)) qb)) qb)))),?_⟩
 have w6:(zn ls).length<=512:=by rw[za];exact qbA h9
 refine⟨_,rfl,ls,rfl,h9,λ r1 H1 g1 e1=>?_⟩;refine⟨_,rfl,_,rfl,a,t,ls.length,rfl,g1.seq hS,ht,by omega,h9,λ r2 H2 g2 e2=>?_⟩;have f1:=g2 _ _ e1;have sl:=qV _ _ ht;refine⟨r1,r2,rfl,⟨_,SqL.of f1⟩,⟨_,SqL.of e2⟩,?_⟩;have pk:∀ i,((((zn ls).zip (zo ls.length t)).take i).filterMap λ x=>if x.2=true then some x.1 else none).length<=512:=λ i=>by
  refine Qq (List.length_filterMap_le _ _) ?_;rw[Ue,Jg];omega
 refine qgX (SqL.of f1) (SqL.of e2) (by rw[U0,U0,sl,za]) (λ i=>((((zn ls).zip (zo ls.length t)).take i).filterMap λ x=>if x.2=true then some x.1 else none).map vS) rfl (λ i hi=>?_) ?_ ?_
 ·rw[U0];exact zb (Qq (pk i) (by decide))
 ·intro i x y H3 D Y Z hx hy hD M5 sm hY hZ;obtain⟨p,hp,rfl⟩:=qj hx;obtain⟨b,hb,rfl⟩:=qj hy;refine⟨_,_,rfl,_,_,rfl,rfl,⟨rfl,rfl⟩,?_⟩;refine⟨_,rfl,b,rfl,?_⟩;have ez:(((zn ls).zip (zo ls.length t)).take (i+1))=((zn ls).zip (zo ls.length t)).take i++[(p,b)]:=q0 (qnv hp hb);cases b with
  |true =>
   refine qaD ?_;refine⟨_,rfl,hY _ _ M5 sm ?_⟩;rw[ez,XV,U7];rfl
  |false =>
   refine zN ?_;refine hZ _ M5 sm ?_;rw[ez,XV,U7];exact U1 _
 ·intro D H3 hD sm M5;rw[XF (by rw[Jg,U0];omega)] at M5;have iI:(yg ls (zo ls.length t)).length<=512:=Qq (j3 _ _).length_le w6;have hnd:((yg ls (zo ls.length t)).map qk).Nodup:=Zr.mpr ((qbd _ nd).imp λ{a b} E7 e=>E7 (qbq e));refine⟨D,(yg ls (zo ls.length t)).map qk,rfl,SqL.of (by rw[<- zV];exact M5),by rw[U0];show _<4096;omega,hnd,λ l hl=>?_⟩;rw[qgb (zV _).symm];refine⟨l,_,rfl,.inl ⟨SqL.of qe,λ r O4=>?_⟩⟩;exact q r _ (((g1.trans g2).trans (sm.to hl)).to O4) qe
def qhd(K:W.Frag)(g:List Pr->List Pr->List Pr):Sp:=λ vs H Q _=>∃(a b:Addr)(F G:List Pr)(ls:List Nat),vs=[.ref a,.ref b]/\SqT K H a (F.map vS)/\SqT K H b (G.map vS)/\Ok9 ls/\On ls F/\On ls G /\
 ∀ r H',qi H H'->H' r=some (.tup ((g F G).map vS))->Q (.ref r) H'
def sp2(K:W.Frag)(g:List Pr->List Pr->List Pr):Sp:=λ vs H Q _=>∃(a b:Addr)(F G:List Pr)(ls:List Nat),vs=[.ref a,.ref b]/\SqT K H a (F.map vS)/\SqT K H b (G.map vS)/\Ok9 ls/\On ls F/\On ls G/\F.flatten.length+G.flatten.length<=4000 /\
 ∀ r H',qi H H'->H' r=some (.tup ((g F G).map vS))->Q (.ref r) H'
theorem qkr:FnScope ["one","other"] ["one","other"] (qf qeY):=scF
theorem qks(F:Fun K "added" "added" qeY f fd)(T:Txt mg):FnOk P w K mg base CX0 (k+1) f fd ["one","other"] (qhd K added):=by
 refine F.okd qkr (λ cdv A outer s H vs Q E hr h=>?_);obtain⟨a,b,F,G,ls,rfl,hF,hG,o5,oF,oG,q⟩:=h;have lF:=o5.le oF;have lG:=o5.le oG;refine⟨_,qd (ql (zu qav rfl T.tuple qdv (qa (qv (kg rfl) rfl T.sorted qah (qa (qr qj1 (zu (qbi rfl) rfl T.set qe1 (qa (pv 0) qb)) (zu (qbi rfl) rfl T.set qe1 (qa (pv 1) qb))) qb)) qb))),?_⟩;rw[zV] at hF hG;refine⟨_,rfl,F.map qk,.inl ⟨a,rfl,.inr hF⟩,by rw[U0];show _<4096;omega,λ l1 ys h1 lY m1=>?_⟩;refine⟨_,rfl,G.map qk,.inl ⟨b,rfl,.inr ((qi.up h1).seqT hG)⟩,by rw[U0];show _<4096;omega,λ l2 zs h2 pR m2=>?_⟩;have n12:l1≠l2:=zw qe h2;have y1:ys.length=F.length:=vZ lY oF.vf.nodup λ x=>(m1 x).trans vY
 have z1:zs.length=G.length:=vZ pR oG.vf.nodup λ x=>(m2 x).trans vY
 refine⟨l1,l2,ys,zs,rfl,rfl,by rw[qp n12,qe],qe,by omega,by omega,λ l3 us h3 nd3 m3=>?_⟩;have ndd:=qcP oF.vf.nodup oG.vf.nodup;have md:∀ x,x∈us ↔ cs x∈qfx F G:=λ x=>by rw[m3 x,m1 x,m2 x,vY,vY,qcO]
 have ld:us.length=(added F G).length:=by rw[vZ nd3 ndd md];exact((zW _).length_eq).symm
 have l32:=qi0 F G;refine⟨l3,us,rfl,qe,by show _<4096;omega,nd3,λ l4 h4=>?_⟩;rw[qeO nd3 ndd md];refine⟨l4,_,rfl,.inl ⟨SqL.of qe,λ r O4=>?_⟩⟩;exact q r _ (((((qi.up h1).to h2).to h3).to h4).to O4) qe
theorem qcu:FnScope ["one","other","letters","lefts","rights"] ["one","other"] (qf vh):=scF
theorem ql9(F:Fun K "multiplied" "multiplied" vh f fd)(T:Txt mg)(Gl:Dp P w K mg base 1 fl fdl ["form"] (qbY K) "letters_of")(Gt:Dp P w K mg base 11 ft fdt ["form","letters"] (qic K) "table_of")(Gf:Dp P w K mg base 11 ff fdf ["letters","table"] (qhc K) "form_of"):FnOk P w K mg base CX0 12 f fd ["one","other"] (sp2 K mult):=by
 refine F.okd qcu (λ cdv A outer s H vs Q E hr h=>?_);obtain⟨a,b,F,G,ls,rfl,hF,hG,o5,oF,oG,tT,q⟩:=h;have G4:Room 1 _:=hr.mono (by decide);have lF:=o5.le oF;have lG:=o5.le oG;refine⟨_,qc (qx (i:=2) qcu.nd rfl (Or.inl rfl) (zk Gl.g G4 rfl Gl.m Gl.e Gl.b .nil qF (qa (qr qjP (pv 0) (pv 1)) qb)))
  (qc (qx (i:=3) qcu.nd rfl (Or.inl rfl) (zk Gt.g hr rfl Gt.m Gt.e Gt.b .nil qF (qa (pv 0) (qa (pv 2) qb))))
  (qc (qx (i:=4) qcu.nd rfl (Or.inl rfl) (zk Gt.g hr rfl Gt.m Gt.e Gt.b .nil qF (qa (pv 1) (qa (pv 2) qb))))
  (qd (ql (zk Gf.g hr rfl Gf.m Gf.e Gf.b .nil qF (qa (pv 2) (qa (qbf (n:=2) (csc (NY:=["left","right"]) (o:=2) (caps:=[]) [] rfl (by simp) yk rfl) rfl
   (qgP rfl T.zip (qa (pv 3) (qa (pv 4) qb)))
   (λ C s H fp pins=>qH (qo (i:=0) qib rfl (Or.inl rfl)) (qH (qo (i:=1) qib rfl (Or.inl rfl)) zL)) (λ _=>rfl) (λ _=>rfl)
   (λ C s H fp pins=>ze) (λ C s H fp pins=>qjv (pv 0) (qgx (pv 1)))) qb))))))),?_⟩
 have inls:∀ p∈F++G,∀ c∈p,c∈ls:=λ p hp=>by
  rcases Uy.mp hp with h|h
  ·exact oF.mem p h
  ·exact oG.mem p h
 have lle:=qfQ o5.rise inls;have l5:=o5.len;have lr:=zG (F++G);have dS:(F++G).flatten.length<=4000:=by
  rw[List.flatten_append,Zb];omega
 refine⟨_,rfl,_,rfl,a,b,_,_,rfl,rfl,hF,hG,by rw[U0,U0];exact qE (by omega),λ p H1 g1 hp=>?_⟩;rw[<- U7] at hp;refine⟨p,F++G,rfl,hp,dS,by rw[Zb];omega,by omega,λ H2 g2=>?_⟩;have A9:=g1.trans g2;refine⟨_,rfl,_,rfl,a,F,qI (F++G),rfl,A9.seqT hF,by omega,by omega,λ r1 H3 g3 e3=>?_⟩;have O8:=A9.trans g3;refine⟨_,rfl,_,rfl,b,G,qI (F++G),rfl,O8.seqT hG,by omega,by omega,λ r2 H4 g4 e4=>?_⟩;have f3:=g4 _ _ e3;have t1:=zA F (qI (F++G));have t2:=zA G (qI (F++G));have h512:2^(qI (F++G)).length<=512:=qbA (by omega);refine⟨_,rfl,_,rfl,_,rfl,r1,r2,rfl,⟨_,SqL.of f3⟩,⟨_,SqL.of e4⟩,?_⟩;refine qgX (SqL.of f3) (SqL.of e4) (by rw[U0,U0,t1,t2]) (λ i=>((List.zipWith (· && ·) (j4 F (qI (F++G))) (j4 G (qI (F++G)))).take i).map V.bl) rfl (λ i hi=>?_) ?_ ?_
 ·rw[U0,Ue];rw[U0,t1] at hi;exact zb (by omega)
 ·intro i x y H5 D Y Z hx hy hD iU sm hY hZ;obtain⟨b1,T8,rfl⟩:=qj hx;obtain⟨b2,W0,rfl⟩:=qj hy;refine⟨_,_,rfl,_,_,rfl,rfl,⟨rfl,rfl⟩,?_⟩;refine⟨_,rfl,b1,rfl,?_⟩;have st:=zr (f:=V.bl) (qaK (f:=(· && ·)) T8 W0);cases b1 with
  |true =>
   refine qaD ?_;exact⟨_,rfl,hY _ _ iU sm st⟩
  |false =>
   refine zN ?_;exact hY _ _ iU sm st
 ·intro D H5 hD sm iU;rw[XF (by rw[Yv,U0];omega)] at iU;refine⟨D,_,qI (F++G),rfl,SqL.of iU,by rw[Yv,t1,t2];exact Nat.min_self _,by omega,q9 Qa lr,λ r H6 g6 e6=>?_⟩;exact q r H6 (((O8.trans g4).trans sm).trans g6) e6
theorem qi7:FnScope ["one","other"] ["one","other"] (qf qds):=scF
theorem qi8(F:Fun K "joined" "joined" qds f fd)(Ga:Dp P w K mg base 1 fa wE ["one","other"] (qhd K added) "added")(Gm:Dp P w K mg base 12 fm fdm ["one","other"] (sp2 K mult) "multiplied"):FnOk P w K mg base CX0 13 f fd ["one","other"] (sp2 K join):=by
 refine F.okd qi7 (λ cdv A outer s H vs Q E hr h=>?_);obtain⟨a,b,F,G,ls,rfl,hF,hG,o5,oF,oG,tT,q⟩:=h;have G4:Room 1 _:=hr.mono (by decide);refine⟨_,qd (ql (zk Ga.g G4 rfl Ga.m Ga.e Ga.b .nil qF (qa (zk Ga.g G4 rfl Ga.m Ga.e Ga.b .nil qF (qa (pv 0) (qa (pv 1) qb))) (qa (zk Gm.g hr rfl Gm.m Gm.e Gm.b .nil qF (qa (pv 0) (qa (pv 1) qb))) qb)))),?_⟩;refine⟨_,rfl,_,rfl,a,b,F,G,ls,rfl,hF,hG,o5,oF,oG,λ r1 H1 g1 e1=>?_⟩;refine⟨_,rfl,_,rfl,a,b,F,G,ls,rfl,g1.seqT hF,g1.seqT hG,o5,oF,oG,tT,λ r2 H2 g2 e2=>?_⟩;refine⟨r1,r2,_,_,ls,rfl,SqT.of (g2 _ _ e1),SqT.of e2,o5,oF.added oG,oF.mult oG,λ r H3 g3 e3=>?_⟩;exact q r H3 ((g1.trans g2).trans g3) e3
def sp1(K:W.Frag)(g:List Pr->List Pr):Sp:=λ vs H Q _=>∃(a:Addr)(F:List Pr)(ls:List Nat),vs=[.ref a]/\SqT K H a (F.map vS)/\Ok9 ls/\On ls F/\∀ r H',qi H H'->H' r=some (.tup ((g F).map vS))->Q (.ref r) H'
theorem qnw:FnScope ["form"] ["form"] (qf qaP):=scF
theorem qnx(F:Fun K "opposite" "opposite" qaP f fd)(mal:mg "ALWAYS"=some (.ref al))(hal:∀ H,SqT K H al (([[]]:List Pr).map vS))(Ga:Dp P w K mg base 1 fa wE ["one","other"] (qhd K added) "added"):FnOk P w K mg base CX0 2 f fd ["form"] (sp1 K opp):=by
 refine F.okd qnw (λ cdv A outer s H vs Q E hr h=>?_);obtain⟨a,F,ls,rfl,hF,o5,oF,q⟩:=h;refine⟨_,qd (ql (zk Ga.g hr rfl Ga.m Ga.e Ga.b .nil qF (qa (pv 0) (qa (zX (v:=.ref al) rfl mal rfl) qb)))),?_⟩;refine⟨_,rfl,a,al,F,[[]],ls,rfl,hF,hal _,o5,oF,On.one ls,λ r H1 g1 e1=>?_⟩;exact q r H1 g1 e1
noncomputable def zC:List Nat:=[97,98,99,112,113,114,120,121,122]
theorem qi9:zC.Pairwise (·<·):=by decide
theorem qgc:("abcpqrxyz":Str)=qk zC:=by decide +kernel
theorem yU(h:i<ls.length):sgn (qk ls) i=vS [ls[i]]:=by
 unfold sgn;show V.str ⟨#[ls.toArray.getD i 0]⟩=V.str ⟨#[ls[i]]⟩
 rw[Xf];simp[h]
def Dv(Γ:St->Hp->Prop)(te:TE)(v:V):Prop:=∀ σ H Q,Γ σ H->(∀ H',qi H H'->Q v H')->te σ H Q
def Dt(Γ:St->Hp->Prop)(tt:TT)(b:Bool):Prop:=∀ σ H Q,Γ σ H->(∀ H',qi H H'->Q b H')->tt σ H Q
def Stb(Γ:St->Hp->Prop):Prop:=∀ σ H H',Γ σ H->qi H H'->Γ σ H'
section
variable {Γ:St->Hp->Prop}{t1 t2 t3:TE}{F G:List Pr}{ls:List Nat}{g:List Pr->List Pr->List Pr}{g1:List Pr->List Pr}
theorem qma:([V.str ""]:List V)=([[]]:List Pr).map vS:=by
 have hz:("":Str)=qk []:=by decide +kernel
 rw[hz];rfl
theorem qpp(st:Stb Γ)(h1:Dv Γ t1 (.bl a))(h2:Dv Γ t2 (.bl b)):Dv Γ (tOp rNe t1 t2) (.bl (a != b)):=λ σ H Q hΓ q =>
 h1 σ H _ hΓ λ H1 g1=>h2 σ H1 _ (st _ _ _ hΓ g1) λ H2 g2=>⟨rfl,by rw[qeN];exact q H2 (g1.trans g2)⟩
theorem zt(h:Dv Γ t1 (.bl b)):Dt Γ (qjy t1) b:=λ σ H Q hΓ q=>h σ H _ hΓ λ H1 g1=>⟨b,rfl,q H1 g1⟩
end
def At(σ0:St)(H0:Hp):St->Hp->Prop:=λ σ H=>σ=σ0/\qi H0 H
theorem qA:Stb (At σ0 H0):=λ _ _ _ h g=>⟨h.1,h.2.trans g⟩
theorem at0:At σ0 H0 σ0 H0:=⟨rfl,qi.refl _⟩
section
variable {Γ:St->Hp->Prop}{t1 t2 t3:TE}
theorem qpq(st:Stb Γ)(h1:Dv Γ t1 (.bl a))(h2:Dv Γ t2 (.bl b)):Dv Γ (qnQ t1 t2) (.bl (a || b)):=λ σ H Q hΓ q=>h1 σ H _ hΓ λ H1 g1=>⟨a,rfl,by
 cases a with
 |true=>exact qaD (q H1 g1)
 |false=>exact zN (h2 σ H1 _ (st _ _ _ hΓ g1) λ H2 g2=>q H2 (g1.trans g2))⟩
theorem qov(st:Stb Γ)(h1:Dv Γ t1 (.bl a))(h2:Dv Γ t2 (.bl b)):Dv Γ (qmD t1 t2) (.bl (a && b)):=λ σ H Q hΓ q=>h1 σ H _ hΓ λ H1 g1=>⟨a,rfl,by
 cases a with
 |true=>exact qaD (h2 σ H1 _ (st _ _ _ hΓ g1) λ H2 g2=>q H2 (g1.trans g2))
 |false=>exact zN (q H1 g1)⟩
theorem qow(h1:Dv Γ t1 (.bl a)):Dv Γ (qmE t1) (.bl (!a)):=λ σ H Q hΓ q=>h1 σ H _ hΓ λ H1 g1=>⟨a,rfl,q H1 g1⟩
theorem jl(e:σ0[i]?=some (some (.ref p)))(h:SqT K H0 p xs)(ha:atI xs n=some v):Dv (At σ0 H0) (tOp (qlz K) (qet i) (tC (.int n))) v:=λ σ H Q g q =>
 ⟨_,by rw[g.1];exact e,p,xs,n,v,rfl,rfl,g.2.seqT h,ha,q H (qi.refl H)⟩
end
inductive Tr where 
 |letter (c:Nat)|one
 |zero
 |neg (t:Tr)|bin (op:Nat)(t u:Tr)
noncomputable def qe4:List Nat:=[108,101,116,116,101,114]
theorem qaX:("letter":Str)=qk qe4:=by decide +kernel
def zH(H H':Hp):Prop:=∀ b xs,H b=some (.tup xs)->H' b=some (.tup xs)
theorem zj(g:qi H H'):zH H H':=λ _ _ e=>g _ _ e
theorem zH.updL(h:H l=some (.lst xs)):zH H (upd H l o):=λ b ys e=>by
 have:b≠l:=λ q=>by rw[q,h] at e;cases e
 rw[qp this];exact e
theorem zH.trans(a:zH H H1)(b:zH H1 H2):zH H H2:=λ c xs e=>b _ _ (a _ _ e)
noncomputable def Tr.ht:Tr->Nat
 |.neg t=>t.ht+1
 |.bin _ t u=>max t.ht u.ht+1
 |_=>1
def Tr.Of(ls:List Nat):Tr->Prop
 |.letter c=>c∈ls
 |.neg t=>t.Of ls
 |.bin op t u=>(op=38∨op=124∨op=43)/\t.Of ls/\u.Of ls
 |_=>True
section
variable {Γ:St->Hp->Prop}{t1 t2:TE}{u1 u2:TT}
theorem qpr(st:Stb Γ)(h1:Dt Γ u1 a)(h2:Dt Γ u2 b):Dt Γ (tOr u1 u2) (a || b):=λ σ H Q hΓ q=>h1 σ H _ hΓ λ H1 g1=>by
 cases a with
 |true=>exact qaD (q H1 g1)
 |false=>exact zN (h2 σ H1 _ (st _ _ _ hΓ g1) λ H2 g2=>q H2 (g1.trans g2))
theorem dI0(st:Stb Γ)(h1:Dv Γ t1 (.int i))(h2:Dv Γ t2 (.int j)):Dv Γ (tOp (rI0 g) t1 t2) (g i j):=λ σ H Q hΓ q =>
 h1 σ H _ hΓ λ H1 g1=>h2 σ H1 _ (st _ _ _ hΓ g1) λ H2 g2=>⟨i,j,rfl,rfl,q H2 (g1.trans g2)⟩
theorem dIE(st:Stb Γ)(h1:Dv Γ t1 (.int i))(h2:Dv Γ t2 (.int j)):Dv Γ (tOp rEq t1 t2) (.bl (decide (i=j))):=λ σ H Q hΓ q =>
 h1 σ H _ hΓ λ H1 g1=>h2 σ H1 _ (st _ _ _ hΓ g1) λ H2 g2=>⟨rfl,by rw[show decide (V.int i=V.int j)=decide (i=j) by simp];exact q H2 (g1.trans g2)⟩
theorem qmK(st:Stb Γ)(h1:Dv Γ t1 (.int i))(hj:0<j):Dv Γ (tOp (rI (λ _ j=>0<j) λ i j=>.int (i % j)) t1 (tC (.int j))) (.int (i % j)):=λ σ H Q hΓ q =>
 h1 σ H _ hΓ λ H1 g1=>⟨i,j,rfl,rfl,hj,q H1 g1⟩
theorem qps(st:Stb Γ)(h1:Dv Γ t1 (.int i))(h2:Dv Γ t2 (.int j)):Dt Γ (qjy (tOp (rI0 λ i j=>.bl (decide (i<j))) t1 t2)) (decide (i<j)):=zt (dI0 st h1 h2)
theorem dC:Dv Γ (tC v) v:=λ σ H Q hΓ q=>q H (qi.refl H)
theorem dvA(e:σ0[i]?=some (some v)):Dv (At σ0 H0) (qet i) v:=λ σ H Q g q=>⟨v,by rw[g.1];exact e,q H (qi.refl H)⟩
theorem qpt(e:σ0[i]?=some (some (.ref p)))(h:SqL K H0 p xs):Dv (At σ0 H0) (tCB (λ xs H Q=>∃ p ys,xs=[.ref p]/\(SqL K H p ys∨SqT K H p ys)/\Q (.int ys.length) H) (vC (qet i) yH)) (.int xs.length):=λ σ H Q g q =>
 ⟨.ref p,by rw[g.1];exact e,p,xs,rfl,.inl (g.2.seq h),q H (qi.refl H)⟩
theorem yh(h:Dt Γ tc b)(hΓ:Γ σ H)(kA:b=true->∀ H',qi H H'->A D σ H')(kB:b=false->∀ H',qi H H'->B D σ H'):qnU tc A B D σ H:=h σ H _ hΓ λ H' g=>by
 cases b with
 |true=>exact qaD (kA rfl H' g)
 |false=>exact zN (kB rfl H' g)
end
noncomputable def Tr.wt:Tr->Nat
 |.neg t=>t.wt+1
 |.bin _ t u=>t.wt+u.wt
 |_=>1
theorem Tr.wt_pos:∀ t:Tr,1<=t.wt
 |.letter _=>Q5 _
 |.one=>Q5 _
 |.zero=>Q5 _
 |.neg t=>by show 1<=t.wt+1;omega
 |.bin _ t u=>by have:=Tr.wt_pos t;show 1<=t.wt+u.wt;omega
theorem Tr.ht_wt:∀ t:Tr,t.ht<=t.wt
 |.letter _=>Q5 _
 |.one=>Q5 _
 |.zero=>Q5 _
 |.neg t=>Nat.succ_le_succ (Tr.ht_wt t)
 |.bin _ t u=>by
  have a:=Tr.ht_wt t;have b:=Tr.ht_wt u;have c:=Tr.wt_pos t;have d:=Tr.wt_pos u;show max t.ht u.ht+1<=t.wt+u.wt
  omega
theorem Tr.ht1(t:Tr):1<=t.ht:=by cases t <;> simp[Tr.ht]
theorem qaj{α:Type}(l:List α)(x:α):(l++[x])[(l++[x]).length-1]?=some x:=by simp
theorem qox:("&|+":Str)=qk [38,124,43]:=by decide +kernel
theorem qny:("~":Str)=qk [126]:=by decide +kernel
theorem qoy{l:List Nat}(h0:0<=i)(h:i<(l.length:Int)):∃ c∈l,atI l i=some c:=by
 have hk:i.toNat<l.length:=by omega
 have:=jW (xs:=l) (j:=i.toNat) (Xv hk)
 rw[show((i.toNat:Nat):Int)=i by omega] at this;exact⟨_,Uk hk,this⟩
def Tr.Has(c:Nat):Tr->Prop
 |.letter l=>c=l
 |.neg t=>t.Has c
 |.bin _ t u=>t.Has c∨u.Has c
 |_=>False
theorem Tr.Of.has:∀{t:Tr},t.Of ls->t.Has c->c∈ls
 |.letter l,h,e=>by rw[show c=l from e];exact h
 |.neg t,h,e=>Tr.Of.has (t:=t) h e
 |.bin _ t u,h,e=>e.elim (Tr.Of.has (t:=t) h.2.1) (Tr.Of.has (t:=u) h.2.2)
 |.one,_,e=>e.elim
 |.zero,_,e=>e.elim
theorem qkt:("1":Str)=qk [49]:=by decide +kernel
theorem qhe:("0":Str)=qk [48]:=by decide +kernel
theorem qku:("&":Str)=qk [38]:=by decide +kernel
theorem qkv:("|":Str)=qk [124]:=by decide +kernel
section
variable {Γ:St->Hp->Prop}{t1 t2:TE}
theorem jF(st:Stb Γ)(h1:Dv Γ t1 (vS p))(h2:Dv Γ t2 (vS q)):Dv Γ (tOp rEq t1 t2) (.bl (decide (p=q))):=λ σ H Q hΓ k =>
 h1 σ H _ hΓ λ H1 g1=>h2 σ H1 _ (st _ _ _ hΓ g1) λ H2 g2=>⟨rfl,by
  have e:decide (vS p=vS q)=decide (p=q):=by
   by_cases h:p=q
   ·rw[h];simp
   ·rw[Jh h,Jh λ e=>h (qgR e)]
  rw[e];exact k H2 (g1.trans g2)⟩
theorem qay(e:σ0[i]?=some (some (.ref p)))(h:SqT K H0 p xs):Dv (At σ0 H0) (tCB (λ xs H Q=>∃ p ys,xs=[.ref p]/\(SqL K H p ys∨SqT K H p ys)/\Q (.int ys.length) H) (vC (qet i) yH)) (.int xs.length):=λ σ H Q g q =>
 ⟨.ref p,by rw[g.1];exact e,p,xs,rfl,.inr (g.2.seqT h),q H (qi.refl H)⟩
theorem qar(h:Dv Γ t1 v)(hΓ:Γ σ H)(k:∀ H',qi H H'->D.rt v H'):qlq t1 D σ H:=h σ H _ hΓ k
theorem qkw(h:Dv Γ t1 v)(hΓ:Γ σ H)(k:∀ H',qi H H'->D.nx (σ.set i (some v)) H'):qlt t1 (vG i) D σ H:=h σ H _ hΓ k
end
structure CA where 
 always:Addr
 never:Addr
 letter:Addr
 not:Addr
 and:Addr
 or:Addr
 either:Addr
noncomputable def CA.bin(c:CA)(op:Nat):Addr:=if op=38 then c.and else if op=124 then c.or else c.either
structure CTxt(K:W.Frag)(c:CA)(iL iN iP:Addr):Prop where
 always:Cls K c.always
 never:Cls K c.never
 letter:Cls K c.letter
 not:Cls K c.not
 and:Cls K c.and
 or:Cls K c.or
 either:Cls K c.either
 mAlways:Mk0 K c.always
 mNever:Mk0 K c.never
 mLetter:Mk K c.letter iL
 mNot:Mk K c.not iN
 mAnd:Mk K c.and iP
 mOr:Mk K c.or iP
 mEither:Mk K c.either iP
 aLetter:NoAttr K c.letter "letter"
 aNot:NoAttr K c.not "one"
 aAnd:NoAttr K c.and "one"/\NoAttr K c.and "other"
 aOr:NoAttr K c.or "one"/\NoAttr K c.or "other"
 aEither:NoAttr K c.either "one"/\NoAttr K c.either "other"
theorem CTxt.bin(h:CTxt K c iL iN iP)(op:Nat):Cls K (c.bin op)/\NoAttr K (c.bin op) "one"/\NoAttr K (c.bin op) "other":=by
 unfold CA.bin;split
 ·exact⟨h.and,h.aAnd⟩
 ·split
  ·exact⟨h.or,h.aOr⟩
  ·exact⟨h.either,h.aEither⟩
def qK(c:CA)(H:Hp):Tr->V->Prop
 | .letter l,v=>∃ a dx,v=.ref a/\H a=some (.ins c.letter dx [("letter",vS [l])])
 |.one,v=>∃ a dx,v=.ref a/\H a=some (.ins c.always dx [])
 |.zero,v=>∃ a dx,v=.ref a/\H a=some (.ins c.never dx [])
 | .neg t,v=>∃ a dx x,v=.ref a/\H a=some (.ins c.not dx [("one",x)])/\qK c H t x
 | .bin op t u,v=>∃ a dx x y,v=.ref a/\H a=some (.ins (c.bin op) dx [("one",x),("other",y)])/\qK c H t x/\qK c H u y
theorem qK.mono(g:qi H H'):∀{t:Tr}{v:V},qK c H t v->qK c H' t v
 |.letter _,_,⟨a,dx,e,h⟩=>⟨a,dx,e,g _ _ h⟩
 |.one,_,⟨a,dx,e,h⟩=>⟨a,dx,e,g _ _ h⟩
 |.zero,_,⟨a,dx,e,h⟩=>⟨a,dx,e,g _ _ h⟩
 |.neg t,_,⟨a,dx,x,e,h,r⟩=>⟨a,dx,x,e,g _ _ h,qK.mono g r⟩
 |.bin op t u,_,⟨a,dx,x,y,e,h,r,r'⟩=>⟨a,dx,x,y,e,g _ _ h,qK.mono g r,qK.mono g r'⟩
def qak(K:W.Frag)(f:Str):Sp:=λ vs H Q _=>∃(C x dx:Addr)(y:V),vs=[.ref x,y]/\H x=some (.ins C dx [])/\Cls K C/\NoAttr K C f/\Q .non (upd H x (.ins C dx [(f,y)]))
def qe5(K:W.Frag)(f g:Str):Sp:=λ vs H Q _=>∃(C x dx:Addr)(y z:V),vs=[.ref x,y,z]/\H x=some (.ins C dx [])/\Cls K C/\NoAttr K C f/\NoAttr K C g/\Q .non (upd (upd H x (.ins C dx [(f,y)])) x (.ins C dx [(f,y),(g,z)]))
theorem qkx:FnScope ["self","letter"] ["self","letter"] (qf jA):=scF
theorem qky:FnScope ["self","one"] ["self","one"] (qf qaR):=scF
theorem qkz:FnScope ["self","one","other"] ["self","one","other"] (qf ku):=scF
theorem qkA(F:Fun K "__init__" "Letter.__init__" jA f fd):FnOk P w K mg base CX0 (k+1) f fd ["self","letter"] (qak K "letter"):=by
 refine F.okd qkx (λ cdv A outer s H vs Q E hr h=>?_);obtain⟨C,x,dx,y,rfl,hx,c,n,q⟩:=h;refine⟨_,qd (jV (pv 0) (pv 1) rfl),?_⟩;exact⟨_,rfl,_,rfl,x,C,dx,[],rfl,hx,c,n,by decide,q⟩
theorem qkB(F:Fun K "__init__" "Not.__init__" qaR f fd):FnOk P w K mg base CX0 (k+1) f fd ["self","one"] (qak K "one"):=by
 refine F.okd qky (λ cdv A outer s H vs Q E hr h=>?_);obtain⟨C,x,dx,y,rfl,hx,c,n,q⟩:=h;refine⟨_,qd (jV (pv 0) (pv 1) rfl),?_⟩;exact⟨_,rfl,_,rfl,x,C,dx,[],rfl,hx,c,n,by decide,q⟩
theorem qkC(F:Fun K "__init__" "Pair.__init__" ku f fd):FnOk P w K mg base CX0 (k+1) f fd ["self","one","other"] (qe5 K "one" "other"):=by
 refine F.okd qkz (λ cdv A outer s H vs Q E hr h=>?_);obtain⟨C,x,dx,y,z,rfl,hx,c,n,n2,q⟩:=h;refine⟨_,qc (jV (pv 0) (pv 1) rfl) (qd (jV (pv 0) (pv 2) rfl)),?_⟩;exact⟨_,rfl,_,rfl,x,C,dx,[],rfl,hx,c,n,by decide,_,rfl,_,rfl,x,C,dx,_,rfl,qe,c,n2,by show 1<1000;decide,q⟩
noncomputable def Tr.text:Tr->List Nat
 |.letter c=>[c]
 |.one=>[49]
 |.zero=>[48]
 |.neg t=>[126]++t.text
 |.bin op t u=>[40]++t.text++[op]++u.text++[41]
noncomputable def Tr.nodes:Tr->Int
 |.neg t=>1+t.nodes
 |.bin _ t u=>1+t.nodes+u.nodes
 |_=>1
noncomputable def Tr.lets:Tr->List Nat
 |.letter c=>[c]
 |.neg t=>t.lets
 |.bin _ t u=>uni t.lets u.lets
 |_=>[]
theorem Tr.text_len':∀ t:Tr,t.text.length+3<=4*t.wt
 |.letter _=>by show 1+3<=4*1;decide
 |.one=>by show 1+3<=4*1;decide
 |.zero=>by show 1+3<=4*1;decide
 |.neg t=>by
  have:=Tr.text_len' t
  show([126]++t.text).length+3<=4*(t.wt+1)
  rw[Zb,XR];omega
 |.bin op t u=>by
  have h1:=Tr.text_len' t;have h2:=Tr.text_len' u;show([40]++t.text++[op]++u.text++[41]).length+3<=4*(t.wt+u.wt)
  simp only[Zb,XR];omega
theorem Tr.text_len:∀ t:Tr,t.text.length<=4*t.wt
 |.letter _=>by show 1<=4*1;decide
 |.one=>by show 1<=4*1;decide
 |.zero=>by show 1<=4*1;decide
 |.neg t=>by
  have:=Tr.text_len t
  show([126]++t.text).length<=4*(t.wt+1)
  rw[Zb,XR];omega
 |.bin op t u=>by
  have h1:=Tr.text_len' t;have h2:=Tr.text_len' u;show([40]++t.text++[op]++u.text++[41]).length<=4*(t.wt+u.wt)
  simp only[Zb,XR];omega
theorem qmb(p q:List Nat):(uni p q).length<=p.length+q.length:=by
 rw[<- Zb];exact jJ (m:=p++q) (q9 Qa (zG _)) λ c hc=>Uy.mpr (qh8.mp hc)
theorem Tr.lets_len:∀ t:Tr,t.lets.length<=t.wt
 |.letter _=>Q5 _
 |.one=>Q6 _
 |.zero=>Q6 _
 |.neg t=>Zy (Tr.lets_len t)
 |.bin op t u=>Qq (qmb _ _) (Nat.add_le_add (Tr.lets_len t) (Tr.lets_len u))
theorem Tr.lets_rise:∀ t:Tr,t.lets.Pairwise (·<·)
 |.letter _=>by simp[Tr.lets]
 |.one=>by simp[Tr.lets]
 |.zero=>by simp[Tr.lets]
 |.neg t=>Tr.lets_rise t
 |.bin op t u=>zG _
theorem Tr.mem_lets:∀ t:Tr,c∈t.lets ↔ t.Has c
 |.letter _=>Zg
 |.one=>⟨λ h=>(by cases h),λ h=>h.elim⟩
 |.zero=>⟨λ h=>(by cases h),λ h=>h.elim⟩
 |.neg t=>Tr.mem_lets t
 |.bin op t u=>qh8.trans (or_congr (Tr.mem_lets t) (Tr.mem_lets u))
def kA(t:Tr):Prop:=t=.one
def kN(t:Tr):Prop:=t=.zero
def kL(t:Tr):Prop:=∃ l,t=.letter l
def kO(t:Tr):Prop:=∃ u,t=.neg u
def kD(t:Tr):Prop:=∃ u v,t=.bin 38 u v
def kR(t:Tr):Prop:=∃ u v,t=.bin 124 u v
def kE(t:Tr):Prop:=∃ u v,t=.bin 43 u v
def kP(t:Tr):Prop:=∃ op u v,t=.bin op u v
def spV(f:Tr->V)(c:CA)(n:Nat)(κ:Tr->Prop):Sp:=λ vs H Q _=>∃(o:V)(t:Tr),vs=[o]/\qK c H t o/\t.ht<=n/\t.wt<=1000/\t.Of zC/\κ t/\∀ H',qi H H'->Q (f t) H'
abbrev tV(f:Tr->V)(c:CA)(n:Nat)(m:Str)(κd κr κe:Tr->Prop)(te:TE):TE:=(λ σ H Q=>yl c.always m (spV f c n kA) [] E0 te yH σ H Q∨(λ σ H Q=>yl c.never m (spV f c n kN) [] E0 te yH σ H Q∨(λ σ H Q=>yl c.letter m (spV f c n kL) [] E0 te yH σ H Q∨(λ σ H Q=>yl c.not m (spV f c n kO) [] E0 te yH σ H Q∨(λ σ H Q=>yl c.and m (spV f c n κd) [] E0 te yH σ H Q∨(λ σ H Q=>yl c.or m (spV f c n κr) [] E0 te yH σ H Q∨yl c.either m (spV f c n κe) [] E0 te yH σ H Q) σ H Q) σ H Q) σ H Q) σ H Q) σ H Q)
theorem dV(hl:∀ x y:V,List.lookup m [(("letter":Str),x)]=none/\List.lookup m [(("one":Str),x)]=none/\List.lookup m [(("one":Str),x),(("other":Str),y)]=none)(hd:∀ u v,κd (.bin 38 u v))(hr:∀ u v,κr (.bin 124 u v))(he:∀ u v,κe (.bin 43 u v))(h1:Dv (At σ0 H0) te o)(ob:qK c H0 t o)(ht:t.ht<=n)(hw:t.wt<=1000)(of:t.Of zC):
  Dv (At σ0 H0) (tV f c n m κd κr κe te) (f t):=by
 intro σ H Q hΓ q;have go:∀(κ:Tr->Prop)(C:Addr)(a dx:Addr)(fs:List (Str×V)),κ t->o=.ref a->H0 a=some (.ins C dx fs)->fs.lookup m=none->yl C m (spV f c n κ) [] E0 te yH σ H Q:=λ κ C a dx fs hκ eo ha hl =>
  h1 σ H _ hΓ λ H1 g1=>⟨a,dx,fs,eo,(hΓ.2.trans g1) _ _ ha,hl,o,t,rfl,ob.mono (hΓ.2.trans g1),ht,hw,of,hκ,λ H' g=>q H' (g1.trans g)⟩
 cases t with
 |one=>obtain⟨a,dx,e,h⟩:=ob;exact .inl (go kA _ a dx _ rfl e h rfl)
 |zero=>obtain⟨a,dx,e,h⟩:=ob;exact .inr (.inl (go kN _ a dx _ rfl e h rfl))
 |letter l=>obtain⟨a,dx,e,h⟩:=ob;exact .inr (.inr (.inl (go kL _ a dx _ ⟨l,rfl⟩ e h (hl _ .non).1)))
 |neg u=>obtain⟨a,dx,x,e,h,_⟩:=ob;exact .inr (.inr (.inr (.inl (go kO _ a dx _ ⟨u,rfl⟩ e h (hl _ .non).2.1))))
 |bin op u v =>
  obtain⟨a,dx,x,y,e,h,_⟩:=ob;rcases of.1 with rfl|rfl|rfl
  ·exact .inr (.inr (.inr (.inr (.inl (go κd _ a dx _ (hd u v) e h (hl _ _).2.2)))))
  ·exact .inr (.inr (.inr (.inr (.inr (.inl (go κr _ a dx _ (hr u v) e h (hl _ _).2.2))))))
  ·exact .inr (.inr (.inr (.inr (.inr (.inr (go κe _ a dx _ (he u v) e h (hl _ _).2.2))))))
structure MTxt(K:W.Frag)(c:CA)(m:Str)(fA fN fL fO fD fR fE:Addr):Prop where
 always:Meth K c.always m fA
 never:Meth K c.never m fN
 letter:Meth K c.letter m fL
 not:Meth K c.not m fO
 and:Meth K c.and m fD
 or:Meth K c.or m fR
 either:Meth K c.either m fE
structure VOk(P:Program)(w:World)(K:W.Frag)(mg:Str->Option Value)(base:Heap)(f:Tr->V)(c:CA)(n:Nat)(κd κr κe:Tr->Prop)(fA fN fL fO fD fR fE:Addr)(dA dN dL dO dD dR dE:FuncData):Prop where
 always:FnOk P w K mg base CX0 n fA dA ["self"] (spV f c n kA)
 never:FnOk P w K mg base CX0 n fN dN ["self"] (spV f c n kN)
 letter:FnOk P w K mg base CX0 n fL dL ["self"] (spV f c n kL)
 not:FnOk P w K mg base CX0 n fO dO ["self"] (spV f c n kO)
 and:FnOk P w K mg base CX0 n fD dD ["self"] (spV f c n κd)
 or:FnOk P w K mg base CX0 n fR dR ["self"] (spV f c n κr)
 either:FnOk P w K mg base CX0 n fE dE ["self"] (spV f c n κe)
theorem qas {pos:Pos}(he:PE X o ta)(C:CTxt X.K c iL iN iP)(M:MTxt X.K c m fA fN fL fO fD fR fE)(G:VOk X.prog X.w X.K X.mg X.base f c n κd κr κe fA fN fL fO fD fR fE dA dN dL dO dD dR dE)(hr:Room n X.A)(bA:qh X.K dA ["self"] [])(bN:qh X.K dN ["self"] [])(bL:qh X.K dL ["self"] [])(bO:qh X.K dO ["self"] [])(bD:qh X.K dD ["self"] [])(bR:qh X.K dR ["self"] [])(bE:qh X.K dE ["self"] [])(ht:eval (.Call (.Attribute o m w5) [] [] pos) X.env=(do
   let ov <- eval o X.env
   standAt w5.atName
   let (f,first) <- holding [ov] (getMethod ov m pl)
   callWith pos f first (backTo pos (starEach [] X.env)) (backToKw pos (keywordEach [] X.env))):=by rfl):PE X (.Call (.Attribute o m w5) [] [] pos) (tV f c n m κd κr κe ta):=
 PE.or (qD he C.always M.always G.always hr bA .nil qF ht) (PE.or (qD he C.never M.never G.never hr bN .nil qF ht) (PE.or (qD he C.letter M.letter G.letter hr bL .nil qF ht) (PE.or (qD he C.not M.not G.not hr bO .nil qF ht) (PE.or (qD he C.and M.and G.and hr bD .nil qF ht) (PE.or (qD he C.or M.or G.or hr bR .nil qF ht) (qD he C.either M.either G.either hr bE .nil qF ht))))))
theorem vz(e:σ0[0]?=some (some (.ref a)))(h:H0 a=some (.ins C dx fs))(c:Cls K C)(n:NoAttr K C f)(l:fs.lookup f=some v):Dv (At σ0 H0) (qn2 K (qet 0) f) v:=λ σ H Q g q =>
 ⟨.ref a,by rw[g.1];exact e,a,C,dx,fs,v,rfl,g.2 _ _ h,c,n,l,q H (qi.refl H)⟩
theorem jm(st:Stb Γ)(h1:Dv Γ t1 (vS p))(h2:Dv Γ t2 (vS q))(hl:p.length+q.length<=100000):Dv Γ (tOp rAS t1 t2) (vS (p++q)):=λ σ H Q hΓ k =>
 h1 σ H _ hΓ λ H1 g1=>h2 σ H1 _ (st _ _ _ hΓ g1) λ H2 g2=>⟨qk p,qk q,rfl,rfl,by rw[qw,qw];exact qE hl,by rw[yo];exact k H2 (g1.trans g2)⟩
theorem qdw:("(":Str)=qk [40]:=by decide +kernel
theorem qal:(")":Str)=qk [41]:=by decide +kernel
theorem qkD:("+":Str)=qk [43]:=by decide +kernel
theorem qnz:("":Str)=qk []:=by decide +kernel
noncomputable abbrev zS(t:Tr):V:=vS t.text
noncomputable abbrev vSz(t:Tr):V:=.int t.nodes
theorem qdQ:FnScope ["self"] ["self"] (qf yx):=scF
theorem qe6:FnScope ["self"] ["self"] (qf y9):=scF
theorem qdR:FnScope ["self"] ["self"] (qf yB):=scF
theorem qhf:FnScope ["self"] ["self"] (qf vm):=scF
theorem qhg:FnScope ["self"] ["self"] (qf vq):=scF
theorem qja:FnScope ["self"] ["self"] (qf qaf):=scF
theorem qdS:FnScope ["self"] ["self"] (qf yE):=scF
theorem qdT:FnScope ["self"] ["self"] (qf yy):=scF
theorem qe7:FnScope ["self"] ["self"] (qf ja):=scF
theorem qdU:FnScope ["self"] ["self"] (qf yC):=scF
theorem qhh:FnScope ["self"] ["self"] (qf vo):=scF
theorem qgd:FnScope ["self"] ["self"] (qf jw):=scF
section
variable {c:CA}{iL iN iP fA fN fL fO fD fR fE fP:Addr}{dA dN dL dO dD dR dE dP:FuncData}{n:Nat}
theorem qge(F:Fun K "text" "Always.text" yx fA dA):FnOk P w K mg base CX0 (n+1) fA dA ["self"] (spV zS c (n+1) kA):=by
 refine F.okd qdQ (λ cdv A outer s H vs Q E hr h=>?_);obtain⟨o,t,rfl,ob,ht,hw,of,rfl,q⟩:=h;refine⟨_,qd (ql qm),?_⟩;rw[qkt];exact q H (qi.refl H)
theorem qhi(F:Fun K "text" "Never.text" y9 fN dN):FnOk P w K mg base CX0 (n+1) fN dN ["self"] (spV zS c (n+1) kN):=by
 refine F.okd qe6 (λ cdv A outer s H vs Q E hr h=>?_);obtain⟨o,t,rfl,ob,ht,hw,of,rfl,q⟩:=h;refine⟨_,qd (ql qm),?_⟩;rw[qhe];exact q H (qi.refl H)
theorem qgf(C:CTxt K c iL iN iP)(F:Fun K "text" "Letter.text" yB fL dL):FnOk P w K mg base CX0 (n+1) fL dL ["self"] (spV zS c (n+1) kL):=by
 refine F.okd qdR (λ cdv A outer s H vs Q E hr h=>?_);obtain⟨o,t,rfl,ob,ht,hw,of,⟨l,rfl⟩,q⟩:=h;refine⟨_,qd (ql (zf (pv 0) (by rfl))),?_⟩;obtain⟨a,dx,rfl,h⟩:=ob;exact qar (vz (K:=K) rfl h C.letter C.aLetter rfl) at0 q
theorem qkE(C:CTxt K c iL iN iP)(M:MTxt K c "text" fA fN fL fO fD fR fE)(G:VOk P w K mg base zS c n kD kR kE fA fN fL fO fD fR fE dA dN dL dO dD dR dE)(bA:qh K dA ["self"] [])(bN:qh K dN ["self"] [])(bL:qh K dL ["self"] [])(bO:qh K dO ["self"] [])(bD:qh K dD ["self"] [])(bR:qh K dR ["self"] [])(bE:qh K dE ["self"] [])(F:Fun K "text" "Not.text" vm fO dO):FnOk P w K mg base CX0 (n+1) fO dO ["self"] (spV zS c (n+1) kO):=by
 refine F.okd qhf (λ cdv A outer s H vs Q E hr h=>?_);obtain⟨o,t,rfl,ob,ht,hw,of,⟨u,rfl⟩,q⟩:=h;have iB:u.wt+1<=1000:=hw;refine⟨_,qd (ql (qr qN qm (qas (zf (pv 0) (by rfl)) C M G hr bA bN bL bO bD bR bE))),?_⟩;rw[qny];obtain⟨a,dx,x,rfl,h,ou⟩:=ob;exact qar (jm qA dC (dV (f:=zS) (n:=n) (κd:=kD) (κr:=kR) (κe:=kE) (λ _ _=>⟨rfl,rfl,rfl⟩) (λ _ _=>⟨_,_,rfl⟩) (λ _ _=>⟨_,_,rfl⟩) (λ _ _=>⟨_,_,rfl⟩) (vz rfl h C.not C.aNot rfl) ou (XJ ht) (by omega) of) (by have:=u.text_len;rw[XR];omega)) at0 q
theorem qkF(C:CTxt K c iL iN iP)(M:MTxt K c "text" fA fN fL fO fD fR fE)(G:VOk P w K mg base zS c n kD kR kE fA fN fL fO fD fR fE dA dN dL dO dD dR dE)(bA:qh K dA ["self"] [])(bN:qh K dN ["self"] [])(bL:qh K dL ["self"] [])(bO:qh K dO ["self"] [])(bD:qh K dD ["self"] [])(bR:qh K dR ["self"] [])(bE:qh K dE ["self"] [])(F:Fun K "text" "And.text" vq fD dD):FnOk P w K mg base CX0 (n+1) fD dD ["self"] (spV zS c (n+1) kD):=by
 refine F.okd qhg (λ cdv A outer s H vs Q E hr h=>?_);obtain⟨o,t,rfl,ob,ht,hw,of,⟨u,v,rfl⟩,q⟩:=h;refine⟨_,qd (ql (qr qN (qr qN (qr qN (qr qN qm (qas (zf (pv 0) (by rfl)) C M G hr bA bN bL bO bD bR bE)) qm) (qas (zf (pv 0) (by rfl)) C M G hr bA bN bL bO bD bR bE)) qm)),?_⟩;rw[qdw,qal,qku];obtain⟨a,dx,x,y,rfl,h,ou,ov⟩:=ob;obtain⟨op3,fu,fv⟩:=of;have hm:max u.ht v.ht<=n:=XJ ht;have iB:u.wt+v.wt<=1000:=hw;obtain⟨cB,n1,n2⟩:=C.bin 38;have l1:=u.text_len;have l2:=v.text_len;exact qar (jm qA (jm qA (jm qA (jm qA dC (dV (f:=zS) (n:=n) (κd:=kD) (κr:=kR) (κe:=kE) (λ _ _=>⟨rfl,rfl,rfl⟩) (λ _ _=>⟨_,_,rfl⟩) (λ _ _=>⟨_,_,rfl⟩) (λ _ _=>⟨_,_,rfl⟩) (vz rfl h cB n1 rfl) ou (by omega) (by omega) fu) (by rw[XR];omega)) dC (by simp only[Zb,XR];omega)) (dV (f:=zS) (n:=n) (κd:=kD) (κr:=kR) (κe:=kE) (λ _ _=>⟨rfl,rfl,rfl⟩) (λ _ _=>⟨_,_,rfl⟩) (λ _ _=>⟨_,_,rfl⟩) (λ _ _=>⟨_,_,rfl⟩) (vz rfl h cB n2 rfl) ov (by omega) (by omega) fv) (by simp only[Zb,XR];omega)) dC (by simp only[Zb,XR];omega)) at0 q
theorem qmc(C:CTxt K c iL iN iP)(M:MTxt K c "text" fA fN fL fO fD fR fE)(G:VOk P w K mg base zS c n kD kR kE fA fN fL fO fD fR fE dA dN dL dO dD dR dE)(bA:qh K dA ["self"] [])(bN:qh K dN ["self"] [])(bL:qh K dL ["self"] [])(bO:qh K dO ["self"] [])(bD:qh K dD ["self"] [])(bR:qh K dR ["self"] [])(bE:qh K dE ["self"] [])(F:Fun K "text" "Or.text" qaf fR dR):FnOk P w K mg base CX0 (n+1) fR dR ["self"] (spV zS c (n+1) kR):=by
 refine F.okd qja (λ cdv A outer s H vs Q E hr h=>?_);obtain⟨o,t,rfl,ob,ht,hw,of,⟨u,v,rfl⟩,q⟩:=h;refine⟨_,qd (ql (qr qN (qr qN (qr qN (qr qN qm (qas (zf (pv 0) (by rfl)) C M G hr bA bN bL bO bD bR bE)) qm) (qas (zf (pv 0) (by rfl)) C M G hr bA bN bL bO bD bR bE)) qm)),?_⟩;rw[qdw,qal,qkv];obtain⟨a,dx,x,y,rfl,h,ou,ov⟩:=ob;obtain⟨op3,fu,fv⟩:=of;have hm:max u.ht v.ht<=n:=XJ ht;have iB:u.wt+v.wt<=1000:=hw;obtain⟨cB,n1,n2⟩:=C.bin 124;have l1:=u.text_len;have l2:=v.text_len;exact qar (jm qA (jm qA (jm qA (jm qA dC (dV (f:=zS) (n:=n) (κd:=kD) (κr:=kR) (κe:=kE) (λ _ _=>⟨rfl,rfl,rfl⟩) (λ _ _=>⟨_,_,rfl⟩) (λ _ _=>⟨_,_,rfl⟩) (λ _ _=>⟨_,_,rfl⟩) (vz rfl h cB n1 rfl) ou (by omega) (by omega) fu) (by rw[XR];omega)) dC (by simp only[Zb,XR];omega)) (dV (f:=zS) (n:=n) (κd:=kD) (κr:=kR) (κe:=kE) (λ _ _=>⟨rfl,rfl,rfl⟩) (λ _ _=>⟨_,_,rfl⟩) (λ _ _=>⟨_,_,rfl⟩) (λ _ _=>⟨_,_,rfl⟩) (vz rfl h cB n2 rfl) ov (by omega) (by omega) fv) (by simp only[Zb,XR];omega)) dC (by simp only[Zb,XR];omega)) at0 q
theorem qgg(C:CTxt K c iL iN iP)(M:MTxt K c "text" fA fN fL fO fD fR fE)(G:VOk P w K mg base zS c n kD kR kE fA fN fL fO fD fR fE dA dN dL dO dD dR dE)(bA:qh K dA ["self"] [])(bN:qh K dN ["self"] [])(bL:qh K dL ["self"] [])(bO:qh K dO ["self"] [])(bD:qh K dD ["self"] [])(bR:qh K dR ["self"] [])(bE:qh K dE ["self"] [])(F:Fun K "text" "Either.text" yE fE dE):FnOk P w K mg base CX0 (n+1) fE dE ["self"] (spV zS c (n+1) kE):=by
 refine F.okd qdS (λ cdv A outer s H vs Q E hr h=>?_);obtain⟨o,t,rfl,ob,ht,hw,of,⟨u,v,rfl⟩,q⟩:=h;refine⟨_,qd (ql (qr qN (qr qN (qr qN (qr qN qm (qas (zf (pv 0) (by rfl)) C M G hr bA bN bL bO bD bR bE)) qm) (qas (zf (pv 0) (by rfl)) C M G hr bA bN bL bO bD bR bE)) qm)),?_⟩;rw[qdw,qal,qkD];obtain⟨a,dx,x,y,rfl,h,ou,ov⟩:=ob;obtain⟨op3,fu,fv⟩:=of;have hm:max u.ht v.ht<=n:=XJ ht;have iB:u.wt+v.wt<=1000:=hw;obtain⟨cB,n1,n2⟩:=C.bin 43;have l1:=u.text_len;have l2:=v.text_len;exact qar (jm qA (jm qA (jm qA (jm qA dC (dV (f:=zS) (n:=n) (κd:=kD) (κr:=kR) (κe:=kE) (λ _ _=>⟨rfl,rfl,rfl⟩) (λ _ _=>⟨_,_,rfl⟩) (λ _ _=>⟨_,_,rfl⟩) (λ _ _=>⟨_,_,rfl⟩) (vz rfl h cB n1 rfl) ou (by omega) (by omega) fu) (by rw[XR];omega)) dC (by simp only[Zb,XR];omega)) (dV (f:=zS) (n:=n) (κd:=kD) (κr:=kR) (κe:=kE) (λ _ _=>⟨rfl,rfl,rfl⟩) (λ _ _=>⟨_,_,rfl⟩) (λ _ _=>⟨_,_,rfl⟩) (λ _ _=>⟨_,_,rfl⟩) (vz rfl h cB n2 rfl) ov (by omega) (by omega) fv) (by simp only[Zb,XR];omega)) dC (by simp only[Zb,XR];omega)) at0 q
theorem qgh(F:Fun K "size" "Always.size" yy fA dA):FnOk P w K mg base CX0 (n+1) fA dA ["self"] (spV vSz c (n+1) kA):=by
 refine F.okd qdT (λ cdv A outer s H vs Q E hr h=>?_);obtain⟨o,t,rfl,ob,ht,hw,of,rfl,q⟩:=h;refine⟨_,qd (ql qg),?_⟩;exact q H (qi.refl H)
theorem qhj(F:Fun K "size" "Never.size" ja fN dN):FnOk P w K mg base CX0 (n+1) fN dN ["self"] (spV vSz c (n+1) kN):=by
 refine F.okd qe7 (λ cdv A outer s H vs Q E hr h=>?_);obtain⟨o,t,rfl,ob,ht,hw,of,rfl,q⟩:=h;refine⟨_,qd (ql qg),?_⟩;exact q H (qi.refl H)
theorem qgi(F:Fun K "size" "Letter.size" yC fL dL):FnOk P w K mg base CX0 (n+1) fL dL ["self"] (spV vSz c (n+1) kL):=by
 refine F.okd qdU (λ cdv A outer s H vs Q E hr h=>?_);obtain⟨o,t,rfl,ob,ht,hw,of,⟨l,rfl⟩,q⟩:=h;exact⟨_,qd (ql qg),q H (qi.refl H)⟩
theorem qkG(C:CTxt K c iL iN iP)(M:MTxt K c "size" fA fN fL fO fD fR fE)(G:VOk P w K mg base vSz c n kP kP kP fA fN fL fO fD fR fE dA dN dL dO dD dR dE)(bA:qh K dA ["self"] [])(bN:qh K dN ["self"] [])(bL:qh K dL ["self"] [])(bO:qh K dO ["self"] [])(bD:qh K dD ["self"] [])(bR:qh K dR ["self"] [])(bE:qh K dE ["self"] [])(F:Fun K "size" "Not.size" vo fO dO):FnOk P w K mg base CX0 (n+1) fO dO ["self"] (spV vSz c (n+1) kO):=by
 refine F.okd qhh (λ cdv A outer s H vs Q E hr h=>?_);obtain⟨o,t,rfl,ob,ht,hw,of,⟨u,rfl⟩,q⟩:=h;have iB:u.wt+1<=1000:=hw;refine⟨_,qd (ql (qr ye qg (qas (zf (pv 0) (by rfl)) C M G hr bA bN bL bO bD bR bE))),?_⟩;obtain⟨a,dx,x,rfl,h,ou⟩:=ob;exact qar (dI0 qA dC (dV (f:=vSz) (n:=n) (κd:=kP) (κr:=kP) (κe:=kP) (λ _ _=>⟨rfl,rfl,rfl⟩) (λ _ _=>⟨_,_,_,rfl⟩) (λ _ _=>⟨_,_,_,rfl⟩) (λ _ _=>⟨_,_,_,rfl⟩) (vz rfl h C.not C.aNot rfl) ou (XJ ht) (by omega) of)) at0 q
theorem qbZ(C:CTxt K c iL iN iP)(M:MTxt K c "size" fA fN fL fO fD fR fE)(G:VOk P w K mg base vSz c n kP kP kP fA fN fL fO fD fR fE dA dN dL dO dD dR dE)(bA:qh K dA ["self"] [])(bN:qh K dN ["self"] [])(bL:qh K dL ["self"] [])(bO:qh K dO ["self"] [])(bD:qh K dD ["self"] [])(bR:qh K dR ["self"] [])(bE:qh K dE ["self"] [])(F:Fun K "size" "Pair.size" jw fP dP):FnOk P w K mg base CX0 (n+1) fP dP ["self"] (spV vSz c (n+1) kP):=by
 refine F.okd qgd (λ cdv A outer s H vs Q E hr h=>?_);obtain⟨o,t,rfl,ob,ht,hw,of,⟨op,u,v,rfl⟩,q⟩:=h;refine⟨_,qd (ql (qr ye (qr ye qg (qas (zf (pv 0) (by rfl)) C M G hr bA bN bL bO bD bR bE)) (qas (zf (pv 0) (by rfl)) C M G hr bA bN bL bO bD bR bE))),?_⟩;obtain⟨a,dx,x,y,rfl,h,ou,ov⟩:=ob;obtain⟨op3,fu,fv⟩:=of;have hm:max u.ht v.ht<=n:=XJ ht;have iB:u.wt+v.wt<=1000:=hw;obtain⟨cB,n1,n2⟩:=C.bin op;exact qar (dI0 qA (dI0 qA dC (dV (f:=vSz) (n:=n) (κd:=kP) (κr:=kP) (κe:=kP) (λ _ _=>⟨rfl,rfl,rfl⟩) (λ _ _=>⟨_,_,_,rfl⟩) (λ _ _=>⟨_,_,_,rfl⟩) (λ _ _=>⟨_,_,_,rfl⟩) (vz rfl h cB n1 rfl) ou (by omega) (by omega) fu)) (dV (f:=vSz) (n:=n) (κd:=kP) (κr:=kP) (κe:=kP) (λ _ _=>⟨rfl,rfl,rfl⟩) (λ _ _=>⟨_,_,_,rfl⟩) (λ _ _=>⟨_,_,_,rfl⟩) (λ _ _=>⟨_,_,_,rfl⟩) (vz rfl h cB n2 rfl) ov (by omega) (by omega) fv)) at0 q
theorem yi:FnOk P w K mg base CX0 0 g fd ["self"] (spV f c 0 κ):=
 ⟨λ vs H Q E h=>by obtain⟨_,t,_,_,h,_⟩:=h;have:=t.ht1;omega,λ A outer s H args us vs Q E _ _ _ _ h=>by obtain⟨_,t,_,_,h,_⟩:=h;have:=t.ht1;omega⟩
theorem qgj(C:CTxt K c iL iN iP)(M:MTxt K c "text" fA fN fL fO fD fR fE)(bA:qh K dA ["self"] [])(bN:qh K dN ["self"] [])(bL:qh K dL ["self"] [])(bO:qh K dO ["self"] [])(bD:qh K dD ["self"] [])(bR:qh K dR ["self"] [])(bE:qh K dE ["self"] [])(FA:Fun K "text" "Always.text" yx fA dA)(FN:Fun K "text" "Never.text" y9 fN dN)(FL:Fun K "text" "Letter.text" yB fL dL)(FO:Fun K "text" "Not.text" vm fO dO)(FD:Fun K "text" "And.text" vq fD dD)(FR:Fun K "text" "Or.text" qaf fR dR)(FE:Fun K "text" "Either.text" yE fE dE):
  ∀ n,VOk P w K mg base zS c n kD kR kE fA fN fL fO fD fR fE dA dN dL dO dD dR dE
 |0=>⟨yi,yi,yi,yi,yi,yi,yi⟩
 |n+1 =>
  have G:=qgj C M bA bN bL bO bD bR bE FA FN FL FO FD FR FE n
  ⟨qge FA,qhi FN,qgf C FL,qkE C M G bA bN bL bO bD bR bE FO,qkF C M G bA bN bL bO bD bR bE FD,qmc C M G bA bN bL bO bD bR bE FR,qgg C M G bA bN bL bO bD bR bE FE⟩
theorem qgk(C:CTxt K c iL iN iP)(M:MTxt K c "size" fA fN fL fO fP fP fP)(bA:qh K dA ["self"] [])(bN:qh K dN ["self"] [])(bL:qh K dL ["self"] [])(bO:qh K dO ["self"] [])(bP:qh K dP ["self"] [])(FA:Fun K "size" "Always.size" yy fA dA)(FN:Fun K "size" "Never.size" ja fN dN)(FL:Fun K "size" "Letter.size" yC fL dL)(FO:Fun K "size" "Not.size" vo fO dO)(FP:Fun K "size" "Pair.size" jw fP dP):
  ∀ n,VOk P w K mg base vSz c n kP kP kP fA fN fL fO fP fP fP dA dN dL dO dP dP dP
 |0=>⟨yi,yi,yi,yi,yi,yi,yi⟩
 |n+1 =>
  have G:=qgk C M bA bN bL bO bP FA FN FL FO FP n
  ⟨qgh FA,qhj FN,qgi FL,qkG C M G bA bN bL bO bP bP bP FO,qbZ C M G bA bN bL bO bP bP bP FP,qbZ C M G bA bN bL bO bP bP bP FP,qbZ C M G bA bN bL bO bP bP bP FP⟩
end
noncomputable def Tr.val(ρ:Nat->Bool):Tr->Bool
 |.letter c=>ρ c
 |.one=>true
 |.zero=>false
 |.neg t=>!t.val ρ
 |.bin op t u=>if op=38 then t.val ρ && u.val ρ else if op=124 then t.val ρ || u.val ρ else t.val ρ != u.val ρ
noncomputable def Tr.form:Tr->List Pr
 |.letter l=>[[l]]
 |.one=>[[]]
 |.zero=>[]
 |.neg t=>opp t.form
 |.bin op t u=>if op=38 then mult t.form u.form else if op=124 then join t.form u.form else added t.form u.form
theorem qjb(h:l∈ls):On ls [[l]]:=⟨⟨by simp,by simp⟩,λ p hp c hc=>by
 rw[Zg.mp hp] at hc;rw[Zg.mp hc];exact h⟩
theorem Tr.on:∀{t:Tr},t.Of ls->On ls t.form
 |.letter _,h=>qjb h
 |.one,_=>On.one ls
 |.zero,_=>On.nil ls
 |.neg t,h=>On.opp (Tr.on (t:=t) h)
 |.bin op t u,h=>by
  have h1:=Tr.on (t:=t) h.2.1;have h2:=Tr.on (t:=u) h.2.2;unfold Tr.form;split
  ·exact h1.mult h2
  ·split
   ·exact h1.join h2
   ·exact h1.added h2
theorem Tr.form_worth(ρ:Nat->Bool):∀{t:Tr},t.Of ls->qy ρ t.form=t.val ρ
 |.letter _,_=>by simp[Tr.form,Tr.val,qy]
 |.one,_=>by simp[Tr.form,Tr.val,qy]
 |.zero,_=>by simp[Tr.form,Tr.val,qy]
 |.neg t,h=>by
  have h1:=Tr.on (t:=t) h;show qy ρ (opp t.form)=!t.val ρ
  rw[qiM ρ h1.vf,Tr.form_worth ρ (t:=t) h]
 |.bin op t u,h=>by
  have h1:=Tr.on (t:=t) h.2.1;have h2:=Tr.on (t:=u) h.2.2;have e1:=Tr.form_worth ρ (t:=t) h.2.1;have e2:=Tr.form_worth ρ (t:=u) h.2.2;unfold Tr.form Tr.val;split
  ·rw[qcW ρ h1.vf h2.vf,e1,e2]
  ·split
   ·rw[qcX ρ h1.vf h2.vf,e1,e2]
   ·rw[yJ ρ h1.vf h2.vf,e1,e2]
theorem jc{t u:Tr}(h:∀ c,t.Has c->u.Has c):t.lets.length<=u.lets.length:=jJ (q9 Qa t.lets_rise) λ c hc=>u.mem_lets.mpr (h c (t.mem_lets.mp hc))
theorem Tr.Of.sub:∀{t:Tr},t.Of ls->(∀ c,t.Has c->c∈us)->t.Of us
 |.letter l,_,h=>h l rfl
 |.neg t,o,h=>Tr.Of.sub (t:=t) o h
 |.bin _ t u,o,h=>⟨o.1,Tr.Of.sub (t:=t) o.2.1 λ c hc=>h c (.inl hc),Tr.Of.sub (t:=u) o.2.2 λ c hc=>h c (.inr hc)⟩
 |.one,_,_=>trivial
 |.zero,_,_=>trivial
def Szd(t:Tr):Prop:=t.Of zC/\(t.lets.length<=6∨t.wt<=10)
theorem Szd.neg(h:Szd (.neg t)):Szd t:=⟨h.1,h.2.elim .inl λ x=>.inr (Nat.le_of_succ_le x)⟩
theorem Szd.l(h:Szd (.bin op t u)):Szd t:=⟨h.1.2.1,h.2.elim (λ x=>.inl (Qq (jc (t:=t) (u:=.bin op t u) λ c hc=>.inl hc) x)) λ x=>.inr (by have:t.wt+u.wt<=10:=x;omega)⟩
theorem Szd.r(h:Szd (.bin op t u)):Szd u:=⟨h.1.2.2,h.2.elim (λ x=>.inl (Qq (jc (t:=u) (u:=.bin op t u) λ c hc=>.inr hc) x)) λ x=>.inr (by have:t.wt+u.wt<=10:=x;omega)⟩
theorem Tr.onl{t:Tr}(h:t.Of zC):On t.lets t.form:=Tr.on (Tr.Of.sub h λ c hc=>t.mem_lets.mpr hc)
theorem qmd:∀ a,a<=9->∀ b,b<=9->a+b<=10->a*2^a+b*2^b<=8000:=by decide
theorem qnA:∀ a,a<=6->a*2^a<=384:=by decide
theorem Szd.flat(h:Szd (.bin op t u)):t.form.flatten.length+u.form.flatten.length<=4000:=by
 have f1:=(Tr.onl h.1.2.1).flat2 t.lets_rise;have f2:=(Tr.onl h.1.2.2).flat2 u.lets_rise;have l1:=t.lets_len;have l2:=u.lets_len;rcases h.2 with x|x
 ·have a1:=qnA t.lets.length (Qq (jc (t:=t) (u:=.bin op t u) λ c hc=>.inl hc) x);have a2:=qnA u.lets.length (Qq (jc (t:=u) (u:=.bin op t u) λ c hc=>.inr hc) x);omega
 ·have hx:t.wt+u.wt<=10:=x;have p1:=t.wt_pos;have p2:=u.wt_pos
  have:=qmd t.lets.length (by omega) u.lets.length (by omega) (by omega)
  omega
theorem qnB:Ok9 zC:=⟨qi9,by decide⟩
def gA(t:Tr):Prop:=t=.one
def gN(t:Tr):Prop:=t=.zero
def gL(t:Tr):Prop:=∃ l,t=.letter l
def gO(t:Tr):Prop:=∃ u,t=.neg u
def gD(t:Tr):Prop:=∃ u v,t=.bin 38 u v
def gR(t:Tr):Prop:=∃ u v,t=.bin 124 u v
def gE(t:Tr):Prop:=∃ op u v,t=.bin op u v/\¬ op=38/\¬ op=124
def DT(Γ:St->Hp->Prop)(te:TE)(F:List Pr):Prop:=∀ σ H Q,Γ σ H->(∀ r H',qi H H'->H' r=some (.tup (F.map vS))->Q (.ref r) H')->te σ H Q
section
variable {Γ:St->Hp->Prop}{t1 t2:TE}{F G:List Pr}{g:List Pr->List Pr->List Pr}{g1:List Pr->List Pr}
theorem dT2(st:Stb Γ)(h1:DT Γ t1 F)(h2:DT Γ t2 G)(oF:On zC F)(oG:On zC G)(hf:F.flatten.length+G.flatten.length<=4000):DT Γ (qb8 (sp2 K g) [] E0 (vC t1 (vC t2 yH))) (g F G):=λ σ H Q hΓ q =>
 h1 σ H _ hΓ λ r1 H1 g1 e1=>h2 σ H1 _ (st _ _ _ hΓ g1) λ r2 H2 g2 e2=>⟨r1,r2,F,G,zC,rfl,SqT.of (g2 _ _ e1),SqT.of e2,qnB,oF,oG,hf,λ r H' g e=>q r H' ((g1.trans g2).trans g) e⟩
theorem qpu(st:Stb Γ)(h1:DT Γ t1 F)(h2:DT Γ t2 G)(oF:On zC F)(oG:On zC G):DT Γ (qb8 (qhd K g) [] E0 (vC t1 (vC t2 yH))) (g F G):=λ σ H Q hΓ q =>
 h1 σ H _ hΓ λ r1 H1 g1 e1=>h2 σ H1 _ (st _ _ _ hΓ g1) λ r2 H2 g2 e2=>⟨r1,r2,F,G,zC,rfl,SqT.of (g2 _ _ e1),SqT.of e2,qnB,oF,oG,λ r H' g e=>q r H' ((g1.trans g2).trans g) e⟩
theorem dT1(h1:DT Γ t1 F)(oF:On zC F):DT Γ (qb8 (sp1 K g1) [] E0 (vC t1 yH)) (g1 F):=λ σ H Q hΓ q =>
 h1 σ H _ hΓ λ r1 H1 g1 e1=>⟨r1,F,zC,rfl,SqT.of e1,qnB,oF,λ r H' g e=>q r H' (g1.trans g) e⟩
theorem qie(h:DT Γ t1 F)(hΓ:Γ σ H)(k:∀ r H',qi H H'->H' r=some (.tup (F.map vS))->D.rt (.ref r) H'):qlq t1 D σ H:=h σ H _ hΓ k
end
def jn(K:W.Frag)(c:CA)(n:Nat)(κ:Tr->Prop):Sp:=λ vs H Q _=>∃(o:V)(t:Tr),vs=[o]/\qK c H t o/\t.ht<=n/\Szd t/\κ t/\∀ r H',qi H H'->H' r=some (.tup (t.form.map vS))->Q (.ref r) H'
abbrev tFm(K:W.Frag)(c:CA)(n:Nat)(te:TE):TE:=(λ σ H Q=>yl c.always "form" (jn K c n gA) [] E0 te yH σ H Q∨(λ σ H Q=>yl c.never "form" (jn K c n gN) [] E0 te yH σ H Q∨(λ σ H Q=>yl c.letter "form" (jn K c n gL) [] E0 te yH σ H Q∨(λ σ H Q=>yl c.not "form" (jn K c n gO) [] E0 te yH σ H Q∨(λ σ H Q=>yl c.and "form" (jn K c n gD) [] E0 te yH σ H Q∨(λ σ H Q=>yl c.or "form" (jn K c n gR) [] E0 te yH σ H Q∨yl c.either "form" (jn K c n gE) [] E0 te yH σ H Q) σ H Q) σ H Q) σ H Q) σ H Q) σ H Q)
theorem dfm(h1:Dv (At σ0 H0) te o)(ob:qK c H0 t o)(ht:t.ht<=n)(sz:Szd t):
  DT (At σ0 H0) (tFm K c n te) t.form:=by
 intro σ H Q hΓ q;have go:∀(κ:Tr->Prop)(C:Addr)(a dx:Addr)(fs:List (Str×V)),κ t->o=.ref a->H0 a=some (.ins C dx fs)->fs.lookup ("form":Str)=none->yl C "form" (jn K c n κ) [] E0 te yH σ H Q:=λ κ C a dx fs hκ eo ha hl =>
  h1 σ H _ hΓ λ H1 g1=>⟨a,dx,fs,eo,(hΓ.2.trans g1) _ _ ha,hl,o,t,rfl,ob.mono (hΓ.2.trans g1),ht,sz,hκ,λ r H' g e=>q r H' (g1.trans g) e⟩
 cases t with
 |one=>obtain⟨a,dx,e,h⟩:=ob;exact .inl (go gA _ a dx _ rfl e h rfl)
 |zero=>obtain⟨a,dx,e,h⟩:=ob;exact .inr (.inl (go gN _ a dx _ rfl e h rfl))
 |letter l=>obtain⟨a,dx,e,h⟩:=ob;exact .inr (.inr (.inl (go gL _ a dx _ ⟨l,rfl⟩ e h rfl)))
 |neg u=>obtain⟨a,dx,x,e,h,_⟩:=ob;exact .inr (.inr (.inr (.inl (go gO _ a dx _ ⟨u,rfl⟩ e h rfl))))
 |bin op u v =>
  obtain⟨a,dx,x,y,e,h,_⟩:=ob;by_cases e38:op=38
  ·rw[CA.bin,Vy e38] at h;exact .inr (.inr (.inr (.inr (.inl (go gD _ a dx _ ⟨u,v,by rw[e38]⟩ e h rfl)))))
  ·by_cases e124:op=124
   ·rw[CA.bin,Vz e38,Vy e124] at h;exact .inr (.inr (.inr (.inr (.inr (.inl (go gR _ a dx _ ⟨u,v,by rw[e124]⟩ e h rfl))))))
   ·rw[CA.bin,Vz e38,Vz e124] at h;exact .inr (.inr (.inr (.inr (.inr (.inr (go gE _ a dx _ ⟨op,u,v,rfl,e38,e124⟩ e h rfl))))))
structure FTxt(K:W.Frag)(c:CA)(fA fN fL fO fD fR fE:Addr):Prop where
 always:Meth K c.always "form" fA
 never:Meth K c.never "form" fN
 letter:Meth K c.letter "form" fL
 not:Meth K c.not "form" fO
 and:Meth K c.and "form" fD
 or:Meth K c.or "form" fR
 either:Meth K c.either "form" fE
structure FOk(P:Program)(w:World)(K:W.Frag)(mg:Str->Option Value)(base:Heap)(c:CA)(n:Nat)(fA fN fL fO fD fR fE:Addr)(dA dN dL dO dD dR dE:FuncData):Prop where
 always:FnOk P w K mg base CX0 (n+13) fA dA ["self"] (jn K c n gA)
 never:FnOk P w K mg base CX0 (n+13) fN dN ["self"] (jn K c n gN)
 letter:FnOk P w K mg base CX0 (n+13) fL dL ["self"] (jn K c n gL)
 not:FnOk P w K mg base CX0 (n+13) fO dO ["self"] (jn K c n gO)
 and:FnOk P w K mg base CX0 (n+13) fD dD ["self"] (jn K c n gD)
 or:FnOk P w K mg base CX0 (n+13) fR dR ["self"] (jn K c n gR)
 either:FnOk P w K mg base CX0 (n+13) fE dE ["self"] (jn K c n gE)
theorem qdx {pos:Pos}(he:PE X o ta)(C:CTxt X.K c iL iN iP)(M:FTxt X.K c fA fN fL fO fD fR fE)(G:FOk X.prog X.w X.K X.mg X.base c n fA fN fL fO fD fR fE dA dN dL dO dD dR dE)(hr:Room (n+13) X.A)(bA:qh X.K dA ["self"] [])(bN:qh X.K dN ["self"] [])(bL:qh X.K dL ["self"] [])(bO:qh X.K dO ["self"] [])(bD:qh X.K dD ["self"] [])(bR:qh X.K dR ["self"] [])(bE:qh X.K dE ["self"] [])(ht:eval (.Call (.Attribute o "form" w5) [] [] pos) X.env=(do
   let ov <- eval o X.env
   standAt w5.atName
   let (f,first) <- holding [ov] (getMethod ov "form" pl)
   callWith pos f first (backTo pos (starEach [] X.env)) (backToKw pos (keywordEach [] X.env))):=by rfl):PE X (.Call (.Attribute o "form" w5) [] [] pos) (tFm X.K c n ta):=
 PE.or (qD he C.always M.always G.always hr bA .nil qF ht) (PE.or (qD he C.never M.never G.never hr bN .nil qF ht) (PE.or (qD he C.letter M.letter G.letter hr bL .nil qF ht) (PE.or (qD he C.not M.not G.not hr bO .nil qF ht) (PE.or (qD he C.and M.and G.and hr bD .nil qF ht) (PE.or (qD he C.or M.or G.or hr bR .nil qF ht) (qD he C.either M.either G.either hr bE .nil qF ht))))))
structure FFn(P:Program)(w:World)(K:W.Frag)(mg:Str->Option Value)(base:Heap)(fa fm fj fo:Addr)(da dm dj dp:FuncData):Prop where
 Ga:FnOk P w K mg base CX0 1 fa da ["one","other"] (qhd K added)
 ba:qh K da ["one","other"] []
 ka:W.keepIn K (.ref fa)=true
 ma:mg "added"=some (.ref fa)
 Gm:FnOk P w K mg base CX0 12 fm dm ["one","other"] (sp2 K mult)
 bm:qh K dm ["one","other"] []
 km:W.keepIn K (.ref fm)=true
 mm:mg "multiplied"=some (.ref fm)
 Gj:FnOk P w K mg base CX0 13 fj dj ["one","other"] (sp2 K join)
 bj:qh K dj ["one","other"] []
 kj:W.keepIn K (.ref fj)=true
 mj:mg "joined"=some (.ref fj)
 Go:FnOk P w K mg base CX0 2 fo dp ["form"] (sp1 K opp)
 bo:qh K dp ["form"] []
 ko:W.keepIn K (.ref fo)=true
 mo:mg "opposite"=some (.ref fo)
theorem qhk:FnScope ["self"] ["self"] (qf yA):=scF
theorem qjc:FnScope ["self"] ["self"] (qf jb):=scF
theorem qhl:FnScope ["self"] ["self"] (qf yD):=scF
theorem qme:FnScope ["self"] ["self"] (qf vp):=scF
theorem qmf:FnScope ["self"] ["self"] (qf vt):=scF
theorem qnC:FnScope ["self"] ["self"] (qf qag):=scF
theorem qhm:FnScope ["self"] ["self"] (qf yF):=scF
section
variable {c:CA}{iL iN iP fA fN fL fO fD fR fE fa fm fj fo:Addr}{dA dN dL dO dD dR dE da dm dj dp:FuncData}{n:Nat}
theorem qkH(F:Fun K "form" "Always.form" yA fA dA):FnOk P w K mg base CX0 (n+1+13) fA dA ["self"] (jn K c (n+1) gA):=by
 refine F.okd qhk (λ cdv A outer s H vs Q E hr h=>?_);obtain⟨o,t,rfl,ob,ht,sz,rfl,q⟩:=h;refine⟨_,qd (ql (zM (qa qm qb))),?_⟩;exact⟨qE (by show 1<=_;decide),λ p hp=>q p _ (qi.up hp) (by rw[qe,qma];rfl)⟩
theorem qmg(F:Fun K "form" "Never.form" jb fN dN):FnOk P w K mg base CX0 (n+1+13) fN dN ["self"] (jn K c (n+1) gN):=by
 refine F.okd qjc (λ cdv A outer s H vs Q E hr h=>?_);obtain⟨o,t,rfl,ob,ht,sz,rfl,q⟩:=h;refine⟨_,qd (ql (zM qb)),?_⟩;exact⟨Q6 _,λ p hp=>q p _ (qi.up hp) qe⟩
theorem qkI(C:CTxt K c iL iN iP)(F:Fun K "form" "Letter.form" yD fL dL):FnOk P w K mg base CX0 (n+1+13) fL dL ["self"] (jn K c (n+1) gL):=by
 refine F.okd qhl (λ cdv A outer s H vs Q E hr h=>?_);obtain⟨o,t,rfl,ob,ht,sz,⟨l,rfl⟩,q⟩:=h;refine⟨_,qd (ql (zM (qa (zf (pv 0) rfl) qb))),?_⟩;obtain⟨a,dx,rfl,h⟩:=ob;exact vz (K:=K) rfl h C.letter C.aLetter rfl _ _ _ at0 λ H1 g1=>⟨qE (by show 1<=_;decide),λ p hp=>q p _ (g1.to hp) qe⟩
theorem qoz(C:CTxt K c iL iN iP)(M:FTxt K c fA fN fL fO fD fR fE)(G:FOk P w K mg base c n fA fN fL fO fD fR fE dA dN dL dO dD dR dE)(N:FFn P w K mg base fa fm fj fo da dm dj dp)(bA:qh K dA ["self"] [])(bN:qh K dN ["self"] [])(bL:qh K dL ["self"] [])(bO:qh K dO ["self"] [])(bD:qh K dD ["self"] [])(bR:qh K dR ["self"] [])(bE:qh K dE ["self"] [])(F:Fun K "form" "Not.form" vp fO dO):FnOk P w K mg base CX0 (n+1+13) fO dO ["self"] (jn K c (n+1) gO):=by
 refine F.okd qme (λ cdv A outer s H vs Q E hr h=>?_);obtain⟨o,t,rfl,ob,ht,sz,⟨u,rfl⟩,q⟩:=h;have G7:Room (n+13) _:=hr.mono (by omega);have iD:Room 2 _:=hr.mono (by omega);refine⟨_,qd (ql (zk N.Go iD (by rfl) N.mo N.ko N.bo .nil qF (qa (qdx (zf (pv 0) (by rfl)) C M G G7 bA bN bL bO bD bR bE) qb))),?_⟩;obtain⟨a,dx,x,rfl,h,ou⟩:=ob;exact qie (dT1 (dfm (n:=n) (vz rfl h C.not C.aNot rfl) ou (XJ ht) sz.neg) (Tr.on (t:=u) sz.1)) at0 q
theorem qoA(C:CTxt K c iL iN iP)(M:FTxt K c fA fN fL fO fD fR fE)(G:FOk P w K mg base c n fA fN fL fO fD fR fE dA dN dL dO dD dR dE)(N:FFn P w K mg base fa fm fj fo da dm dj dp)(bA:qh K dA ["self"] [])(bN:qh K dN ["self"] [])(bL:qh K dL ["self"] [])(bO:qh K dO ["self"] [])(bD:qh K dD ["self"] [])(bR:qh K dR ["self"] [])(bE:qh K dE ["self"] [])(F:Fun K "form" "And.form" vt fD dD):FnOk P w K mg base CX0 (n+1+13) fD dD ["self"] (jn K c (n+1) gD):=by
 refine F.okd qmf (λ cdv A outer s H vs Q E hr h=>?_);obtain⟨o,t,rfl,ob,ht,sz,⟨u,v,rfl⟩,q⟩:=h;have G7:Room (n+13) _:=hr.mono (by omega);have tF:Room 12 _:=hr.mono (by omega);refine⟨_,qd (ql (zk N.Gm tF (by rfl) N.mm N.km N.bm .nil qF (qa (qdx (zf (pv 0) (by rfl)) C M G G7 bA bN bL bO bD bR bE) (qa (qdx (zf (pv 0) (by rfl)) C M G G7 bA bN bL bO bD bR bE) qb)))),?_⟩;obtain⟨a,dx,x,y,rfl,h,ou,ov⟩:=ob;have hb:c.bin 38=c.and:=by rw[CA.bin,Vy rfl]
 rw[hb] at h;obtain⟨_,fu,fv⟩:=sz.1;have hm:max u.ht v.ht<=n:=XJ ht;rw[Tr.form,Vy rfl] at q;exact qie (dT2 qA (dfm (n:=n) (vz rfl h C.and C.aAnd.1 rfl) ou (by omega) sz.l) (dfm (n:=n) (vz rfl h C.and C.aAnd.2 rfl) ov (by omega) sz.r) (Tr.on (t:=u) fu) (Tr.on (t:=v) fv) sz.flat) at0 q
theorem qpv(C:CTxt K c iL iN iP)(M:FTxt K c fA fN fL fO fD fR fE)(G:FOk P w K mg base c n fA fN fL fO fD fR fE dA dN dL dO dD dR dE)(N:FFn P w K mg base fa fm fj fo da dm dj dp)(bA:qh K dA ["self"] [])(bN:qh K dN ["self"] [])(bL:qh K dL ["self"] [])(bO:qh K dO ["self"] [])(bD:qh K dD ["self"] [])(bR:qh K dR ["self"] [])(bE:qh K dE ["self"] [])(F:Fun K "form" "Or.form" qag fR dR):FnOk P w K mg base CX0 (n+1+13) fR dR ["self"] (jn K c (n+1) gR):=by
 refine F.okd qnC (λ cdv A outer s H vs Q E hr h=>?_);obtain⟨o,t,rfl,ob,ht,sz,⟨u,v,rfl⟩,q⟩:=h;have G7:Room (n+13) _:=hr.mono (by omega);have tF:Room 13 _:=hr.mono (by omega);refine⟨_,qd (ql (zk N.Gj tF (by rfl) N.mj N.kj N.bj .nil qF (qa (qdx (zf (pv 0) (by rfl)) C M G G7 bA bN bL bO bD bR bE) (qa (qdx (zf (pv 0) (by rfl)) C M G G7 bA bN bL bO bD bR bE) qb)))),?_⟩;obtain⟨a,dx,x,y,rfl,h,ou,ov⟩:=ob;have hb:c.bin 124=c.or:=by rw[CA.bin,Vz (by decide),Vy rfl]
 rw[hb] at h;obtain⟨_,fu,fv⟩:=sz.1;have hm:max u.ht v.ht<=n:=XJ ht;rw[Tr.form,Vz (by decide),Vy rfl] at q;exact qie (dT2 qA (dfm (n:=n) (vz rfl h C.or C.aOr.1 rfl) ou (by omega) sz.l) (dfm (n:=n) (vz rfl h C.or C.aOr.2 rfl) ov (by omega) sz.r) (Tr.on (t:=u) fu) (Tr.on (t:=v) fv) sz.flat) at0 q
theorem qkJ(C:CTxt K c iL iN iP)(M:FTxt K c fA fN fL fO fD fR fE)(G:FOk P w K mg base c n fA fN fL fO fD fR fE dA dN dL dO dD dR dE)(N:FFn P w K mg base fa fm fj fo da dm dj dp)(bA:qh K dA ["self"] [])(bN:qh K dN ["self"] [])(bL:qh K dL ["self"] [])(bO:qh K dO ["self"] [])(bD:qh K dD ["self"] [])(bR:qh K dR ["self"] [])(bE:qh K dE ["self"] [])(F:Fun K "form" "Either.form" yF fE dE):FnOk P w K mg base CX0 (n+1+13) fE dE ["self"] (jn K c (n+1) gE):=by
 refine F.okd qhm (λ cdv A outer s H vs Q E hr h=>?_);obtain⟨o,t,rfl,ob,ht,sz,⟨op,u,v,rfl,mB,bJ⟩,q⟩:=h;have G7:Room (n+13) _:=hr.mono (by omega);have tF:Room 1 _:=hr.mono (by omega);refine⟨_,qd (ql (zk N.Ga tF (by rfl) N.ma N.ka N.ba .nil qF (qa (qdx (zf (pv 0) (by rfl)) C M G G7 bA bN bL bO bD bR bE) (qa (qdx (zf (pv 0) (by rfl)) C M G G7 bA bN bL bO bD bR bE) qb)))),?_⟩;obtain⟨a,dx,x,y,rfl,h,ou,ov⟩:=ob;have hb:c.bin op=c.either:=by rw[CA.bin,Vz mB,Vz bJ]
 rw[hb] at h;obtain⟨_,fu,fv⟩:=sz.1;have hm:max u.ht v.ht<=n:=XJ ht;rw[Tr.form,Vz mB,Vz bJ] at q;exact qie (qpu qA (dfm (n:=n) (vz rfl h C.either C.aEither.1 rfl) ou (by omega) sz.l) (dfm (n:=n) (vz rfl h C.either C.aEither.2 rfl) ov (by omega) sz.r) (Tr.on (t:=u) fu) (Tr.on (t:=v) fv)) at0 q
theorem qaY:FnOk P w K mg base CX0 (0+13) f fd ["self"] (jn K c 0 κ):=
 ⟨λ vs H Q E h=>by obtain⟨_,t,_,_,h,_⟩:=h;have:=t.ht1;omega,λ A outer s H args us vs Q E _ _ _ _ h=>by obtain⟨_,t,_,_,h,_⟩:=h;have:=t.ht1;omega⟩
theorem qkK(C:CTxt K c iL iN iP)(M:FTxt K c fA fN fL fO fD fR fE)(N:FFn P w K mg base fa fm fj fo da dm dj dp)(bA:qh K dA ["self"] [])(bN:qh K dN ["self"] [])(bL:qh K dL ["self"] [])(bO:qh K dO ["self"] [])(bD:qh K dD ["self"] [])(bR:qh K dR ["self"] [])(bE:qh K dE ["self"] [])(FA:Fun K "form" "Always.form" yA fA dA)(FN:Fun K "form" "Never.form" jb fN dN)(FL:Fun K "form" "Letter.form" yD fL dL)(FO:Fun K "form" "Not.form" vp fO dO)(FD:Fun K "form" "And.form" vt fD dD)(FR:Fun K "form" "Or.form" qag fR dR)(FE:Fun K "form" "Either.form" yF fE dE):
  ∀ n,FOk P w K mg base c n fA fN fL fO fD fR fE dA dN dL dO dD dR dE
 |0=>⟨qaY,qaY,qaY,qaY,qaY,qaY,qaY⟩
 |n+1 =>
  have G:=qkK C M N bA bN bL bO bD bR bE FA FN FL FO FD FR FE n
  ⟨qkH FA,qmg FN,qkI C FL,qoz C M G N bA bN bL bO bD bR bE FO,qoA C M G N bA bN bL bO bD bR bE FD,qpv C M G N bA bN bL bO bD bR bE FR,qkJ C M G N bA bN bL bO bD bR bE FE⟩
end
abbrev Fr:=Nat×Option Tr
abbrev PSt:=List Fr×Option Tr
noncomputable def wn:List Fr->Tr->List Fr×Tr
 | [],t=>([],t)
 |fr::fs,t=>if fr.1=126 then wn fs (.neg t) else(fr::fs,t)
noncomputable def yM(s:PSt):List Nat:=match s.2 with
 |none=>[48,49]++zC++[126,40]
 |some _=>match s.1 with
  | []=>[]
  |fr::_=>if fr.1=40 then [38,124,43] else [41]
noncomputable def jo(c:Nat):Tr:=if c=49 then .one else if c=48 then .zero else .letter c
noncomputable def stp(s:PSt)(c:Nat):PSt:=
 if c∈[126,40] then((c,none)::s.1,none)
 else if c∈[38,124,43] then(match s.1 with
  | []=>s
  |_::fs=>((c,s.2)::fs,none))
 else if c=41 then(match s.1,s.2 with
  |(op,some l)::fs,some r=>((wn fs (.bin op l r)).1,some (wn fs (.bin op l r)).2)
  |_,_=>s)
 else((wn s.1 (jo c)).1,some (wn s.1 (jo c)).2)
noncomputable def run:PSt->List Nat->Option PSt
 |s,[]=>some s
 |s,c::l=>if c∈yM s then run (stp s c) l else none
theorem qe8:∀(l1 l2:List Nat)(s:PSt),run s (l1++l2)=(run s l1).bind λ s'=>run s' l2
 | [],_,_=>rfl
 |c::l1,l2,s=>by
  rw[Up,run,run];split
  ·exact qe8 l1 l2 _
  ·rfl
theorem qdy:∀ c∈zC,c∈[48,49]++zC++[126,40]/\c∉[126,40]/\c∉[38,124,43]/\¬ c=41/\¬ c=49/\¬ c=48:=by decide
theorem qgl(h:c∈zC):jo c=.letter c:=by
 obtain⟨_,_,_,_,h1,h2⟩:=qdy c h;rw[jo,Vz h1,Vz h2]
theorem qaZ{rest:List Nat}(h1:c∈[48,49]++zC++[126,40])(h2:c∉[126,40])(h3:c∉[38,124,43])(h4:¬ c=41):run (fs,none) (c::rest)=run ((wn fs (jo c)).1,some (wn fs (jo c)).2) rest:=by
 rw[run,Vy (show c∈yM (fs,none) from h1),stp,Vz h2,Vz h3,Vz h4]
theorem qif(h:¬ fr.1=126):wn (fr::fs) t=(fr::fs,t):=Vz h
theorem qbC:∀(t:Tr)(fs:List Fr)(rest:List Nat),t.Of zC->run (fs,none) (t.text++rest)=run ((wn fs t).1,some (wn fs t).2) rest
 |.letter c,fs,rest,h=>by
  obtain⟨h1,h2,h3,h4,_,_⟩:=qdy c h;show run (fs,none) (c::rest)=_
  rw[qaZ h1 h2 h3 h4,qgl h]
 |.one,fs,rest,_=>by
  show run (fs,none) (49::rest)=_
  rw[qaZ (by decide) (by decide) (by decide) (by decide)];rfl
 |.zero,fs,rest,_=>by
  show run (fs,none) (48::rest)=_
  rw[qaZ (by decide) (by decide) (by decide) (by decide)];rfl
 |.neg t,fs,rest,h=>by
  show run (fs,none) (126::(t.text++rest))=_
  rw[run,Vy (show 126∈yM (fs,none) from(by decide:126∈[48,49]++zC++[126,40])),stp,Vy (by decide),qbC t _ _ h];rfl
 |.bin op t u,fs,rest,h=>by
  obtain⟨K8,ht,hu⟩:=h;have e:(Tr.bin op t u).text++rest=40::(t.text++(op::(u.text++(41::rest)))):=by simp[Tr.text]
  have no:op∉[126,40]/\op∈[38,124,43]/\¬ op=126/\¬ op=40:=by rcases K8 with rfl|rfl|rfl <;> decide
  rw[e,run,Vy (show 40∈yM (fs,none) from(by decide:40∈[48,49]++zC++[126,40])),stp,Vy (by decide),qbC t _ _ ht,qif (show ¬ ((40,none):Fr).1=126 from by decide)];rw[run,Vy (show op∈yM ((40,none)::fs,some t) from no.2.1),stp,Vz no.1,Vy no.2.1];show run ((op,some t)::fs,none) (u.text++(41::rest))=_
  rw[qbC u _ _ hu,qif (show ¬ ((op,some t):Fr).1=126 from no.2.2.1)];rw[run,Vy (show 41∈yM ((op,some t)::fs,some u) from by show 41∈(if op=40 then [38,124,43] else [41]);rw[Vz no.2.2.2];decide),stp,Vz (by decide),Vz (by decide),Vy rfl]
theorem qjd(h:t.Of zC):run ([],none) t.text=some ([],some t):=by
 have:=qbC t [] [] h
 rw[U1] at this;rw[this];rfl
def Fok(fr:Fr):Prop:=(fr.2=none/\(fr.1=126∨fr.1=40))∨(∃ l,fr.2=some l/\(fr.1=38∨fr.1=124∨fr.1=43))
structure Wfs(s:PSt):Prop where
 all:∀ fr∈s.1,Fok fr
 top:∀ r fr fs,s.2=some r->s.1=fr::fs->¬ fr.1=126
theorem qkL:∀{fs:List Fr}{t:Tr}{fr:Fr},fr∈(wn fs t).1->fr∈fs
 | [],_,_,h=>h
 |f::fs,t,fr,h=>by
  unfold wn at h;split at h
  ·exact Yf _ (qkL h)
  ·exact h
theorem qkM:∀{fs:List Fr}{t:Tr}{fr:Fr}{gs:List Fr},(wn fs t).1=fr::gs->¬ fr.1=126
 | [],_,_,_,h=>by cases h
 |f::fs,t,fr,gs,h=>by
  unfold wn at h;split at h
  ·exact qkM h
  ·rename_i hn;cases h
   exact hn
theorem qkN(h:∀ fr∈fs,Fok fr):Wfs ((wn fs t).1,some (wn fs t).2):=⟨λ fr hf=>h fr (qkL hf),λ _ _ _ _ e=>qkM e⟩
theorem Wfs.step(h:Wfs s)(hl:c∈yM s):Wfs (stp s c):=by
 unfold stp;split
 ·rename_i hc;have hc:c=126∨c=40:=by simpa using hc
  refine⟨λ fr hf=>?_,λ r fr fs e=>by cases e⟩;rcases Qb.mp hf with e|hf
  ·subst e;exact .inl ⟨rfl,hc⟩
  ·exact h.all fr hf
 ·split
  ·rename_i hc;have I0:c=38∨c=124∨c=43:=by simpa using hc
   obtain⟨fs,e⟩:=s;cases fs with
   |nil=>exact h
   |cons f fs =>
    cases e with
    |none=>exact absurd hl (by show ¬ c∈[48,49]++zC++[126,40];rcases I0 with rfl|rfl|rfl <;> decide)
    |some r =>
     refine⟨λ fr hf=>?_,λ r fr fs e=>by cases e⟩;rcases Qb.mp hf with e|hf
     ·subst e;exact .inr ⟨r,rfl,I0⟩
     ·exact h.all fr (Yf _ hf)
  ·split
   ·obtain⟨fs,e⟩:=s;split
    ·rename_i op l aS r h1 h2;cases h1
     exact qkN λ fr hf=>h.all fr (Yf _ hf)
    ·exact h
   ·exact qkN h.all
theorem qpw:Wfs ([],none):=⟨λ _ h=>(by cases h),λ _ _ _ e=>by cases e⟩
theorem qig:∀{l:List Nat}{s s':PSt},Wfs s->run s l=some s'->Wfs s'
 | [],_,_,h,e=>by cases e;exact h
 |c::l,s,s',h,e=>by
  rw[run] at e;split at e
  ·rename_i hl;exact qig (h.step hl) e
  ·cases e
theorem qnD(h:run ([],none) L=some fin)(hi:i<L.length)(hs:run ([],none) (L.take i)=some s):L[i]∈yM s/\run ([],none) (L.take (i+1))=some (stp s L[i]):=by
 have e:L=L.take i++(L[i]::L.drop (i+1)):=by rw[<- Xq hi,XU]
 have h2:run s (L[i]::L.drop (i+1))=some fin:=by
  rw[e,qe8,hs] at h;exact h
 rw[run] at h2;have hl:L[i]∈yM s:=by
  by_cases hl:L[i]∈yM s
  ·exact hl
  ·rw[Vz hl] at h2;cases h2
 refine⟨hl,?_⟩;rw[Xa hi,qe8,hs];show run s [L[i]]=_
 rw[run,Vy hl];rfl
theorem qje(h:Wfs s)(hl:41∈yM s):∃ op l fs r,s=((op,some l)::fs,some r)/\(op=38∨op=124∨op=43):=by
 obtain⟨fs,e⟩:=s;cases e with
 |none=>exact absurd hl (by show ¬ 41∈[48,49]++zC++[126,40];decide)
 |some r =>
  cases fs with
  |nil=>exact absurd hl (by simp[yM])
  |cons f fs =>
   obtain⟨op,o⟩:=f;have h1:=h.all (op,o) (Y9 ..);have h2:=h.top r (op,o) fs rfl rfl;have h3:¬ op=40:=λ e=>by subst e;exact absurd hl (by show ¬ 41∈(if (40:Nat)=40 then [38,124,43] else [41]);decide)
   rcases h1 with⟨_,h1|h1⟩|⟨l,h1,h4⟩
   ·exact absurd h1 h2
   ·exact absurd h1 h3
   ·exact⟨op,l,fs,r,by rw[show o=some l from h1],h4⟩
theorem qgm(hc:c∈[38,124,43])(hl:c∈yM s):∃ fr fs r,s=(fr::fs,some r):=by
 have I0:c=38∨c=124∨c=43:=by simpa using hc
 obtain⟨fs,e⟩:=s;cases e with
 |none=>exact absurd hl (by show ¬ c∈[48,49]++zC++[126,40];rcases I0 with rfl|rfl|rfl <;> decide)
 |some r =>
  cases fs with
  |nil=>exact absurd hl (by simp[yM])
  |cons f fs=>exact⟨f,fs,r,rfl⟩
theorem qhn:∀(fs:List Fr)(t:Tr),(wn fs t).1.length<=fs.length
 | [],_=>Q5 _
 |f::fs,t=>by
  unfold wn;split
  ·exact Zy (qhn fs _)
  ·exact Q5 _
theorem qmh(s:PSt)(c:Nat):(stp s c).1.length<=s.1.length+1:=by
 unfold stp;split
 ·exact Q5 _
 ·split
  ·obtain⟨fs,e⟩:=s;cases fs with
   |nil=>exact Q7 _
   |cons f fs=>exact Q7 _
  ·split
   ·obtain⟨fs,e⟩:=s;split
    ·rename_i op l aS r h1 h2;cases h1
     exact Zy (Zy (qhn _ _))
    ·exact Q7 _
   ·exact Zy (qhn _ _)
def zI(H H':Hp):Prop:=∀ b o,H b=some o->(∀ xs,o≠.lst xs)->H' b=some o
theorem kU(g:qi H H'):zI H H':=λ _ _ e _=>g _ _ e
theorem zI.trans(a:zI H H1)(b:zI H1 H2):zI H H2:=λ _ _ e n=>b _ _ (a _ _ e n) n
theorem zI.updL(h:H l=some (.lst xs)):zI H (upd H l o):=λ b p e n=>by
 have:b≠l:=λ q=>by rw[q,h] at e;cases e;exact n xs rfl
 rw[qp this];exact e
def But(a:Addr)(H H':Hp):Prop:=∀ b o,b≠a->H b=some o->H' b=some o
theorem But.refl(a:Addr)(H:Hp):But a H H:=λ _ _ _ e=>e
theorem But.trans(h:But a H H1)(g:But a H1 H2):But a H H2:=λ _ _ n e=>g _ _ n (h _ _ n e)
theorem zv(g:qi H H'):But a H H':=λ _ _ _ e=>g _ _ e
theorem But.upd{a:Addr}{H H':Hp}{o:HO}(g:But a H H'):But a H (upd H' a o):=λ b p n e=>by rw[qp n];exact g _ _ n e
theorem But.same(g:But a H H')(g0:qi H0 H)(f:H0 a=none):qi H0 H':=λ b o e=>g b o (λ q=>by rw[q,f] at e;cases e) (g0 _ _ e)
theorem qK.monoX(g:zI H H'):∀{t:Tr}{v:V},qK c H t v->qK c H' t v
 |.letter _,_,⟨a,dx,e,h⟩=>⟨a,dx,e,g _ _ h (λ _ z=>nomatch z)⟩
 |.one,_,⟨a,dx,e,h⟩=>⟨a,dx,e,g _ _ h (λ _ z=>nomatch z)⟩
 |.zero,_,⟨a,dx,e,h⟩=>⟨a,dx,e,g _ _ h (λ _ z=>nomatch z)⟩
 |.neg t,_,⟨a,dx,x,e,h,r⟩=>⟨a,dx,x,e,g _ _ h (λ _ z=>nomatch z),qK.monoX g r⟩
 |.bin op t u,_,⟨a,dx,x,y,e,h,r,r'⟩=>⟨a,dx,x,y,e,g _ _ h (λ _ z=>nomatch z),qK.monoX g r,qK.monoX g r'⟩
def qaz(c:CA)(H:Hp):Option Tr->V->Prop
 |none,v=>v=.non
 |some t,v=>qK c H t v
theorem qaz.monoX(g:zI H H'):∀{e:Option Tr}{v:V},qaz c H e v->qaz c H' e v
 |none,_,h=>h
 |some _,_,h=>qK.monoX g h
theorem qK.ref(h:qK c H t v):∃ a,v=.ref a:=by
 cases t with
 |letter l=>obtain⟨a,_,e,_⟩:=h;exact⟨a,e⟩
 |one=>obtain⟨a,_,e,_⟩:=h;exact⟨a,e⟩
 |zero=>obtain⟨a,_,e,_⟩:=h;exact⟨a,e⟩
 |neg u=>obtain⟨a,_,_,e,_⟩:=h;exact⟨a,e⟩
 |bin op u w=>obtain⟨a,_,_,_,e,_⟩:=h;exact⟨a,e⟩
theorem qaz.non(h:qaz c H e v):decide (v=.non)=e.isNone:=by
 cases e with
 |none=>rw[show v=.non from h];rfl
 |some t=>obtain⟨a,rfl⟩:=qK.ref h;rfl
def qkO(c:CA)(H:Hp)(fr:Fr)(x:V):Prop:=∃ a v,x=.ref a/\H a=some (.tup [vS [fr.1],v])/\qaz c H fr.2 v
theorem qkO.monoX(h:qkO c H fr x)(g:zI H H'):qkO c H' fr x:=let ⟨a,v,e,h,k⟩:=h;⟨a,v,e,g _ _ h (λ _ z=>nomatch z),k.monoX g⟩
inductive FrmI(c:CA)(H:Hp):List V->List Fr->Prop where
 |nil:FrmI c H [] []
 |snoc {ws:List V} {fs:List Fr} {x:V} {fr:Fr} (h:FrmI c H ws fs) (k:qkO c H fr x):FrmI c H (ws++[x]) (fr::fs)
theorem FrmI.monoX(h:FrmI c H vs fs)(g:zI H H'):FrmI c H' vs fs:=by
 induction h with
 |nil=>exact .nil
 |snoc h k ih=>exact ih.snoc (k.monoX g)
theorem FrmI.len(h:FrmI c H vs fs):vs.length=fs.length:=by
 induction h with
 |nil=>rfl
 |snoc h k ih=>rw[Zb,XR,Uc,ih]
theorem FrmI.top(h:FrmI c H vs (fr::fs)):∃ ws x,vs=ws++[x]/\FrmI c H ws fs/\qkO c H fr x:=by
 cases h with
 |snoc h k=>exact⟨_,_,rfl,h,k⟩
theorem FrmI.empty(h:FrmI c H vs []):vs=[]:=by
 have:=h.len
 exact X8.mp this
theorem qpx{c A B:Prop}[Decidable c](hc:¬ c)(h:B):if c then A else B:=by rw[Vz hc];exact h
theorem ifT{c A B:Prop}[Decidable c](hc:c)(h:A):if c then A else B:=by rw[Vy hc];exact h
def qoB(c:CA):Sp:=λ vs H Q _=>∃ s:Nat,vs=[vS [s]]/\∀ o H',qi H H'->qK c H' (jo s) o->Q o H'
def qoC(c:CA):Sp:=λ vs H Q _=>∃(op:Nat)(x y:V)(t u:Tr),vs=[vS [op],x,y]/\(op=38∨op=124∨op=43)/\qK c H t x/\qK c H u y/\∀ o H',qi H H'->qK c H' (.bin op t u) o->Q o H'
theorem qoD:FnScope ["sign"] ["sign"] (qf kC):=scF
theorem qoE:FnScope ["sign","one","other"] ["sign","one","other"] (qf qbW):=scF
theorem qmL:FnScope ["opened","saying"] ["opened","saying"] (qf kz):=scF
theorem qoF:FnScope ["opened","ended"] ["opened","ended"] (qf jk):=scF
theorem qmM:FnScope ["opened","ended","sign","waiting"] ["opened","ended","sign"] (qf qe0):=scF
theorem qel:FnScope ["text","opened","ended","place","sign"] ["text"] (qf qg9):=scF
section
variable {c:CA}{iL iN iP f:Addr}{fdL fdN fdP fd:FuncData}
theorem qoG(F:Fun K "single_of" "single_of" kC f fd)(C:CTxt K c iL iN iP)(mA:mg "Always"=some (.ref c.always))(mN:mg "Never"=some (.ref c.never))(mL:mg "Letter"=some (.ref c.letter))(GL:FnOk P w K mg base CX0 1 iL fdL ["self","letter"] (qak K "letter"))(bL:qh K fdL ["self","letter"] []):FnOk P w K mg base CX0 3 f fd ["sign"] (qoB c):=by
 refine F.okd qoD (λ cdv A outer s H vs Q E hr h=>?_);obtain⟨z,rfl,q⟩:=h;have iD:Room 2 _:=hr.mono (by decide);refine⟨_,(qc (qY (qt zq (pv 0) qm (qB _)) (qd (ql (qfS C.mAlways (by rfl) mA))) qC)
  (qc (qY (qt zq (pv 0) qm (qB _)) (qd (ql (qfS C.mNever (by rfl) mN))) qC)
  (qd (ql (k6 C.mLetter GL iD (by rfl) mL bL .nil qF (qa (pv 0) qb)))))),?_⟩
 rw[qkt,qhe];refine yh (zt (jF qA (dvA rfl) dC)) at0 (λ hb H1 g1=>?_) (λ hb H1 g1=>?_)
 ·have e:z=49:=by simpa using Ub hb
  exact λ x dx hx R6 ne=>q _ _ ((g1.at (g1.free R6)).at (g1.free hx)) (by rw[jo,Vy e];exact⟨x,dx,rfl,qe⟩)
 have n1:¬ z=49:=λ e=>by simpa [e] using Zk hb
 refine yh (zt (jF qA (dvA rfl) dC)) at0 (λ hb H2 g2=>?_) (λ hb H2 g2=>?_)
 ·have e:z=48:=by simpa using Ub hb
  have g:=g1.trans g2;exact λ x dx hx R6 ne=>q _ _ ((g.at (g.free R6)).at (g.free hx)) (by rw[jo,Vz n1,Vy e];exact⟨x,dx,rfl,qe⟩)
 have n0:¬ z=48:=λ e=>by simpa [e] using Zk hb
 have g:=g1.trans g2;refine⟨_,rfl,λ x dx hx R6 ne=>⟨c.letter,x,dx,_,rfl,qe,C.letter,C.aLetter,rfl,?_⟩⟩;exact q _ _ (((g.at (g.free R6)).at (g.free hx)).at (g.free hx)) (by rw[jo,Vz n1,Vz n0];exact⟨x,dx,rfl,qe⟩)
theorem qoH(F:Fun K "pair_of" "pair_of" qbW f fd)(C:CTxt K c iL iN iP)(mD:mg "And"=some (.ref c.and))(mR:mg "Or"=some (.ref c.or))(mE:mg "Either"=some (.ref c.either))(GP:FnOk P w K mg base CX0 1 iP fdP ["self","one","other"] (qe5 K "one" "other"))(bP:qh K fdP ["self","one","other"] []):FnOk P w K mg base CX0 3 f fd ["sign","one","other"] (qoC c):=by
 refine F.okd qoE (λ cdv A outer s H vs Q E hr h=>?_);obtain⟨op,o,p,t,u,rfl,K8,ob,pb,q⟩:=h;have iD:Room 2 _:=hr.mono (by decide);refine⟨_,(qc (qY (qt zq (pv 0) qm (qB _)) (qd (ql (k6 C.mAnd GP iD (by rfl) mD bP .nil qF (qa (pv 1) (qa (pv 2) qb))))) qC)
  (qc (qY (qt zq (pv 0) qm (qB _)) (qd (ql (k6 C.mOr GP iD (by rfl) mR bP .nil qF (qa (pv 1) (qa (pv 2) qb))))) qC)
  (qd (ql (k6 C.mEither GP iD (by rfl) mE bP .nil qF (qa (pv 1) (qa (pv 2) qb))))))),?_⟩
 rw[qku,qkv];have fin:∀(Cl x dx:Addr)(H7:Hp),qi H H7->Cl=c.bin op->H7 x=none->H7 dx=none->Q (.ref x) (upd (upd (upd (upd H7 dx (.own x)) x (.ins Cl dx [])) x (.ins Cl dx [("one",o)])) x (.ins Cl dx [("one",o),("other",p)])):=λ Cl x dx H7 g7 e hx R6=>by
  subst e;have k:=(((g7.at (g7.free R6) (o:=.own x)).at (g7.free hx) (o:=.ins (c.bin op) dx [])).at (g7.free hx) (o:=.ins (c.bin op) dx [("one",o)])).at (g7.free hx) (o:=.ins (c.bin op) dx [("one",o),("other",p)]);exact q _ _ k ⟨x,dx,o,p,rfl,qe,ob.mono k,pb.mono k⟩
 refine yh (zt (jF qA (dvA rfl) dC)) at0 (λ hb H7 g7=>?_) (λ hb H7 g7=>?_)
 ·have e:op=38:=by simpa using Ub hb
  refine⟨_,rfl,_,rfl,λ x dx hx R6 ne=>⟨c.and,x,dx,_,_,rfl,qe,C.and,C.aAnd.1,C.aAnd.2,rfl,?_⟩⟩;exact fin c.and x dx H7 g7 (by rw[CA.bin,Vy e]) hx R6
 have mB:¬ op=38:=λ e=>by simpa [e] using Zk hb
 refine yh (zt (jF qA (dvA rfl) dC)) at0 (λ hb H8 g8=>?_) (λ hb H8 g8=>?_)
 ·have e:op=124:=by simpa using Ub hb
  refine⟨_,rfl,_,rfl,λ x dx hx R6 ne=>⟨c.or,x,dx,_,_,rfl,qe,C.or,C.aOr.1,C.aOr.2,rfl,?_⟩⟩;exact fin c.or x dx H8 (g7.trans g8) (by rw[CA.bin,Vz mB,Vy e]) hx R6
 have bJ:¬ op=124:=λ e=>by simpa [e] using Zk hb
 refine⟨_,rfl,_,rfl,λ x dx hx R6 ne=>⟨c.either,x,dx,_,_,rfl,qe,C.either,C.aEither.1,C.aEither.2,rfl,?_⟩⟩;exact fin c.either x dx H8 (g7.trans g8) (by rw[CA.bin,Vz mB,Vz bJ]) hx R6
def qoI(c:CA):Sp:=λ vs H Q _=>∃(ao:Addr)(v:V)(ws:List V)(fs:List Fr)(t:Tr),vs=[.ref ao,v]/\H ao=some (.lst ws)/\FrmI c H ws fs/\qK c H t v/\∀ v' R3 H',But ao H H'->H' ao=some (.lst R3)->FrmI c H' R3 (wn fs t).1->qK c H' (wn fs t).2 v'->Q v' H'
theorem qoJ(F:Fun K "with_nots" "with_nots" kz f fd)(T:Txt mg)(C:CTxt K c iL iN iP)(mO:mg "Not"=some (.ref c.not))(GN:FnOk P w K mg base CX0 1 iN fdN ["self","one"] (qak K "one"))(bN:qh K fdN ["self","one"] []):FnOk P w K mg base CX0 3 f fd ["opened","saying"] (qoI c):=by
 refine F.okd qmL (λ cdv A outer s H vs Q E hr h=>?_);obtain⟨ao,v,ws,fs,t,rfl,ho,fm,ob,q⟩:=h;have iD:Room 2 _:=hr.mono (by decide);refine⟨_,(qc (qfl Jf (PW.pt (qgw (qt qat (qv qz (by rfl) T.len J0 (qa (pv 0) qb)) qg (qB _)) (qev (qt zq (qZ zl (qZ zz (pv 0) (qa5 jU qg) (λ _ _=>rfl)) qg (λ _ _=>rfl)) qm (qB _))))) (qc (yt (qcN X9 Yc Yd qeD (pv 0)))
  (qd (qx (i:=1) qmL.nd rfl (Or.inl rfl) (k6 C.mNot GN iD (by rfl) mO bN .nil qF (qa (pv 1) qb))))))
  (qd (ql (pv 1)))),?_⟩
 rw[qny];refine⟨λ μ σ H'=>∃(v':V)(R3:List V)(aS:List Fr)(t':Tr),σ=[some (.ref ao),some v']/\But ao H H'/\H' ao=some (.lst R3)/\FrmI c H' R3 aS/\qK c H' t' v'/\wn aS t'=wn fs t/\μ=aS.length,⟨_,v,ws,fs,t,rfl,But.refl _ _,ho,fm,ob,rfl,rfl⟩,?_⟩;rintro μ σ H1 ⟨v',R3,aS,t',rfl,g1,M3,fm1,gT,ew,rfl⟩;refine⟨_,rfl,ao,_,rfl,.inl (SqL.of M3),_,_,rfl,rfl,_,rfl,?_⟩;cases aS with
 |nil =>
  have e:=fm1.empty;subst e;refine zN ?_;refine zN ?_;rw[wn] at ew;exact⟨_,rfl,q v' [] H1 g1 M3 (by rw[<- ew];exact .nil) (by rw[<- ew];exact gT)⟩
 |cons fr aS =>
  obtain⟨us,x,rfl,fu,kx⟩:=fm1.top;obtain⟨ax,vx,rfl,dY,ke⟩:=kx;refine ifT (by rw[Zb,XR];simp) ?_;refine⟨_,rfl,_,rfl,ao,_,_,_,rfl,rfl,SqL.of M3,vL us (.ref ax),ax,_,_,vS [fr.1],rfl,rfl,SqT.of dY,rfl,rfl,_,rfl,?_⟩;have ee:decide (vS [fr.1]=vS [126])=decide (fr.1=126):=by
   by_cases h:fr.1=126
   ·rw[h];simp
   ·rw[Jh h,Jh λ e=>h (by have:=qgR e;simpa using this)]
  rw[show decide (vS [fr.1]=V.str (qk [126]))=decide (fr.1=126) from ee];rw[wn] at ew;by_cases h126:fr.1=126
  ·rw[Vy h126] at ew;rw[J4 h126];refine qaD ?_;refine⟨λ σ' H'=>∃(v':V)(R3:List V)(t':Tr),σ'=[some (.ref ao),some v']/\But ao H H'/\H' ao=some (.lst R3)/\FrmI c H' R3 aS/\qK c H' t' v'/\wn aS t'=wn fs t,?_,?_⟩
   ·rintro σ' H' ⟨v2,ws2,t2,e,b1,b2,b3,b4,b5⟩;exact⟨aS.length,Ud _,v2,ws2,aS,t2,e,b1,b2,b3,b4,b5,rfl⟩
   refine⟨_,rfl,.inl ⟨rfl,_,SqL.of M3⟩,ao,_,.ref ax,rfl,rfl,M3,qaj us (.ref ax),?_⟩;rw[Yq];have x1:zI H1 (upd H1 ao (.lst us)):=zI.updL M3;refine⟨_,rfl,λ x dx hx R6 ne=>⟨c.not,x,dx,_,rfl,qe,C.not,C.aNot,rfl,?_⟩⟩;have k2:=((((qi.refl (upd H1 ao (.lst us))).at R6 (o:=.own x)).at ((qi.refl _).free hx) (o:=.ins c.not dx [])).at ((qi.refl _).free hx) (o:=.ins c.not dx [("one",v')]));refine⟨.ref x,us,.neg t',rfl,(g1.upd (o:=.lst us)).trans (zv k2),k2 _ _ qe,fu.monoX (x1.trans (kU k2)),⟨x,dx,v',rfl,qe,gT.monoX (x1.trans (kU k2))⟩,ew⟩
  ·rw[Vz h126] at ew;rw[Jh h126];refine zN ?_;exact⟨_,rfl,q v' _ H1 g1 M3 (by rw[<- ew];exact fm1) (by rw[<- ew];exact gT)⟩
def qoK(c:CA):Sp:=λ vs H Q _=>∃(ao:Addr)(v:V)(ws:List V)(s:PSt),vs=[.ref ao,v]/\H ao=some (.lst ws)/\FrmI c H ws s.1/\qaz c H s.2 v/\∀ H',qi H H'->Q (vS (yM s)) H'
theorem qpy:("01":Str)=qk [48,49]:=by decide +kernel
theorem qmN:("~(":Str)=qk [126,40]:=by decide +kernel
theorem qoL(F:Fun K "signs_behind" "signs_behind" jk f fd)(T:Txt mg)(nS:mg "LETTERS"=some (.str "abcpqrxyz" t1))(nR:mg "OPENING"=some (.str "~(" t2))(nV:mg "BETWEEN"=some (.str "&|+" t3)):FnOk P w K mg base CX0 1 f fd ["opened","ended"] (qoK c):=by
 refine F.okd qoF (λ cdv A outer s H vs Q E hr h=>?_);obtain⟨ao,v,ws,s,rfl,ho,fm,ea,q⟩:=h;refine⟨_,(qc (qY (qt qgC (pv 1) vF (qB _)) (qd (ql (qr qN (qr qN qm (zX (v:=.str "abcpqrxyz") (by rfl) nS ⟨_,rfl⟩)) (zX (v:=.str "~(") (by rfl) nR ⟨_,rfl⟩)))) qC)
  (qc (qY (qt zq (qv qz (by rfl) T.len J0 (qa (pv 0) qb)) qg (qB _)) (qd (ql qm)) qC)
  (qd (ql (qfk (qt zq (qZ zl (qZ zz (pv 0) (qa5 jU qg) (λ _ _=>rfl)) qg (λ _ _=>rfl)) qm (qB _)) (zX (v:=.str "&|+") (by rfl) nV ⟨_,rfl⟩) qm))))),?_⟩
 rw[qpy,qgc,qmN,qnz,qox,qdw,qal];obtain⟨fs,e⟩:=s;refine⟨_,rfl,rfl,_,rfl,?_⟩;rw[ea.non];cases e with
 |none =>
  refine qaD ?_;refine⟨_,_,rfl,rfl,qE (by show 2+9<=_;decide),_,_,rfl,rfl,qE (by show 11+2<=_;decide),?_⟩;exact q H (qi.refl H)
 |some r =>
  refine zN ?_;refine⟨_,rfl,ao,_,rfl,.inl (SqL.of ho),rfl,_,rfl,?_⟩;cases fs with
  |nil =>
   have e:=fm.empty;subst e;refine qaD ?_;exact q H (qi.refl H)
  |cons fr fs =>
   obtain⟨us,x,rfl,fu,kx⟩:=fm.top;obtain⟨ax,vx,rfl,dY,ke⟩:=kx;refine qpx (by rw[Zb,XR];simp;omega) ?_;refine⟨_,rfl,_,rfl,ao,_,_,_,rfl,rfl,SqL.of ho,vL us (.ref ax),ax,_,_,vS [fr.1],rfl,rfl,SqT.of dY,rfl,rfl,_,rfl,?_⟩;have ee:decide (vS [fr.1]=vS [40])=decide (fr.1=40):=by
    by_cases h:fr.1=40
    ·rw[h];simp
    ·rw[Jh h,Jh λ e=>h (by have:=qgR e;simpa using this)]
   rw[show decide (vS [fr.1]=V.str (qk [40]))=decide (fr.1=40) from ee];have el:yM (fr::fs,some r)=if fr.1=40 then [38,124,43] else [41]:=rfl
   by_cases h:fr.1=40
   ·rw[J4 h];rw[el,Vy h] at q;exact qaD (q H (qi.refl H))
   ·rw[Jh h];rw[el,Vz h] at q;exact zN (q H (qi.refl H))
def qoM(c:CA):Sp:=λ vs H Q _=>∃(ao:Addr)(v:V)(z:Nat)(ws:List V)(s:PSt),vs=[.ref ao,v,vS [z]]/\H ao=some (.lst ws)/\FrmI c H ws s.1/\qaz c H s.2 v/\Wfs s/\z∈yM s/\ws.length<=10000/\∀ v' R3 H',But ao H H'->H' ao=some (.lst R3)->FrmI c H' R3 (stp s z).1->qaz c H' (stp s z).2 v'->Q v' H'
theorem qoN(F:Fun K "taken" "taken" qe0 f fd)(nR:mg "OPENING"=some (.str "~(" t2))(nV:mg "BETWEEN"=some (.str "&|+" t3))(Gw:Dp P w K mg base 3 fw fdw ["opened","saying"] (qoI c) "with_nots")(Gp:Dp P w K mg base 3 fp wD ["sign","one","other"] (qoC c) "pair_of")(Gs:Dp P w K mg base 3 fs_ wC ["sign"] (qoB c) "single_of"):FnOk P w K mg base CX0 4 f fd ["opened","ended","sign"] (qoM c):=by
 refine F.okd qmM (λ cdv A outer s H vs Q E hr h=>?_);obtain⟨ao,v,z,ws,s,rfl,ho,fm,ea,wf,hl,l4,q⟩:=h;have mI:Room 3 _:=hr.mono (by decide);refine⟨_,(qc (qY (qt jN (pv 2) (zX (v:=.str "~(") (by rfl) nR ⟨_,rfl⟩) rfl) (qc (yt (yW X9 Xy Xz yb (pv 0) (qa (zM (qa (pv 2) (qa vF qb))) qb)))
  (qd (ql vF))) qC)
  (qc (qY (qt jN (pv 2) (zX (v:=.str "&|+") (by rfl) nV ⟨_,rfl⟩) rfl) (qc (qcD (zM (qa (pv 2) (qa (pv 1) qb))) (qew (pv 0) (qa5 jU qg) qa9))
  (qd (ql vF))) qC)
  (qc (qY (qt zq (pv 2) qm (qB _)) (qc (qx (i:=3) qmM.nd rfl (Or.inl rfl) (qcN X9 Yc Yd qeD (pv 0)))
  (qd (ql (zd Gw mI (qa (pv 0) (qa (zd Gp mI (qa (qZ zl (pv 3) qg (λ _ _=>rfl)) (qa (qZ zl (pv 3) qg (λ _ _=>rfl)) (qa (pv 1) qb)))) qb)))))) qC)
  (qd (ql (zd Gw mI (qa (pv 0) (qa (zd Gs mI (qa (pv 2) qb)) qb)))))))),?_⟩
 rw[qmN,qox,qal];refine⟨_,rfl,_,_,rfl,rfl,_,rfl,?_⟩;by_cases h1:z∈[126,40]
 ·rw[J4 h1];refine qaD ?_;rw[stp,Vy h1] at q;refine⟨_,rfl,.inl ⟨rfl,_,SqL.of ho⟩,_,rfl,qE (by show 2<=_;decide),λ p hp=>?_⟩;have K8:upd H p (.tup [vS [z],.non]) ao=some (.lst ws):=(qi.up hp) _ _ ho;refine⟨ao,ws,_,rfl,rfl,K8,zb (by omega),?_⟩;have x1:zI H (upd (upd H p (.tup [vS [z],.non])) ao (.lst (ws++[.ref p]))):=(kU (qi.up hp)).trans (zI.updL K8);refine q .non _ _ ((zv (qi.up hp)).upd) qe ((fm.monoX x1).snoc ⟨p,.non,rfl,?_,rfl⟩) rfl;exact zI.updL K8 _ _ qe (λ _ z=>nomatch z)
 rw[Jh h1];refine zN ?_;refine⟨_,rfl,_,_,rfl,rfl,_,rfl,?_⟩;by_cases h2:z∈[38,124,43]
 ·rw[J4 h2];refine qaD ?_;obtain⟨fr,fs,r,rfl⟩:=qgm h2 hl;rw[stp,Vz h1,Vy h2] at q;obtain⟨us,x,rfl,fu,kx⟩:=fm.top;refine⟨_,rfl,_,rfl,qE (by show 2<=_;decide),λ p hp=>?_⟩;have K8:upd H p (.tup [vS [z],v]) ao=some (.lst (us++[x])):=(qi.up hp) _ _ ho;refine⟨_,rfl,1,rfl,ao,_,_,us.length,rfl,rfl,K8,by rw[Zb,XR];exact qby _,?_⟩;have es:(us++[x]).set us.length (.ref p)=us++[.ref p]:=by simp
  rw[es];have x1:zI H (upd (upd H p (.tup [vS [z],v])) ao (.lst (us++[.ref p]))):=(kU (qi.up hp)).trans (zI.updL K8);refine q .non _ _ ((zv (qi.up hp)).upd) qe ((fu.monoX x1).snoc ⟨p,v,rfl,?_,ea.monoX x1⟩) rfl;exact zI.updL K8 _ _ qe (λ _ z=>nomatch z)
 rw[Jh h2];refine zN ?_;refine yh (zt (jF qA (dvA rfl) dC)) at0 (λ hb H1 g1=>?_) (λ hb H1 g1=>?_)
 ·have e:z=41:=by simpa using Ub hb
  subst e;obtain⟨op,l,fs,r,rfl,K8⟩:=qje wf hl;rw[stp,Vz h1,Vz h2,Vy rfl] at q;obtain⟨us,x,rfl,fu,kx⟩:=fm.top;obtain⟨ax,vx,rfl,dY,ke⟩:=kx;have M3:=g1 _ _ ho;refine⟨_,rfl,.inl ⟨rfl,_,SqL.of M3⟩,ao,_,.ref ax,rfl,rfl,M3,qaj us (.ref ax),?_⟩;rw[Yq];have x1:zI H (upd H1 ao (.lst us)):=(kU g1).trans (zI.updL M3);have uC:=x1 _ _ dY (λ _ z=>nomatch z);refine⟨_,rfl,_,rfl,ax,_,_,vS [op],rfl,rfl,SqT.of uC,rfl,_,rfl,ax,_,_,vx,rfl,rfl,SqT.of uC,rfl,_,rfl,op,vx,v,l,r,rfl,K8,qK.monoX x1 ke,qK.monoX x1 ea,λ o H2 g2 ob=>?_⟩;refine⟨ao,o,us,fs,.bin op l r,rfl,g2 _ _ qe,(fu.monoX x1).monoX (kU g2),ob,λ v' R3 H3 b3 e3 f3 o3=>?_⟩;exact q v' R3 H3 ((((zv g1).upd).trans (zv g2)).trans b3) e3 f3 o3
 ·have n41:¬ z=41:=λ e=>by simpa [e] using Zk hb
  rw[stp,Vz h1,Vz h2,Vz n41] at q;refine⟨_,rfl,_,rfl,z,rfl,λ o H2 g2 ob=>?_⟩;have A9:=g1.trans g2;refine⟨ao,o,ws,s.1,jo z,rfl,A9 _ _ ho,fm.monoX (kU A9),ob,λ v' R3 H3 b3 e3 f3 o3=>?_⟩;exact q v' R3 H3 ((zv A9).trans b3) e3 f3 o3
def qoO(c:CA):Sp:=λ vs H Q _=>∃ t:Tr,vs=[vS t.text]/\t.Of zC/\t.wt<=1000/\∀ o H',qi H H'->qK c H' t o->Q o H'
theorem qoP(F:Fun K "read" "read" qg9 f fd)(T:Txt mg)(Gg:Dp P w K mg base 1 fg fdg ["opened","ended"] (qoK c) "signs_behind")(Gt:Dp P w K mg base 4 ft fdt ["opened","ended","sign"] (qoM c) "taken"):FnOk P w K mg base CX0 5 f fd ["text"] (qoO c):=by
 refine F.okd qel (λ cdv A outer s H vs Q E hr h=>?_);obtain⟨t,rfl,of,hw,q⟩:=h;have G4:Room 1 _:=hr.mono (by decide);have hr4:Room 4 _:=hr.mono (by decide);refine⟨_,(qc (qx (i:=1) qel.nd rfl (Or.inl rfl) (zY qb))
  (qc (qx (i:=2) qel.nd rfl (Or.inl rfl) vF)
  (qc (qbs Jf rfl (qdn (by rfl) T.enumerate (qa (pv 0) qb)) (qH (qo (i:=3) qel.nd rfl (Or.inl rfl)) (qH (qo (i:=4) qel.nd rfl (Or.inl rfl)) zL))
  (qc (qY (qt vd (pv 4) (zd Gg G4 (qa (pv 1) (qa (pv 2) qb))) rfl) (qd jg) qC)
   (qd (qx (i:=2) qel.nd rfl (Or.inl rfl) (zd Gt hr4 (qa (pv 1) (qa (pv 2) (qa (pv 4) qb))))))))
   (qc (qY (PW.pt (qcA (qt qgC (pv 2) vF (qB _))
   (qaB (qt qat (qv qz (by rfl) T.len J0 (qa (pv 1) qb)) qg (qB _))))) (qd jg) qC)
   (qd (ql (pv 2))))))),?_⟩
 have tl:=t.text_len;have rw_:=qjd of;have hs:(qk t.text).cps.size=t.text.length:=qw t.text;refine⟨Q6 _,λ ao hao=>?_⟩;refine⟨_,rfl,_,rfl,?_⟩;refine qbS (λ i σ H'=>∃(v:V)(ws:List V)(s:PSt)(v3 v4:Option V),σ=[some (vS t.text),some (.ref ao),some v,v3,v4]/\qi H H'/\H' ao=some (.lst ws)/\FrmI c H' ws s.1/\qaz c H' s.2 v/\run ([],none) (t.text.take i)=some s/\ws.length<=i)
  ⟨.non,[],([],none),none,none,rfl,qi.up hao,qe,.nil,rfl,rfl,Q5 _⟩ ?_ ?_
 ·rintro i σ H1 hi ⟨v,ws,s,v3,v4,rfl,g1,e1,fm,ea,cZ,lw⟩;rw[hs] at hi;rw[yU hi];obtain⟨hl,sZ⟩:=qnD rw_ hi cZ;have wf:=qig qpw cZ;refine⟨_,_,rfl,_,_,rfl,rfl,?_⟩;refine⟨_,rfl,_,rfl,_,rfl,ao,v,ws,s,rfl,e1,fm,ea,λ H2 g2=>?_⟩;refine⟨_,_,rfl,rfl,_,rfl,?_⟩;rw[J4 hl];refine zN ?_;have x2:=kU g2;refine⟨_,rfl,_,rfl,_,rfl,ao,v,_,ws,s,rfl,g2 _ _ e1,fm.monoX x2,ea.monoX x2,wf,hl,by omega,λ v' R3 H3 b3 e3 f3 o3=>?_⟩;have ln:=f3.len;have M8:(stp s t.text[i]).1.length<=i+1:=by have:=qmh s t.text[i];have:=fm.len;omega
  exact⟨v',R3,stp s t.text[i],_,_,rfl,b3.same (g1.trans g2) hao,e3,f3,o3,sZ,by omega⟩
 ·rintro σ H1 ⟨v,ws,s,v3,v4,rfl,g1,e1,fm,ea,cZ,lw⟩;rw[hs,Ul,rw_] at cZ;cases cZ
  have e:=fm.empty;subst e;obtain⟨a,rfl⟩:=qK.ref ea;refine⟨_,rfl,rfl,_,rfl,zN ?_⟩;refine⟨_,rfl,ao,_,rfl,.inl (SqL.of e1),_,_,rfl,rfl,_,rfl,zN ?_⟩;exact⟨_,rfl,q _ H1 g1 ea⟩
end
theorem qkP:FnScope ["text","letters","sign"] ["text","letters"] (qf yr):=scF
theorem qih:FnScope ["wish","letters","halves","left","right"] ["wish","letters"] (qf kJ):=scF
theorem qgn:FnScope ["sides","fault","left","right"] ["sides"] (qf qaS):=scF
def qmO:Sp:=λ vs H Q _=>∃ x ls:List Nat,vs=[vS x,vS ls]/\(∀ c∈x,c∈zC->c∈ls)/\∀ H',qi H H'->Q .non H'
theorem qnE(F:Fun K "refuse_strange" "refuse_strange" yr f fd)(nS:mg "LETTERS"=some (.str "abcpqrxyz" t1)):FnOk P w K mg base CX0 1 f fd ["text","letters"] qmO:=by
 refine F.okd qkP (λ cdv A outer s H vs Q E hr h=>?_);obtain⟨x,ls,rfl,hx,q⟩:=h;refine⟨_,(qd (yn Jf rfl (vT (pv 0)) (qo (i:=2) qkP.nd rfl (Or.inl rfl))
  (qd (qY (PW.pt (qgw (qt jN (pv 2) (zX (v:=.str "abcpqrxyz") (by rfl) nS ⟨_,rfl⟩) rfl) (qev (qt vd (pv 2) (pv 1) rfl)))) (qd jg) qC)))),?_⟩
 rw[qgc];have hs:(qk x).cps.size=x.length:=qw x;refine⟨_,rfl,_,rfl,?_⟩;refine qh1 (λ j σ H'=>∃ v2:Option V,σ=[some (vS x),some (vS ls),v2]/\qi H H') ⟨none,rfl,qi.refl H⟩ ?_ ?_
 ·rintro j σ H1 hj ⟨v2,rfl,g1⟩;rw[hs] at hj;rw[yU hj];refine⟨_,rfl,_,_,rfl,rfl,_,rfl,?_⟩;by_cases h:x[j]∈zC
  ·rw[J4 h];refine qaD ?_;refine⟨_,rfl,_,rfl,_,_,rfl,rfl,_,rfl,?_⟩;rw[J4 (hx _ (Uk hj) h)];exact zN ⟨_,rfl,g1⟩
  ·rw[Jh h];refine zN ?_;exact zN ⟨_,rfl,g1⟩
 ·rintro σ H1 ⟨v2,rfl,g1⟩;exact q H1 g1
theorem zP:∀{t:Tr}{c:Nat},t.Of zC->c∈t.text->¬ c=32/\¬ c=61/\(c∈zC->t.Has c)
 |.letter l,c,h,hc=>by
  have e:c=l:=Zg.mp hc;subst e
  have:=(by decide:∀ c∈zC,¬ c=32/\¬ c=61) c h
  exact⟨this.1,this.2,λ _=>rfl⟩
 |.one,c,_,hc=>by
  have e:c=49:=Zg.mp hc;subst e;exact⟨by decide,by decide,λ h=>absurd h (by decide)⟩
 |.zero,c,_,hc=>by
  have e:c=48:=Zg.mp hc;subst e;exact⟨by decide,by decide,λ h=>absurd h (by decide)⟩
 |.neg t,c,h,hc=>by
  rcases Uy.mp hc with e|e
  ·have e:c=126:=Zg.mp e;subst e;exact⟨by decide,by decide,λ h=>absurd h (by decide)⟩
  ·exact zP (t:=t) h e
 |.bin op t u,c,h,hc=>by
  obtain⟨K8,ht,hu⟩:=h;have hc:c∈[40]++t.text++[op]++u.text++[41]:=hc;rcases Uy.mp hc with hc|e
  ·rcases Uy.mp hc with hc | e
   ·rcases Uy.mp hc with hc | e
    ·rcases Uy.mp hc with e | e
     ·have e:c=40:=Zg.mp e;subst e;exact⟨by decide,by decide,λ h=>absurd h (by decide)⟩
     ·obtain⟨a,b,d⟩:=zP ht e;exact⟨a,b,λ h=>.inl (d h)⟩
    ·have e:c=op:=Zg.mp e;subst e;rcases K8 with rfl|rfl|rfl <;> exact⟨by decide,by decide,λ h=>absurd h (by decide)⟩
   ·obtain⟨a,b,d⟩:=zP hu e;exact⟨a,b,λ h=>.inr (d h)⟩
  ·have e:c=41:=Zg.mp e;subst e;exact⟨by decide,by decide,λ h=>absurd h (by decide)⟩
theorem qii(t:Tr):t.text≠[]:=by cases t <;> simp[Tr.text]
theorem jO:∀ t:Tr,(t.wt:Int)<=t.nodes
 |.letter _=>by show(1:Int)<=1;decide
 |.one=>by show(1:Int)<=1;decide
 |.zero=>by show(1:Int)<=1;decide
 |.neg t=>by have:=jO t;show((t.wt+1:Nat):Int)<=1+t.nodes;omega
 |.bin _ t u=>by have:=jO t;have:=jO u;show((t.wt+u.wt:Nat):Int)<=1+t.nodes+u.nodes;omega
theorem Tr.Of.upL:∀{t:Tr},t.Of ls->(∀ c,c∈ls->c∈us)->t.Of us
 |.letter l,h,g=>g l h
 |.neg t,o,h=>Tr.Of.upL (t:=t) o h
 |.bin _ t u,o,h=>⟨o.1,Tr.Of.upL (t:=t) o.2.1 h,Tr.Of.upL (t:=u) o.2.2 h⟩
 |.one,_,_=>trivial
 |.zero,_,_=>trivial
structure Wsh where 
 i:Nat
 j:Nat
 k:Nat
 l:Nat
 t:Tr
 u:Tr
noncomputable def Wsh.text(x:Wsh):List Nat:=(List.replicate x.i 32++x.t.text++List.replicate x.j 32)++61::(List.replicate x.k 32++x.u.text++List.replicate x.l 32)
structure Wsh.Ok(ls:List Nat)(x:Wsh):Prop where
 bl:x.i<=100/\x.j<=100/\x.k<=100/\x.l<=100
 t:x.t.Of ls
 u:x.u.Of ls
 tn:x.t.nodes<=20
 un:x.u.nodes<=20
def qoQ(c:CA):Sp:=λ vs H Q _=>∃(x:Wsh)(ls:List Nat),vs=[vS x.text,vS ls]/\x.Ok ls/\(∀ c∈ls,c∈zC)/\∀ r a b H',qi H H'->H' r=some (.tup [a,b])->qK c H' x.t a->qK c H' x.u b->Q (.ref r) H'
theorem qoR(F:Fun K "wish_read" "wish_read" kJ f fd)(C:CTxt K c iL iN iP)(sC:mg "MOST_PARTS"=some (.int 20 tp))(Mt:MTxt K c "text" nA mW mX mV mZ mU mY)(Vt:VOk P w K mg base zS c 21 kD kR kE nA mW mX mV mZ mU mY pI pC pD pB pH oZ pE)(Ms:MTxt K c "size" uS uQ uR uP eQ eQ eQ)(Vs:VOk P w K mg base vSz c 21 kP kP kP uS uQ uR uP eQ eQ eQ dsA dsN dsL dsO rJ rJ rJ)(lI:qh K pI ["self"] [])(lC:qh K pC ["self"] [])(lD:qh K pD ["self"] [])(lB:qh K pB ["self"] [])(lH:qh K pH ["self"] [])(lA:qh K oZ ["self"] [])(lE:qh K pE ["self"] [])(wS:qh K dsA ["self"] [])(wQ:qh K dsN ["self"] [])(wR:qh K dsL ["self"] [])(wP:qh K dsO ["self"] [])(rK:qh K rJ ["self"] [])(Gr:Dp P w K mg base 5 fr fdr ["text"] (qoO c) "read")(Gf:Dp P w K mg base 1 ff fdf ["text","letters"] qmO "refuse_strange"):
  FnOk P w K mg base CX0 22 f fd ["wish","letters"] (qoQ c):=by
 refine F.okd qih (λ cdv A outer s H vs Q E hr h=>?_);obtain⟨x,ls,rfl,ok,l9,q⟩:=h;have G4:Room 1 _:=hr.mono (by decide);have hr5:Room 5 _:=hr.mono (by decide);have V6:Room 21 _:=hr.mono (by decide);have bsD:=rK;have bsR:=rK;have bsE:=rK;refine⟨_,(qc (qY (qt vd qm (pv 0) rfl) (qd jg) qC)
  (qc (qx (i:=2) qih.nd rfl (Or.inl rfl) (yW XI PySem.F.slot_str_partition PySem.F.type_str_partition qlX (pv 0) (qa qm qb)))
  (qc (qx (i:=3) qih.nd rfl (Or.inl rfl) (zd Gr hr5 (qa (yW XI PySem.F.slot_str_strip PySem.F.type_str_strip qf3 (qZ zl (pv 2) qg (λ _ _=>rfl)) (qa qm qb)) qb)))
  (qc (qx (i:=4) qih.nd rfl (Or.inl rfl) (zd Gr hr5 (qa (yW XI PySem.F.slot_str_strip PySem.F.type_str_strip qf3 (qZ zl (pv 2) qg (λ _ _=>rfl)) (qa qm qb)) qb)))
  (qc (qY (PW.pt (qcA (qt qat (qas (pv 3) C Ms Vs V6 wS wQ wR wP bsD bsR bsE) (zX (v:=.int 20) (by rfl) sC ⟨_,rfl⟩) (qB _))
   (qaB (qt qat (qas (pv 4) C Ms Vs V6 wS wQ wR wP bsD bsR bsE) (zX (v:=.int 20) (by rfl) sC ⟨_,rfl⟩) (qB _))))) (qd jg) qC)
  (qc (yt (zd Gf G4 (qa (qr qN (qas (pv 3) C Mt Vt V6 lI lC lD lB lH lA lE) (qas (pv 4) C Mt Vt V6 lI lC lD lB lH lA lE)) (qa (pv 1) qb))))
  (qd (ql (zM (qa (pv 3) (qa (pv 4) qb))))))))))),?_⟩
 rw[show("=":Str)=qk [61] by decide +kernel,show(" ":Str)=qk [32] by decide +kernel];obtain⟨i,j,k,l,t,u⟩:=x;obtain⟨⟨bi,bj,bk,bl⟩,ot,ou,tn,un⟩:=ok;have bi:i<=100:=bi;have bj:j<=100:=bj;have bk:k<=100:=bk;have bl:l<=100:=bl;have ot:t.Of ls:=ot;have ou:u.Of ls:=ou;have pQ:=ot.upL l9;have rV:=ou.upL l9;have wt1:=jO t;have wt2:=jO u;have tn:t.nodes<=20:=tn;have un:u.nodes<=20:=un;have lt1:=t.text_len;have lt2:=u.text_len;have ht1:=t.ht_wt;have ht2:=u.ht_wt;have hw1:t.wt<=20:=by omega
 have hw2:u.wt<=20:=by omega
 have nt:61∉List.replicate i 32++t.text++List.replicate j 32:=λ h=>by
  rcases Uy.mp h with h|h
  ·rcases Uy.mp h with h | h
   ·exact absurd (List.eq_of_mem_replicate h) (by decide)
   ·exact(zP pQ h).2.1 rfl
  ·exact absurd (List.eq_of_mem_replicate h) (by decide)
 refine⟨_,rfl,_,_,rfl,rfl,_,rfl,?_⟩;rw[J4 (show 61∈Wsh.text ⟨i,j,k,l,t,u⟩ from XN _ (Y9 ..))];refine zN ?_;refine⟨_,rfl,rfl,_,_,_,rfl,rfl,nt,by simp only[Zb,XO];omega,λ p hp=>?_⟩;have g1:=qi.up hp (o:=.tup [vS (List.replicate i 32++t.text++List.replicate j 32),vS [61],vS (List.replicate k 32++u.text++List.replicate l 32)]);have e1:upd H p (.tup [vS (List.replicate i 32++t.text++List.replicate j 32),vS [61],vS (List.replicate k 32++u.text++List.replicate l 32)]) p=some (.tup [vS (List.replicate i 32++t.text++List.replicate j 32),vS [61],vS (List.replicate k 32++u.text++List.replicate l 32)]):=qe;generalize upd H p (.tup [vS (List.replicate i 32++t.text++List.replicate j 32),vS [61],vS (List.replicate k 32++u.text++List.replicate l 32)])=H1 at g1 e1;refine⟨_,rfl,p,_,_,_,rfl,rfl,SqT.of e1,rfl,rfl,i,j,t.text,rfl,rfl,qii t,λ h=>(zP pQ h).1 rfl,by omega,t,rfl,pQ,by omega,λ a H2 g2 gT=>?_⟩;refine⟨_,rfl,p,_,_,_,rfl,rfl,SqT.of (g2 _ _ e1),rfl,rfl,k,l,u.text,rfl,rfl,qii u,λ h=>(zP rV h).1 rfl,by omega,u,rfl,rV,by omega,λ b H3 g3 ob2=>?_⟩;have gT:=gT.mono g3;refine dV (f:=vSz) (n:=21) (κd:=kP) (κr:=kP) (κe:=kP) (λ _ _=>⟨rfl,rfl,rfl⟩) (λ _ _=>⟨_,_,_,rfl⟩) (λ _ _=>⟨_,_,_,rfl⟩) (λ _ _=>⟨_,_,_,rfl⟩) (dvA rfl) gT (by omega) (by omega) pQ _ _ _ at0 λ H4 g4=>?_
 refine⟨_,_,rfl,rfl,_,rfl,?_⟩;rw[Jh (show ¬ (20:Int)<t.nodes by omega)];refine zN ?_;refine dV (f:=vSz) (n:=21) (κd:=kP) (κr:=kP) (κe:=kP) (λ _ _=>⟨rfl,rfl,rfl⟩) (λ _ _=>⟨_,_,_,rfl⟩) (λ _ _=>⟨_,_,_,rfl⟩) (λ _ _=>⟨_,_,_,rfl⟩) (dvA rfl) (ob2.mono g4) (by omega) (by omega) rV _ _ _ at0 λ H5 g5=>?_
 refine⟨_,_,rfl,rfl,_,rfl,?_⟩;rw[Jh (show ¬ (20:Int)<u.nodes by omega)];refine zN ?_;have oR:=g4.trans g5;refine(jm qA (dV (f:=zS) (n:=21) (κd:=kD) (κr:=kR) (κe:=kE) (λ _ _=>⟨rfl,rfl,rfl⟩) (λ _ _=>⟨_,_,rfl⟩) (λ _ _=>⟨_,_,rfl⟩) (λ _ _=>⟨_,_,rfl⟩) (dvA rfl) (gT.mono oR) (by omega) (by omega) pQ)
  (dV (f:=zS) (n:=21) (κd:=kD) (κr:=kR) (κe:=kE) (λ _ _=>⟨rfl,rfl,rfl⟩) (λ _ _=>⟨_,_,rfl⟩) (λ _ _=>⟨_,_,rfl⟩) (λ _ _=>⟨_,_,rfl⟩) (dvA rfl) (ob2.mono oR) (by omega) (by omega) rV) (by omega)) _ _ _ at0 λ H6 g6=>?_
 refine⟨_,rfl,_,ls,rfl,λ z hz hn=>?_,λ H7 g7=>?_⟩
 ·rcases Uy.mp hz with h | h
  ·exact Tr.Of.has ot ((zP pQ h).2.2 hn)
  ·exact Tr.Of.has ou ((zP rV h).2.2 hn)
 have g37:=(oR.trans g6).trans g7;refine⟨_,rfl,_,rfl,qE (by show 2<=_;decide),λ r O4=>?_⟩;have g38:=g37.to O4 (o:=.tup [a,b]);exact q r a b _ (((g1.trans g2).trans g3).trans g38) qe (gT.mono g38) (ob2.mono g38)
noncomputable def qU(R8:List (List Pr×List Pr)):List Pr:=R8.foldl (λ c7 fg=>join c7 (added fg.1 fg.2)) []
theorem qcd(R8:List (List Pr×List Pr))(x:List Pr×List Pr):qU (R8++[x])=join (qU R8) (added x.1 x.2):=by unfold qU;rw[List.foldl_append];rfl
theorem qb0:∀(R8:List (List Pr×List Pr)),(∀ x∈R8,On ls x.1/\On ls x.2)->On ls (qU R8):=by
 intro R8 h;have key:∀(l:List (List Pr×List Pr))(c7:List Pr),On ls c7->(∀ x∈l,On ls x.1/\On ls x.2)->On ls (l.foldl (λ c7 fg=>join c7 (added fg.1 fg.2)) c7):=by
  intro l;induction l with
  |nil=>intro c7 ha _;exact ha
  |cons x l ih =>
   intro c7 ha hl;have hx:=hl x (Y9 ..);exact ih _ (ha.join (hx.1.added hx.2)) λ y hy=>hl y (Yf _ hy)
 exact key R8 [] (On.nil ls) h
def yj(H:Hp)(p:Addr)(fg:List Pr×List Pr):Prop:=∃ x y:Addr,H p=some (.tup [.ref x,.ref y])/\H x=some (.tup (fg.1.map vS))/\H y=some (.tup (fg.2.map vS))
theorem yj.mono(h:yj H p fg)(g:qi H H'):yj H' p fg:=let ⟨x,y,a,b,c⟩:=h;⟨x,y,g _ _ a,g _ _ b,g _ _ c⟩
def qoS(K:W.Frag):Sp:=λ vs H Q _=>∃(a:Addr)(ps:List Addr)(R8:List (List Pr×List Pr))(ls:List Nat),vs=[.ref a]/\H a=some (.lst (ps.map V.ref))/\Paired (yj H) ps R8/\ls.Pairwise (·<·)/\ls.length<=6/\(∀ x∈R8,On ls x.1/\On ls x.2)/\∀ r H',qi H H'->H' r=some (.tup ((qU R8).map vS))->Q (.ref r) H'
theorem qmP(h:On ls F)(hl:ls.Pairwise (·<·))(l6:ls.length<=6):F.flatten.length<=192:=by
 have h1:=h.flat2 hl
 have:=qnA ls.length l6
 omega
theorem qoT(F:Fun K "fault_of" "fault_of" qaS f fd)(Ga:Dp P w K mg base 1 fa wE ["one","other"] (qhd K added) "added")(Gj:Dp P w K mg base 13 fj fdj ["one","other"] (sp2 K join) "joined"):FnOk P w K mg base CX0 14 f fd ["sides"] (qoS K):=by
 refine F.okd qgn (λ cdv A outer s H vs Q E hr h=>?_);obtain⟨a,ps,R8,ls,rfl,ha,pr,rl,l6,hon,q⟩:=h;have G4:Room 1 _:=hr.mono (by decide);have G7:Room 13 _:=hr.mono (by decide);have o9:Ok9 ls:=⟨rl,by omega⟩;refine⟨_,(qc (qx (i:=1) qgn.nd rfl (Or.inl rfl) (zM qb))
  (qc (yn Jf rfl (zF (pv 0)) (qcC (n:=2) rfl (qH (qo (i:=2) qgn.nd rfl (Or.inl rfl)) (qH (qo (i:=3) qgn.nd rfl (Or.inl rfl)) zL)))
  (qd (qx (i:=1) qgn.nd rfl (Or.inl rfl) (zd Gj G7 (qa (pv 1) (qa (zd Ga G4 (qa (pv 2) (qa (pv 3) qb))) qb))))))
  (qd (ql (pv 1))))),?_⟩
 refine⟨Q6 _,λ f0 hf0=>?_⟩;refine⟨_,rfl,a,rfl,⟨_,SqL.of ((qi.up hf0) _ _ ha)⟩,?_⟩;refine vI (K:=K) (xs:=ps.map V.ref) (λ i σ H'=>∃(r:Addr)(v2 v3:Option V),σ=[some (.ref a),some (.ref r),v2,v3]/\qi H H'/\H' r=some (.tup ((qU (R8.take i)).map vS))) ⟨f0,none,none,rfl,qi.up hf0,qe⟩ (λ i σ H' _ ⟨_,_,_,_,g,_⟩=>SqL.of (g _ _ ha)) ?_ ?_
 ·rintro i x σ H1 hx ⟨r,v2,v3,rfl,g1,e1⟩;obtain⟨p,hp,rfl⟩:=qj hx;obtain⟨fg,tT,sd⟩:=qS pr i p hp;obtain⟨x,y,s1,s2,s3⟩:=sd.mono g1;obtain⟨o1,o2⟩:=hon fg (Yh tT);have oT:On ls (qU (R8.take i)):=qb0 _ λ x hx=>hon x (Ym hx)
  refine⟨p,_,rfl,SqT.of s1,rfl,_,_,rfl,_,_,rfl,rfl,?_⟩;refine⟨_,rfl,_,rfl,_,rfl,x,y,fg.1,fg.2,ls,rfl,SqT.of s2,SqT.of s3,o9,o1,o2,λ r2 H2 g2 e2=>?_⟩;refine⟨r,r2,qU (R8.take i),added fg.1 fg.2,ls,rfl,SqT.of (g2 _ _ e1),SqT.of e2,o9,oT,o1.added o2,?_,λ r3 H3 g3 e3=>?_⟩
  ·have a1:=qmP oT rl l6;have a2:=qmP (o1.added o2) rl l6;omega
  exact⟨r3,_,_,rfl,(g1.trans g2).trans g3,by rw[q0 tT,qcd];exact e3⟩
 ·rintro σ H1 ⟨r,v2,v3,rfl,g1,e1⟩;rw[U0,show ps.length=R8.length from Y1 pr,Ul] at e1;exact⟨_,rfl,q r H1 g1 e1⟩
def qij:Sp:=λ vs H Q _=>∃(p ls:List Nat),vs=[vS p,vS ls]/\ls.length<=9/\p.length<=9/\p.Sublist ls/\ls.Pairwise (·<·)/\∀ H',qi H H'->Q (.bl true) H'
theorem qik:FnScope ["self","givens","gaps","wishes","pairs"] ["self","givens","gaps","wishes"] (qf kF):=scF
structure NotC(c:CA)(X:Addr):Prop where
 a:X≠c.always
 n:X≠c.never
 l:X≠c.letter
 o:X≠c.not
 d:X≠c.and
 r:X≠c.or
 e:X≠c.either
theorem NotC.bin(h:NotC c X)(op:Nat):X≠c.bin op:=by
 unfold CA.bin;split
 ·exact h.d
 ·split
  ·exact h.r
  ·exact h.e
theorem qdz{H:Hp}(h:H x=some (.ins X dx fs))(g:H a=some (.ins C dy gs))(n:X≠C):a≠x:=λ e=>by rw[e,h] at g;cases g;exact n rfl
theorem qK.but(n:NotC c X)(h:H x=some (.ins X dx fs))(g:But x H H'):∀{t:Tr}{v:V},qK c H t v->qK c H' t v
 |.letter _,_,⟨a,dx,e,k⟩=>⟨a,dx,e,g _ _ (qdz h k n.l) k⟩
 |.one,_,⟨a,dx,e,k⟩=>⟨a,dx,e,g _ _ (qdz h k n.a) k⟩
 |.zero,_,⟨a,dx,e,k⟩=>⟨a,dx,e,g _ _ (qdz h k n.n) k⟩
 |.neg t,_,⟨a,dx,y,e,k,r⟩=>⟨a,dx,y,e,g _ _ (qdz h k n.o) k,qK.but n h g r⟩
 |.bin op t u,_,⟨a,dx,y,z,e,k,r,r'⟩=>⟨a,dx,y,z,e,g _ _ (qdz h k (n.bin op)) k,qK.but n h g r,qK.but n h g r'⟩
def jG(c:CA)(H:Hp)(p:Addr)(x:Wsh):Prop:=∃ a b:V,H p=some (.tup [a,b])/\qK c H x.t a/\qK c H x.u b
theorem jG.mono(h:jG c H p x)(g:qi H H'):jG c H' p x:=let ⟨a,b,e,o1,o2⟩:=h;⟨a,b,g _ _ e,o1.mono g,o2.mono g⟩
theorem jG.but(n:NotC c X)(hx:H x=some (.ins X dx fs))(g:But x H H')(h:jG c H p y):jG c H' p y:=
 let ⟨a,b,e,o1,o2⟩:=h;⟨a,b,g _ _ (λ q=>by rw[q,hx] at e;cases e) e,qK.but n hx g o1,qK.but n hx g o2⟩
theorem qcv(hx:H x=some (.ins X dx fs))(g:But x H H')(h:H a=some (.tup vs)):H' a=some (.tup vs):=g _ _ (λ q=>by rw[q,hx] at h;cases h) h
theorem vA(hx:H x=some (.ins X dx fs))(g:But x H H')(h:H a=some (.lst vs)):H' a=some (.lst vs):=g _ _ (λ q=>by rw[q,hx] at h;cases h) h
theorem yj.but(hx:H x=some (.ins X dx fs))(g:But x H H')(h:yj H p fg):yj H' p fg:=
 let ⟨a,b,e,o1,o2⟩:=h;⟨a,b,qcv hx g e,qcv hx g o1,qcv hx g o2⟩
noncomputable def Wsh.said(x:Wsh):List Nat:=x.t.text++[32,61,32]++x.u.text
noncomputable def Wsh.side(x:Wsh):List Pr×List Pr:=(x.t.form,x.u.form)
structure TaskAt(CT:Addr)(H:Hp)(o:Addr)(gv gp:List Nat)(ws:List Wsh)(dx a1 a2 a3:Addr)(ps:List Addr):Prop where
 ins:H o=some (.ins CT dx [("given_letters",vS gv),("gap_letters",vS gp),("wish_texts",.ref a1),("side_forms",.ref a2),("fault_form",.ref a3)])
 said:H a1=some (.lst (ws.map λ x=>vS x.said))
 sides:H a2=some (.lst (ps.map V.ref))
 side:Paired (yj H) ps (ws.map Wsh.side)
 fault:H a3=some (.tup ((qU (ws.map Wsh.side)).map vS))
noncomputable def abc:List Nat:=[97,98,99]
noncomputable def xyz:List Nat:=[120,121,122]
theorem qmi:("abc":Str)=qk abc:=by decide +kernel
theorem qmj:("xyz":Str)=qk xyz:=by decide +kernel
theorem jP {gp:List Nat}(h1:gv.Sublist abc)(h2:gp.Sublist xyz):(gv++gp).Pairwise (·<·)/\(gv++gp).length<=6/\∀ c∈gv++gp,c∈zC:=by
 have s:(gv++gp).Sublist (abc++xyz):=h1.append h2;have r:(abc++xyz).Pairwise (·<·):=by decide
 exact⟨r.sublist s,s.length_le,λ c hc=>(by decide:∀ c∈abc++xyz,c∈zC) c (s.subset hc)⟩
def qkQ(K:W.Frag)(CT:Addr):Sp:=λ vs H Q _=>∃(x dx wl:Addr)(gv gp:List Nat)(ws:List Wsh),vs=[.ref x,vS gv,vS gp,.ref wl]/\H x=some (.ins CT dx [])/\SqL K H wl (ws.map λ y=>vS y.text)/\gv.Sublist abc/\gp.Sublist xyz/\ws.length<=6/\(∀ y∈ws,y.Ok (gv++gp))/\∀ a1 a2 a3 ps H',But x H H'->H a1=none->H a2=none->TaskAt CT H' x gv gp ws dx a1 a2 a3 ps->Q .non H'
theorem qmk(F:Fun K "__init__" "Task.__init__" kF f fd)(T:Txt mg)(C:CTxt K c iL iN iP)(cT:Cls K CT)(nc:NotC c CT)(n1:NoAttr K CT "given_letters")(n2:NoAttr K CT "gap_letters")(n3:NoAttr K CT "wish_texts")(n4:NoAttr K CT "side_forms")(n5:NoAttr K CT "fault_form")(mgiv:mg "GIVENS"=some (.str "abc" t1))(mgap:mg "GAPS"=some (.str "xyz" t2))(mmw:mg "MOST_WISHES"=some (.int 6 t3))(Mt:MTxt K c "text" nA mW mX mV mZ mU mY)(Vt:VOk P w K mg base zS c 21 kD kR kE nA mW mX mV mZ mU mY pI pC pD pB pH oZ pE)(Mf:FTxt K c wB uX uY uW wA uV uZ)(Gf:FOk P w K mg base c 21 wB uX uY uW wA uV uZ dfA dfN dfL dfO dfD dfR dfE)(lI:qh K pI ["self"] [])(lC:qh K pC ["self"] [])(lD:qh K pD ["self"] [])(lB:qh K pB ["self"] [])(lH:qh K pH ["self"] [])(lA:qh K oZ ["self"] [])(lE:qh K pE ["self"] [])(xA:qh K dfA ["self"] [])(wW:qh K dfN ["self"] [])(wX:qh K dfL ["self"] [])(wV:qh K dfO ["self"] [])(wZ:qh K dfD ["self"] [])(wU:qh K dfR ["self"] [])(wY:qh K dfE ["self"] [])(GI:Dp P w K mg base 1 fI fdI ["text","letters"] qij "is_row")(GW:Dp P w K mg base 22 fW fdW ["wish","letters"] (qoQ c) "wish_read")(GF:Dp P w K mg base 14 fF fdF ["sides"] (qoS K) "fault_of"):
  FnOk P w K mg base CX0 35 f fd ["self","givens","gaps","wishes"] (qkQ K CT):=by
 refine F.okd qik (λ cdv A outer s H vs Q E hr h=>?_);obtain⟨x,dx,wl,gv,gp,ws,rfl,hx,hw,K7,C9,l6,ok,q⟩:=h;have G4:Room 1 _:=hr.mono (by decide);have hr14:Room 14 _:=hr.mono (by decide);have V6:Room 21 _:=hr.mono (by decide);have hr22:Room 22 _:=hr.mono (by decide);have E8:Room 34 _:=hr.mono (by decide);obtain⟨rl,nX,l9⟩:=jP K7 C9;have bY:=K7.length_le;have R5:=C9.length_le;have la:abc.length=3:=rfl;have lx:xyz.length=3:=rfl;refine⟨_,(qc (qY (PW.pt (qcA (qbL (jf (zd GI G4 (qa (pv 1) (qa (zX (v:=.str "abc") (by rfl) mgiv ⟨_,rfl⟩) qb)))))
   (qaB (qbL (jf (zd GI G4 (qa (pv 2) (qa (zX (v:=.str "xyz") (by rfl) mgap ⟨_,rfl⟩) qb)))))))) (qd jg) qC)
  (qc (qY (qt qat (qv qz (by rfl) T.len J0 (qa (pv 3) qb)) (zX (v:=.int 6) (by rfl) mmw ⟨_,rfl⟩) (qB _)) (qd jg) qC)
  (qc (qh4 (i:=4) qik.nd rfl rfl (csc (NY:=["wish","givens","gaps"]) (o:=1) (caps:=[1,2]) ["givens","gaps"] rfl
    (by intro x hx;rcases Qb.mp hx with e | hx;· rw[e];exact .inl rfl
        rw[Zg.mp hx];exact .inl rfl) (jz rfl rfl rfl (jz rfl rfl rfl yk)) rfl) rfl
    (zF (pv 3)) (λ C0 s H fp pins=>qo (i:=0) (show(["wish","givens","gaps"]:List Str).Nodup by decide +kernel) rfl (Or.inl rfl)) (λ C0 s H fp pins=>ze) (λ C0 s H fp pins=>(zd GW hr22 (qa (pv 0) (qa (qr qN (pv 1) (pv 2)) qb)))))
  (qc (jV (pv 0) (pv 1) rfl)
  (qc (jV (pv 0) (pv 2) rfl)
  (qc (jV (pv 0) (zg (csc (NY:=["left","right"]) (o:=2) (caps:=[]) [] rfl (by simp) yk rfl) rfl
    (zF (pv 4)) (λ C0 s H fp pins=>(show PG _ _ (qls K 2 (qcB (vG 0) (qcB (vG 1) qlr))) from qcC (n:=2) rfl (qH (qo (i:=0) (show(["left","right"]:List Str).Nodup by decide +kernel) rfl (Or.inl rfl) (hf:=Or.inr rfl)) (qH (qo (i:=1) (show(["left","right"]:List Str).Nodup by decide +kernel) rfl (Or.inl rfl) (hf:=Or.inr rfl)) zL)))) (λ C0 s H fp pins=>ze) (λ C0 s H fp pins=>(qr qN (qr qN (qas (pv 0) C Mt Vt V6 lI lC lD lB lH lA lE) qm) (qas (pv 1) C Mt Vt V6 lI lC lD lB lH lA lE)))) rfl)
  (qc (jV (pv 0) (zg (csc (NY:=["left","right"]) (o:=2) (caps:=[]) [] rfl (by simp) yk rfl) rfl
    (zF (pv 4)) (λ C0 s H fp pins=>(show PG _ _ (qls K 2 (qcB (vG 0) (qcB (vG 1) qlr))) from qcC (n:=2) rfl (qH (qo (i:=0) (show(["left","right"]:List Str).Nodup by decide +kernel) rfl (Or.inl rfl) (hf:=Or.inr rfl)) (qH (qo (i:=1) (show(["left","right"]:List Str).Nodup by decide +kernel) rfl (Or.inl rfl) (hf:=Or.inr rfl)) zL)))) (λ C0 s H fp pins=>ze) (λ C0 s H fp pins=>(zM (qa (PE.or (qD (pv 0) C.always Mf.always Gf.always E8 xA .nil qF)
   (PE.or (qD (pv 0) C.never Mf.never Gf.never E8 wW .nil qF)
   (PE.or (qD (pv 0) C.letter Mf.letter Gf.letter E8 wX .nil qF)
   (PE.or (qD (pv 0) C.not Mf.not Gf.not E8 wV .nil qF)
   (PE.or (qD (pv 0) C.and Mf.and Gf.and E8 wZ .nil qF)
   (PE.or (qD (pv 0) C.or Mf.or Gf.or E8 wU .nil qF)
   (qD (pv 0) C.either Mf.either Gf.either E8 wY .nil qF))))))) (qa (PE.or (qD (pv 1) C.always Mf.always Gf.always E8 xA .nil qF)
   (PE.or (qD (pv 1) C.never Mf.never Gf.never E8 wW .nil qF)
   (PE.or (qD (pv 1) C.letter Mf.letter Gf.letter E8 wX .nil qF)
   (PE.or (qD (pv 1) C.not Mf.not Gf.not E8 wV .nil qF)
   (PE.or (qD (pv 1) C.and Mf.and Gf.and E8 wZ .nil qF)
   (PE.or (qD (pv 1) C.or Mf.or Gf.or E8 wU .nil qF)
   (qD (pv 1) C.either Mf.either Gf.either E8 wY .nil qF))))))) qb))))) rfl)
  (qd (jV (pv 0) (zd GF hr14 (qa (zf (pv 0) (by rfl)) qb)) rfl))))))))),?_⟩
 rw[qmi,qmj,show(" = ":Str)=qk [32,61,32] by decide +kernel];refine⟨_,rfl,gv,abc,rfl,by decide,by omega,K7,by decide,λ H1 g1=>⟨true,rfl,zN ?_⟩⟩;refine⟨_,rfl,gp,xyz,rfl,by decide,by omega,C9,by decide,λ H2 g2=>⟨true,rfl,zN ?_⟩⟩;have A9:=g1.trans g2;refine⟨_,rfl,wl,_,rfl,.inl (A9.seq hw),_,_,rfl,rfl,_,rfl,?_⟩;rw[U0,Jh (show ¬ (6:Int)<(ws.length:Int) by omega)];refine zN ?_;refine⟨_,rfl,wl,rfl,⟨_,A9.seq hw⟩,?_⟩;refine yL (ws.map λ y=>vS y.text).length (λ i ys H'=>∃ ps:List Addr,ys=ps.map V.ref/\Paired (jG c H') ps (ws.take i)) (λ D hD=>⟨[],rfl,.nil⟩) ?_ ?_ (λ H' sm=>⟨_,(A9.trans sm).seq hw,Q5 _⟩) ?_
 ·rintro i ys H' hi ⟨ps,rfl,hp⟩
  have:=hp.length
  rw[Ue] at this;rw[U0];exact zb (by omega)
 ·rintro i ys H' D Y Z hi hD W1 sm ⟨ps,rfl,hp⟩ hY hZ;rw[U0] at hi;refine⟨⟨_,_,(A9.trans sm).seq hw,Xv (by rw[U0];exact hi)⟩,?_⟩;rintro v rL ⟨rfl,hv⟩;have ev:=hv _ ((A9.trans sm).seq hw);obtain⟨y,hy,rfl⟩:=qj ev;refine⟨⟨rfl,rfl⟩,?_⟩;refine⟨_,rfl,_,rfl,_,rfl,_,_,rfl,rfl,by rw[qw,qw];exact qE (by omega),?_⟩;rw[yo];refine⟨y,gv++gp,rfl,ok y (Yh hy),l9,λ r a b H3 g3 e3 o1 o2=>?_⟩;refine hY _ _ (g3 _ _ W1) (sm.trans g3) ⟨ps++[r],by rw[U7];rfl,?_⟩;have eD:=g3 _ _ W1;have gX:zI H3 (upd H3 D (.lst (ps.map V.ref++[.ref r]))):=zI.updL eD;rw[q0 hy];refine qX (qR (λ p z hz=>?_) hp) (.cons ⟨a,b,gX _ _ e3 (λ _ z=>nomatch z),qK.monoX gX o1,qK.monoX gX o2⟩ .nil);obtain⟨a',b',k1,k2,k3⟩:=hz.mono g3;exact⟨a',b',gX _ _ k1 (λ _ z=>nomatch z),qK.monoX gX k2,qK.monoX gX k3⟩
 rintro D H3 ys hD sm M5 ⟨ps,rfl,iI⟩;rw[U0,Ul] at iI;have g3:=A9.trans sm;have iA:=g3 _ _ hx;have pS:ps.length=ws.length:=iI.length;have uJ:H3 D=some (.lst (ps.map V.ref)):=M5;refine⟨_,rfl,_,rfl,x,CT,dx,[],rfl,iA,cT,n1,by decide,?_⟩;refine⟨_,rfl,_,rfl,x,CT,dx,_,rfl,qe,cT,n2,by show 1<1000;decide,?_⟩;obtain⟨H5,iU⟩:∃ H5,H5=upd (upd H3 x (.ins CT dx [("given_letters",vS gv)])) x (.ins CT dx [("given_letters",vS gv),("gap_letters",vS gp)]):=⟨_,rfl⟩;have b5:But x H3 H5:=by rw[iU];exact((But.refl x H3).upd).upd
 have hx5:H5 x=some (.ins CT dx [("given_letters",vS gv),("gap_letters",vS gp)]):=by rw[iU];exact qe
 have hD5:=vA iA b5 uJ;have hp5:=qR (λ p y h=>jG.but nc iA b5 h) iI;have go5:∀ G:Hp->Prop,G H5->G (upd (upd H3 x (.ins CT dx [("given_letters",vS gv)])) x (.ins CT dx [("given_letters",vS gv),("gap_letters",vS gp)])):=λ G h=>iU ▸ h
 refine go5 _ ?_;have pO:∀ y∈ws,∀ t,(t=y.t∨t=y.u)->t.Of (gv++gp)/\t.Of zC/\t.wt<=20/\t.ht<=21/\Szd t:=λ y hy t ht=>by
  have oy:=ok y hy;have h1:t.Of (gv++gp):=by rcases ht with rfl|rfl;exact oy.t;exact oy.u
  have h2:t.nodes<=20:=by rcases ht with rfl|rfl;exact oy.tn;exact oy.un
  have h3:=jO t;have h4:t.wt<=20:=by omega
  have h5:=h1.upL l9;exact⟨h1,h5,h4,by have:=t.ht_wt;omega,h5,.inl (Qq (jJ (q9 Qa t.lets_rise) λ c hc=>Tr.Of.has h1 (t.mem_lets.mp hc)) nX)⟩
 refine⟨_,rfl,D,rfl,⟨_,SqL.of hD5⟩,?_⟩;refine vX (SqL.of hD5) (λ i=>(ws.take i).map λ y=>vS y.said) rfl (λ i hi=>?_) ?_ ?_
 ·rw[U0,Ue];exact zb (by omega)
 ·intro i v H' D2 Y Z hv iV W1 bW hY hZ;obtain⟨p,hp,rfl⟩:=qj hv;obtain⟨y,hy,pr⟩:=qS hp5 i p hp;obtain⟨a,b,e1,o1,o2⟩:=pr.mono bW;obtain⟨_,t9,tw,th,_⟩:=pO y (Yh hy) y.t (.inl rfl);obtain⟨_,u9,uw,uh,_⟩:=pO y (Yh hy) y.u (.inr rfl);have lt:=y.t.text_len;have lu:=y.u.text_len;refine⟨p,_,rfl,SqT.of e1,rfl,_,_,rfl,_,_,rfl,rfl,⟨rfl,rfl⟩,?_⟩;refine(jm qA (jm qA (dV (f:=zS) (n:=21) (κd:=kD) (κr:=kR) (κe:=kE) (λ _ _=>⟨rfl,rfl,rfl⟩) (λ _ _=>⟨_,_,rfl⟩) (λ _ _=>⟨_,_,rfl⟩) (λ _ _=>⟨_,_,rfl⟩) (dvA rfl) o1 th (by omega) t9) dC (by show _+3<=_;omega))
   (dV (f:=zS) (n:=21) (κd:=kD) (κr:=kR) (κe:=kE) (λ _ _=>⟨rfl,rfl,rfl⟩) (λ _ _=>⟨_,_,rfl⟩) (λ _ _=>⟨_,_,rfl⟩) (λ _ _=>⟨_,_,rfl⟩) (dvA rfl) o2 uh (by omega) u9) (by rw[Zb];show _+3+_<=_;omega)) _ _ _ at0 λ rL uO=>?_
  exact hY _ _ (uO _ _ W1) (bW.trans uO) (zr (f:=λ y:Wsh=>vS y.said) hy)
 intro a1 H6 hA1 s6 h6;rw[U0,pS,Ul] at h6;have xV:=s6 _ _ hx5;refine⟨_,rfl,x,CT,dx,_,rfl,xV,cT,n3,by show 2<1000;decide,?_⟩;obtain⟨H7,hH7⟩:∃ H7,H7=upd H6 x (.ins CT dx [("given_letters",vS gv),("gap_letters",vS gp),("wish_texts",.ref a1)]):=⟨_,rfl⟩;have b7:But x H6 H7:=by rw[hH7];exact(But.refl x H6).upd
 have hx7:H7 x=some (.ins CT dx [("given_letters",vS gv),("gap_letters",vS gp),("wish_texts",.ref a1)]):=by rw[hH7];exact qe
 have hD7:=vA xV b7 (s6 _ _ hD5);have hA7:=vA xV b7 h6;have hp7:=qR (λ p y h=>jG.but nc xV b7 (jG.mono h s6)) hp5;have go7:∀ G:Hp->Prop,G H7->G (upd H6 x (.ins CT dx [("given_letters",vS gv),("gap_letters",vS gp),("wish_texts",.ref a1)])):=λ G h=>hH7 ▸ h
 refine go7 _ ?_;refine⟨_,rfl,D,rfl,⟨_,SqL.of hD7⟩,?_⟩;refine yL (ps.map V.ref).length (λ i ys H'=>∃ qs:List Addr,ys=qs.map V.ref/\Paired (yj H') qs ((ws.take i).map Wsh.side)) (λ D hD=>⟨[],rfl,.nil⟩) ?_ ?_ (λ H' bW=>⟨_,bW.seq (SqL.of hD7),Q5 _⟩) ?_
 ·rintro i ys H' hi ⟨qs,rfl,hq⟩
  have:=hq.length
  rw[U0,Ue] at this;rw[U0];exact zb (by omega)
 ·rintro i ys H' D2 Y Z hi iV W1 bW ⟨qs,rfl,hq⟩ hY hZ;have hi':i<ps.length:=by rw[U0] at hi;exact hi
  refine⟨⟨_,_,bW.seq (SqL.of hD7),Xv hi⟩,?_⟩;rintro v rL ⟨rfl,hv⟩;have ev:=hv _ (bW.seq (SqL.of hD7));obtain⟨p,hp,rfl⟩:=qj ev;obtain⟨y,hy,pr⟩:=qS hp7 i p hp;obtain⟨a,b,e1,o1,o2⟩:=pr.mono bW;obtain⟨_,t9,tw,th,ts⟩:=pO y (Yh hy) y.t (.inl rfl);obtain⟨_,u9,uw,uh,us⟩:=pO y (Yh hy) y.u (.inr rfl);refine⟨p,_,rfl,SqT.of e1,rfl,_,_,rfl,_,_,rfl,rfl,⟨rfl,rfl⟩,?_⟩;refine dfm (n:=21) (dvA rfl) o1 th ts _ _ _ at0 λ r1 Ha ga ea=>?_
  refine dfm (n:=21) (dvA rfl) (o2.mono ga) uh us _ _ _ at0 λ r2 Hb gb eb=>⟨qE (by show 2<=_;decide),λ pp cA=>?_⟩
  have gc:=(ga.trans gb).to cA (o:=.tup [.ref r1,.ref r2]);have eD:=gc _ _ W1;have gX:zI (upd Hb pp (.tup [.ref r1,.ref r2])) (upd (upd Hb pp (.tup [.ref r1,.ref r2])) D2 (.lst (qs.map V.ref++[.ref pp]))):=zI.updL eD;refine hY _ _ eD (bW.trans gc) ⟨qs++[pp],by rw[U7];rfl,?_⟩;rw[q0 hy,U7];have aZ:∀{z:Addr}{vs:List V},upd Hb pp (.tup [.ref r1,.ref r2]) z=some (.tup vs)->upd (upd Hb pp (.tup [.ref r1,.ref r2])) D2 (.lst (qs.map V.ref++[.ref pp])) z=some (.tup vs):=λ h=>gX _ _ h (λ _ z=>nomatch z)
  refine qX (qR (λ p' z hz=>?_) hq) (.cons ⟨r1,r2,aZ qe,aZ ((qi.up cA) _ _ (gb _ _ ea)),aZ ((qi.up cA) _ _ eb)⟩ .nil);obtain⟨x1,x2,k1,k2,k3⟩:=yj.mono hz gc;exact⟨x1,x2,aZ k1,aZ k2,aZ k3⟩
 rintro a2 H8 ys hA2 s8 h8 ⟨qs,rfl,hqs⟩;rw[U0,pS,Ul] at hqs;have xU:=s8 _ _ hx7;refine⟨_,rfl,x,CT,dx,_,rfl,xU,cT,n4,by show 3<1000;decide,?_⟩;obtain⟨H9,hH9⟩:∃ H9,H9=upd H8 x (.ins CT dx [("given_letters",vS gv),("gap_letters",vS gp),("wish_texts",.ref a1),("side_forms",.ref a2)]):=⟨_,rfl⟩;have b9:But x H8 H9:=by rw[hH9];exact(But.refl x H8).upd
 have hx9:H9 x=some (.ins CT dx [("given_letters",vS gv),("gap_letters",vS gp),("wish_texts",.ref a1),("side_forms",.ref a2)]):=by rw[hH9];exact qe
 have hA9:=vA xU b9 (s8 _ _ hA7);have hB9:=vA xU b9 h8;have hs9:=qR (λ p y h=>yj.but xU b9 h) hqs;have go9:∀ G:Hp->Prop,G H9->G (upd H8 x (.ins CT dx [("given_letters",vS gv),("gap_letters",vS gp),("wish_texts",.ref a1),("side_forms",.ref a2)])):=λ G h=>hH9 ▸ h
 refine go9 _ ?_;have hon:∀ z∈ws.map Wsh.side,On (gv++gp) z.1/\On (gv++gp) z.2:=λ z hz=>by
  obtain⟨y,hy,rfl⟩:=Qu.mp hz;exact⟨Tr.on (pO y hy y.t (.inl rfl)).1,Tr.on (pO y hy y.u (.inr rfl)).1⟩
 refine⟨_,rfl,x,CT,dx,_,_,rfl,hx9,cT,n4,rfl,a2,qs,ws.map Wsh.side,gv++gp,rfl,hB9,hs9,rl,nX,hon,λ a3 HA gA eA=>?_⟩;have sS:=gA _ _ hx9;refine⟨_,rfl,x,CT,dx,_,rfl,sS,cT,n5,by show 4<1000;decide,?_⟩;have bB:But x HA (upd HA x (.ins CT dx [("given_letters",vS gv),("gap_letters",vS gp),("wish_texts",.ref a1),("side_forms",.ref a2),("fault_form",.ref a3)])):=(But.refl x HA).upd;have B5:But x H H5:=(zv g3).trans b5;have B7:But x H H7:=(B5.trans (zv s6)).trans b7;have fr:∀{Ha:Hp}{z:Addr},But x H Ha->(∃ o,Ha x=some o)->Ha z=none->H z=none:=λ{Ha z} b xS hz=>by
  cases e:H z with
  |none=>rfl
  |some o =>
   by_cases hzx:z=x
   ·obtain⟨o',cC⟩:=xS;rw[hzx,cC] at hz;cases hz
   ·rw[b z o hzx e] at hz;cases hz
 refine q a1 a2 a3 qs _ ?_ (fr B5 ⟨_,hx5⟩ hA1) (fr B7 ⟨_,hx7⟩ hA2) ⟨qe,vA sS bB (gA _ _ hA9),vA sS bB (gA _ _ hB9),qR (λ p y h=>yj.but sS bB (yj.mono h gA)) hs9,qcv sS bB eA⟩;exact((((((zv g3).trans b5).trans (zv s6)).trans b7).trans (zv s8)).trans b9).trans ((zv gA).trans bB)
theorem qkR:FnScope ["text","letters"] ["text","letters"] (qf qdu):=scF
theorem qkS(F:Fun K "is_row" "is_row" qdu f fd)(T:Txt mg): FnOk P w K mg base CX0 1 f fd ["text","letters"] (qij):=by
 refine F.okd qkR (λ cdv A outer s H vs Q E hr h=>?_);obtain⟨p,ls,rfl,l9,p9,hp,hl,q⟩:=h;refine⟨_,(qd (ql (yf zq (pv 0) (yW XI Ya Yb qac qm (qa (zg (csc (NY:=["letter","text"]) (o:=1) (caps:=[0]) ["text"] rfl
    (by intro x hx;rw[Zg.mp hx];exact .inl rfl) (jz rfl rfl rfl yk) rfl) rfl
    (vT (pv 1)) (λ C0 s H fp pins=>qo (i:=0) (show(["letter","text"]:List Str).Nodup by decide +kernel) rfl (Or.inl rfl)) (λ C0 s H fp pins=>(qab (qt jN (pv 0) (pv 1) rfl))) (λ C0 s H fp pins=>(pv 0))) qb)) (qB _)))),?_⟩
 have hz:("":Str).length=0:=by decide
 have hs:(qk ls).cps.size=ls.length:=qw ls;refine⟨_,rfl,rfl,?_⟩;refine⟨_,rfl,_,rfl,?_⟩;refine qbQ (λ j=>((ls.take j).filter λ c=>decide (c∈p)).map λ c=>vS [c]) rfl (λ j hj=>?_) ?_ ?_
 ·rw[U0];have:=XY (λ c=>decide (c∈p)) (ls.take j);rw[Ue] at this;exact zb (by omega)
 ·intro j H6 D6 Y Z hj oQ M4 S3 hY hZ;rw[hs] at hj;rw[yU hj];have fs:=kn (f:=λ c=>decide (c∈p)) hj;refine⟨⟨rfl,rfl⟩,?_⟩;refine⟨_,rfl,_,rfl,_,_,rfl,rfl,_,rfl,?_⟩;refine vM (λ c=>?_) (λ c=>?_)
  ·refine⟨_,rfl,hY _ _ M4 S3 ?_⟩;show List.map _ ((ls.take (j+1)).filter _)=_
   rw[fs,Vy c,U7];rfl
  ·refine hZ _ M4 S3 ?_;show List.map _ ((ls.take (j+1)).filter _)=_
   rw[fs,Vz c,U1]
 ·intro D6 H6 oQ S3 M4;rw[hs,Ul,qcc hl (hl.sublist hp) (λ c h=>hp.subset h)] at M4;refine⟨_,D6,(p.map λ c=>[c]).map qk,rfl,rfl,.inl (SqL.of (by rw[M4,vg,zV])),?_,?_⟩
  ·rw[jM,hz,zK];show _+_*0<=_;omega
  rw[jL,zK];refine⟨rfl,?_⟩;rw[show decide (V.str (qk p)=V.str (qk p))=true from qmJ p];exact q _ S3
def Scr(K:W.Frag)(H:Hp)(a:Addr)(ns:List Int):Prop:=SqL K H a (ns.map V.int)/\ns.length<=63
theorem Scr.mono(h:Scr K H a ns)(g:qi H H'):Scr K H' a ns:=⟨g.seq h.1,h.2⟩
theorem qil{ns:List Int}(h0:0<=k)(h:k<(ns.length:Int)):∃ v:Int,atI (ns.map V.int) k=some (.int v):=by
 have hk:k.toNat<ns.length:=by omega
 have ek:k=((k.toNat:Nat):Int):=by omega
 have:=jW (xs:=ns.map V.int) (j:=k.toNat) (v:=.int ns[k.toNat]) (by rw[Zn,Xv hk];rfl)
 rw[<- ek] at this;exact⟨_,this⟩
theorem qjf{c:Prop}[Decidable c]{A B:Prop}(R:Int->Prop)(hA:c->(∀ z,R z)->A)(hB:¬ c->(∀ z,R z)->B)(hC:∀ z,R z):if c then A else B:=by
 by_cases h:c
 ·rw[Vy h];exact hA h hC
 ·rw[Vz h];exact hB h hC
def kW(K:W.Frag):Sp:=λ vs H Q _=>∃(a:Addr)(ns:List Int)(k:Int),vs=[.ref a,.int k]/\Scr K H a ns/\0<=k/\k<=100000/\∀ z H',qi H H'->0<=z->z<1000000->Q (.int z) H'
theorem jQ:FnScope [sA2,sC0,sB7,"_law_turn"] [sA2,sC0] (qf kK):=scF
theorem qkT(F:Fun K sB9 sB9 kK f fd)(T:Txt mg): FnOk P w K mg base CX0 1 f fd [sA2,sC0] (kW K):=by
 refine F.okd jQ (λ cdv A outer s H vs Q E hr h=>?_);obtain⟨a,ns,k,rfl,hS0,k0,k1,q⟩:=h;refine⟨_,(qc (qx (i:=2) jQ.nd rfl (Or.inl rfl) qg)
  (qc (qY (qt qat (qv qz (by rfl) T.len J0 (qa (pv 0) qb)) qg (qB _))
   (qd (qx (i:=2) jQ.nd rfl (Or.inl rfl) (qZ zz (pv 0) (qr zx (pv 1) (qv qz (by rfl) T.len J0 (qa (pv 0) qb))) (λ _ _=>rfl)))) qC)
  (qc (qY (PW.pt (qgw (qt qat (qv qz (by rfl) T.len J0 (qa (pv 0) qb)) qg (qB _))
   (qev (qt zq (qr zx (qZ zz (pv 0) qg (λ _ _=>rfl)) qg) qg (qB _)))))
   (qc (qx (i:=2) jQ.nd rfl (Or.inl rfl) (qr yZ (pv 2) qg))
  (qc (yn Jf rfl (ya (by rfl) T.range (qa (qv (qiy rfl) (by rfl) T.min qnu (qa (qr yZ (pv 1) (qv qz (by rfl) T.len J0 (qa (pv 0) qb))) (qa qg qb))) qb)) (qo (i:=3) jQ.nd rfl (Or.inl rfl))
  (qd (qx (i:=2) jQ.nd rfl (Or.inl rfl) (qr yZ (pv 2) qg))))
  (qd (ql (qr zx (pv 2) qg))))) qC)
  (qd (ql (qr zx (qr qbM (qr zx (qr qbM (qr ye (qr ye (qr zx (pv 2) qg) (qr qbM qg (pv 1))) qg) qg) qg) qg) qg)))))),?_⟩
 obtain⟨hS,h63⟩:=hS0;have hl:(ns.map V.int).length=ns.length:=U0 _;have q':∀ z:Int,0<=z->z<1000000->Q (.int z) H:=λ z h1 h2=>q z H (qi.refl H) h1 h2
 refine⟨_,rfl,a,_,rfl,.inl hS,_,_,rfl,rfl,_,rfl,?_⟩;rw[hl];refine qjf ?R (λ c1 C=>?hA) (λ c1 C=>?hB) ?hC
 case hA =>
  have c1':(0:Int)<(ns.length:Int):=Ub c1;obtain⟨v,hv⟩:=qil (ns:=ns) (k:=k % (ns.length:Int)) (Ja k (by omega)) (Zh k c1');refine⟨_,rfl,_,rfl,_,rfl,a,_,rfl,.inl hS,?_⟩;rw[hl];refine⟨_,_,rfl,rfl,c1',a,_,_,_,rfl,rfl,hS,hv,?_⟩;exact C v
 case hB=>exact C 0
 intro c;have fin:∀ z:Int,Q (.int (z % 999983)) H:=λ z=>q' _ (Ja z (by decide)) (by have:=Zh z (b:=999983) (by decide);omega)
 refine⟨_,rfl,a,_,rfl,.inl hS,_,_,rfl,rfl,_,rfl,?_⟩;rw[hl];have kb:-(2^64)<k/\k<2^64:=⟨by omega,by omega⟩;refine vM (λ c1=>?_) (λ c1=>?_)
 ·have c1':(0:Int)<(ns.length:Int):=Ub c1;obtain⟨v0,hv0⟩:=qil (ns:=ns) (k:=0) (by decide) c1';refine⟨_,rfl,a,_,0,_,rfl,rfl,hS,hv0,_,_,rfl,rfl,(show(0:Int)<2 by decide),rfl,_,rfl,?_⟩;refine vM (λ c2=>?_) (λ c2=>?_)
  ·refine⟨_,rfl,_,_,rfl,rfl,⟨by decide,by decide⟩,?_⟩;refine⟨_,rfl,_,rfl,a,_,rfl,.inl hS,?_⟩;rw[hl];refine⟨_,_,rfl,rfl,⟨by omega,by omega⟩,_,_,rfl,?_⟩;have d0:0<=k / (ns.length:Int):=Int.ediv_nonneg k0 (by omega);refine⟨_,rfl,?_,?_,?_⟩
   ·show -(2^62)<=(if (24:Int)<k / (ns.length:Int) then(24:Int) else k / (ns.length:Int))
    split <;> omega
   ·show(if (24:Int)<k / (ns.length:Int) then(24:Int) else k / (ns.length:Int))<2^62
    split <;> omega
   refine k5 (λ i σ H1=>∃(c:Int)(v:Option V),σ=[some (.ref a),some (.int k),some (.int c),v]/\H1=H) ⟨_,none,rfl,rfl⟩ ?_ ?_
   ·rintro i σ H1 hi ⟨c,v,rfl,rfl⟩;refine⟨_,rfl,_,_,rfl,rfl,⟨by decide,by decide⟩,?_⟩;exact⟨_,_,rfl,rfl⟩
   ·rintro σ H1 ⟨c,v,rfl,rfl⟩;refine⟨_,rfl,_,_,rfl,rfl,(show(0:Int)<4096 by decide),?_⟩;exact q' _ (Ja _ (by decide)) (by have:=Zh c (b:=4096) (by decide);omega)
  ·refine⟨_,rfl,_,_,rfl,rfl,(show(0:Int)<1000003 by decide),_,rfl,_,_,rfl,rfl,.inr kb,_,_,rfl,rfl,_,_,rfl,rfl,_,_,rfl,rfl,.inr ⟨by decide,by decide⟩,_,_,rfl,rfl,(show(0:Int)<1000033 by decide),_,_,rfl,rfl,.inr ⟨by decide,by decide⟩,_,_,rfl,rfl,(show(0:Int)<999983 by decide),?_⟩;exact fin _
 ·refine zN ?_;refine⟨_,rfl,_,_,rfl,rfl,(show(0:Int)<1000003 by decide),_,rfl,_,_,rfl,rfl,.inr kb,_,_,rfl,rfl,_,_,rfl,rfl,_,_,rfl,rfl,.inr ⟨by decide,by decide⟩,_,_,rfl,rfl,(show(0:Int)<1000033 by decide),_,_,rfl,rfl,.inr ⟨by decide,by decide⟩,_,_,rfl,rfl,(show(0:Int)<999983 by decide),?_⟩;exact fin _
noncomputable def qho:List (List Nat):=[[97,98,99],[97,98],[97],[],[98,99],[99],[97,99],[98]]
noncomputable def qhp:List (List Nat):=[[120,121],[120,121,122],[120],[],[121,122],[122],[120,122],[120,121]]
theorem qhq:[V.str "abc",V.str "ab",V.str "a",V.str "",V.str "bc",V.str "c",V.str "ac",V.str "b"]=qho.map vS:=by
 have e1:("abc":Str)=qk [97,98,99]:=by decide +kernel
 have e2:("ab":Str)=qk [97,98]:=by decide +kernel
 have e3:("a":Str)=qk [97]:=by decide +kernel
 have e4:("":Str)=qk []:=by decide +kernel
 have e5:("bc":Str)=qk [98,99]:=by decide +kernel
 have e6:("c":Str)=qk [99]:=by decide +kernel
 have e7:("ac":Str)=qk [97,99]:=by decide +kernel
 have e8:("b":Str)=qk [98]:=by decide +kernel
 rw[e1,e2,e3,e4,e5,e6,e7,e8];rfl
theorem qhr:[V.str "xy",V.str "xyz",V.str "x",V.str "",V.str "yz",V.str "z",V.str "xz",V.str "xy"]=qhp.map vS:=by
 have e1:("xy":Str)=qk [120,121]:=by decide +kernel
 have e2:("xyz":Str)=qk [120,121,122]:=by decide +kernel
 have e3:("x":Str)=qk [120]:=by decide +kernel
 have e4:("":Str)=qk []:=by decide +kernel
 have e5:("yz":Str)=qk [121,122]:=by decide +kernel
 have e6:("z":Str)=qk [122]:=by decide +kernel
 have e7:("xz":Str)=qk [120,122]:=by decide +kernel
 rw[e1,e2,e3,e4,e5,e6,e7];rfl
theorem qkU{l:List (List Nat)}(h0:0<=i)(h:i<(l.length:Int)):∃ c∈l,atI (l.map vS) i=some (vS c):=by
 have hk:i.toNat<l.length:=by omega
 have:=jW (xs:=l.map vS) (j:=i.toNat) (v:=vS l[i.toNat]) (by rw[Zn,Xv hk];rfl)
 rw[show((i.toNat:Nat):Int)=i by omega] at this;exact⟨_,Uk hk,this⟩
def qhs(K:W.Frag):Sp:=λ vs H Q _=>∃(a:Addr)(ns:List Int),vs=[.ref a]/\Scr K H a ns/\∀ r (gv gp:List Nat) H',qi H H'->H' r=some (.tup [vS gv,vS gp])->gv.Sublist [97,98,99]->gp.Sublist [120,121,122]->Q (.ref r) H'
theorem qe9:FnScope [sA2,sB7,sA6] [sA2] (qf jC):=scF
theorem qml(F:Fun K sC1 sC1 jC f fd)(T:Txt mg)(o4:Dp P w K mg base 1 L0 L6 [sA2,sC0] (kW K) sB9): FnOk P w K mg base CX0 2 f fd [sA2] (qhs K):=by
 refine F.okd qe9 (λ cdv A outer s H vs Q E hr h=>?_);obtain⟨a,ns,rfl,hS,q⟩:=h;refine⟨_,(qc (qx (i:=1) qe9.nd rfl (Or.inl rfl) (zd o4 hr (qa (pv 0) (qa qg qb))))
  (qc (qx (i:=2) qe9.nd rfl (Or.inl rfl) (qZ zz (zY (qa qm (qa qm (qa qm (qa qm (qa qm (qa qm (qa qm (qa qm qb))))))))) (qr zx (pv 1) qg) (λ _ _=>rfl)))
  (qd (ql (zM (qa (pv 2) (qa (qZ zz (zY (qa qm (qa qm (qa qm (qa qm (qa qm (qa qm (qa qm (qa qm qb))))))))) (qr zx (qr yZ (pv 1) qg) qg) (λ _ _=>rfl)) qb))))))),?_⟩
 refine⟨_,rfl,a,ns,0,rfl,hS,by decide,by decide,λ z H1 g1 z0 z1=>?_⟩;refine⟨qE (by show 8<=_;decide),λ p hp=>?_⟩;have n0:=Ja z (b:=8) (by decide);have n1:=Zh z (b:=8) (by decide);obtain⟨gv,hgv,fZ⟩:=qkU (l:=qho) n0 n1;rw[<- qhq] at fZ
 have s1:gv.Sublist [97,98,99]:=(by decide:∀ l∈qho,l.Sublist [97,98,99]) gv hgv;refine⟨_,rfl,_,_,rfl,rfl,(show(0:Int)<8 by decide),p,_,_,_,rfl,rfl,SqL.of qe,fZ,?_⟩;have g2:=g1.to hp (o:=.lst [V.str "abc",V.str "ab",V.str "a",V.str "",V.str "bc",V.str "c",V.str "ac",V.str "b"]);have m0:=Ja (z / 8) (b:=8) (by decide);have m1:=Zh (z / 8) (b:=8) (by decide);obtain⟨gp,hgp,uD⟩:=qkU (l:=qhp) m0 m1;rw[<- qhr] at uD;have s2:gp.Sublist [120,121,122]:=(by decide:∀ l∈qhp,l.Sublist [120,121,122]) gp hgp;refine⟨_,rfl,qE (by show 8<=_;decide),λ p2 aP=>?_⟩;have g3:=g2.to aP (o:=.lst [V.str "xy",V.str "xyz",V.str "x",V.str "",V.str "yz",V.str "z",V.str "xz",V.str "xy"]);refine⟨_,rfl,_,_,rfl,rfl,⟨by decide,by decide⟩,_,_,rfl,rfl,(show(0:Int)<8 by decide),p2,_,_,_,rfl,rfl,SqL.of qe,uD,qE (by show 2<=_;decide),λ r O4=>?_⟩;exact q r gv gp _ (g3.to O4) qe s1 s2
noncomputable def qim:List Nat:=[97,108,119,97,121,115]
noncomputable def qht:List Nat:=[110,101,118,101,114]
noncomputable def qkV:List Nat:=[110,111,116]
noncomputable def qb1:List Nat:=[97,110,100]
noncomputable def wOr:List Nat:=[111,114]
noncomputable def jd:List Nat:=[101,105,116,104,101,114]
theorem qa0:("always":Str)=qk qim:=by decide +kernel
theorem qjg:("never":Str)=qk qht:=by decide +kernel
theorem qfa:("not":Str)=qk qkV:=by decide +kernel
theorem qfb:("and":Str)=qk qb1:=by decide +kernel
theorem qhu:("or":Str)=qk wOr:=by decide +kernel
theorem qdA:("either":Str)=qk jd:=by decide +kernel
noncomputable def opW(op:Nat):List Nat:=if op=38 then qb1 else if op=124 then wOr else jd
def TrW(H:Hp):Tr->V->Prop
 |.letter c,v=>∃ a,v=.ref a/\H a=some (.tup [vS qe4,vS [c]])
 |.one,v=>∃ a,v=.ref a/\H a=some (.tup [vS qim])
 |.zero,v=>∃ a,v=.ref a/\H a=some (.tup [vS qht])
 |.neg t,v=>∃ a x,v=.ref a/\H a=some (.tup [vS qkV,x])/\TrW H t x
 |.bin op t u,v=>∃ a x y,v=.ref a/\H a=some (.tup [vS (opW op),x,y])/\TrW H t x/\TrW H u y
theorem TrW.mono(g:zH H H'):∀{t:Tr}{v:V},TrW H t v->TrW H' t v
 |.letter c,_,⟨a,e,h⟩=>⟨a,e,g _ _ h⟩
 |.one,_,⟨a,e,h⟩=>⟨a,e,g _ _ h⟩
 |.zero,_,⟨a,e,h⟩=>⟨a,e,g _ _ h⟩
 |.neg t,_,⟨a,x,e,h,r⟩=>⟨a,x,e,g _ _ h,TrW.mono g r⟩
 |.bin op t u,_,⟨a,x,y,e,h,r,r'⟩=>⟨a,x,y,e,g _ _ h,TrW.mono g r,TrW.mono g r'⟩
def qfc:Sp:=λ vs H Q _=>∃(m:Int)(ls:List Nat),vs=[.int m,vS ls]/\0<=m/\ls.length<=9/\∀ t v H',qi H H'->TrW H' t v->t.Of ls->t.wt=1->Q v H'
theorem qmm:FnScope [sB7,sA0] [sB7,sA0] (qf qaT):=scF
theorem qmn(F:Fun K sD0 sD0 qaT f fd)(T:Txt mg): FnOk P w K mg base CX0 1 f fd [sB7,sA0] (qfc):=by
 refine F.okd qmm (λ cdv A outer s H vs Q E hr h=>?_);obtain⟨m,ls,rfl,m0,l9,q⟩:=h;refine⟨_,(qc (qY (qt zq (qr zx (pv 0) qg) qg (qB _))
   (qd (ql (zM (qa qm qb)))) qC)
  (qc (qY (PW.pt (qcA (qt zq (qr zx (pv 0) qg) qg (qB _))
   (qaB (qt zq (pv 1) qm (qB _)))))
   (qd (ql (zM (qa qm qb)))) qC)
  (qd (ql (zM (qa qm (qa (qZ qm5 (pv 1) (qr zx (qr yZ (pv 0) qg) (qv zQ (by rfl) T.len J0 (qa (pv 1) qb))) (λ _ _=>rfl)) qb))))))),?_⟩
 rw[qa0,qjg,qaX,show("":Str)=qk [] by decide +kernel];have hl:(qk ls).length=ls.length:=qw ls;refine⟨_,rfl,_,_,rfl,rfl,(show(0:Int)<9 by decide),rfl,_,rfl,?_⟩;refine vM (λ c1=>?_) (λ c1=>?_)
 ·refine⟨qE (by show 1<=_;decide),λ p hp=>?_⟩;exact q .one _ _ (qi.up hp) ⟨p,rfl,qe⟩ trivial rfl
 have never:qlq (qn3 (vC (tC (.str (qk qht))) yH)) { nx:=λ x H'=>Q V.non H',rt:=Q } [some (.int m),some (vS ls)] H:=⟨qE (by show 1<=_;decide),λ p hp=>q .zero _ _ (qi.up hp) ⟨p,rfl,qe⟩ trivial rfl⟩;refine⟨_,rfl,_,_,rfl,rfl,(show(0:Int)<9 by decide),rfl,_,rfl,?_⟩;refine vM (λ c2=>?_) (λ c2=>?_)
 ·exact qaD never
 refine⟨_,rfl,rfl,_,rfl,?_⟩;refine vM (λ c3=>?_) (λ c3=>?_)
 ·exact never
 have ne:0<ls.length:=by
  cases ls with
  |nil=>exact absurd rfl c3
  |cons x l=>simp
 have i0:=Ja (m / 9) (b:=(ls.length:Int)) (by omega);have i1:=Zh (m / 9) (b:=(ls.length:Int)) (by omega);obtain⟨c,hc,fZ⟩:=qoy (l:=ls) i0 i1;refine⟨_,rfl,_,rfl,_,_,rfl,rfl,⟨by decide,by decide⟩,_,rfl,_,rfl,by rw[hl];exact qE (by omega),?_⟩;rw[hl];refine⟨_,_,rfl,rfl,(by show(0:Int)<(ls.length:Int);omega),_,_,c,rfl,rfl,by rw[hl];exact qE (by omega),fZ,qE (by show 2<=_;decide),λ p hp=>?_⟩;exact q (.letter c) _ _ (qi.up hp) ⟨p,rfl,qe⟩ hc rfl
inductive StW(ls:List Nat)(H:Hp):List V->Nat->Prop where
 |nil:StW ls H [] 0
 |snoc {ws:List V} {n:Nat} {x:V} {t:Tr} (h:StW ls H ws n) (tr:TrW H t x) (of:t.Of ls):StW ls H (ws++[x]) (n+t.wt)
theorem StW.mono(h:StW ls H vs n)(g:zH H H'):StW ls H' vs n:=by
 induction h with
 |nil=>exact .nil
 |snoc h tr of ih=>exact ih.snoc (tr.mono g) of
theorem StW.len(h:StW ls H vs n):vs.length<=n:=by
 induction h with
 |nil=>exact Q5 _
 | @snoc ws n x t h tr of ih=>rw[Zb,XR];have:=t.wt_pos;omega
theorem StW.top(h:StW ls H vs n)(hl:0<vs.length):∃ ws x t k,vs=ws++[x]/\TrW H t x/\t.Of ls/\StW ls H ws k/\n=k+t.wt:=by
 cases h with
 |nil=>cases hl
 |snoc h tr of=>exact⟨_,_,_,_,rfl,tr,of,h,rfl⟩
theorem qdB(ws:List V)(x y:V):(ws++[x]).set ws.length y=ws++[y]:=by simp
theorem qkW:[V.str (qk qb1),V.str (qk wOr),V.str (qk jd),V.str (qk qb1)]=([38,124,43,38].map opW).map vS:=rfl
theorem qjh:[V.str (qk jd),V.str (qk qb1),V.str (qk wOr)]=([43,38,124].map opW).map vS:=rfl
theorem qin{l:List Nat}(h0:0<=i)(h:i<(l.length:Int)):∃ c∈l,atI ((l.map opW).map vS) i=some (vS (opW c)):=by
 have hk:i.toNat<l.length:=by omega
 have:=jW (xs:=(l.map opW).map vS) (j:=i.toNat) (v:=vS (opW l[i.toNat])) (by rw[Zn,Zn,Xv hk];rfl)
 rw[show((i.toNat:Nat):Int)=i by omega] at this;exact⟨_,Uk hk,this⟩
def qhv(K:W.Frag):Sp:=λ vs H Q _=>∃(a:Addr)(ns:List Int)(lJ m:Int)(ls:List Nat),vs=[.ref a,.int lJ,.int m,vS ls]/\Scr K H a ns/\0<=lJ/\lJ<=1000/\1<=m/\m<=100/\ls.length<=9 /\
 ∀ t v H',qi H H'->TrW H' t v->t.Of ls->(t.wt:Int)<=m->Q v H'
theorem qam:FnScope [sA2,"_law_at",sA9,sA0,"_law_stack",sC0,sB7,sB2] [sA2,"_law_at",sA9,sA0] (qf qaU):=scF
theorem qmo(F:Fun K sD1 sD1 qaU f fd)(T:Txt mg)(Gm:Dp P w K mg base 1 fm fdm [sA2,sC0] (kW K) sB9)(Gl:Dp P w K mg base 1 fl fdl [sB7,sA0] qfc sD0):FnOk P w K mg base CX0 2 f fd [sA2,"_law_at",sA9,sA0] (qhv K):=by
 refine F.okd qam (λ cdv A outer s H vs Q E hr h=>?_);obtain⟨a,ns,lJ,m,ls,rfl,hS,a0,a1,m0,m1,l9,q⟩:=h;have G4:Room 1 _:=hr.mono (by decide);refine⟨_,(qc (qx (i:=4) qam.nd rfl (Or.inl rfl) (zY qb))
  (qc (yn Jf rfl (ya (by rfl) T.range (qa (pv 2) qb)) (qo (i:=5) qam.nd rfl (Or.inl rfl))
  (qc (qx (i:=6) qam.nd rfl (Or.inl rfl) (zd Gm G4 (qa (pv 0) (qa (qr ye (pv 1) (pv 5)) qb))))
  (qd (qY (PW.pt (qcA (qt qn1 (qr zx (pv 6) qg) qg (qB _)) (qaB (qt zq (qv qz (by rfl) T.len J0 (qa (pv 4) qb)) qg (qB _))))) (qd (yt (yW X9 Xy Xz yb (pv 4) (qa (zd Gl G4 (qa (qr yZ (pv 6) qg) (qa (pv 3) qb))) qb)))) (qd (qY (qt zq (qr zx (pv 6) qg) qg (qB _)) (qd (qcD (zM (qa qm (qa (qZ zz (pv 4) (qa5 jU qg) (λ _ _=>rfl)) qb))) (qew (pv 4) (qa5 jU qg) qa9))) (qd (qY (qt qat (qv qz (by rfl) T.len J0 (qa (pv 4) qb)) qg (qB _)) (qc (qx (i:=7) qam.nd rfl (Or.inl rfl) (qcN X9 Yc Yd qeD (pv 4)))
  (qd (qcD (zM (qa (qZ zz (zY (qa qm (qa qm (qa qm (qa qm qb))))) (qr qex (qr zx (pv 6) qg) qg) (λ _ _=>rfl)) (qa (qZ zz (pv 4) (qa5 jU qg) (λ _ _=>rfl)) (qa (pv 7) qb)))) (qew (pv 4) (qa5 jU qg) qa9)))) qC))))))))
  (qc (qfl Jf (qt qat (qv qz (by rfl) T.len J0 (qa (pv 4) qb)) qg (qB _)) (qc (qx (i:=7) qam.nd rfl (Or.inl rfl) (qcN X9 Yc Yd qeD (pv 4)))
  (qd (qcD (zM (qa (qZ zz (zY (qa qm (qa qm (qa qm qb)))) (qr zx (qv qz (by rfl) T.len J0 (qa (pv 4) qb)) qg) (λ _ _=>rfl)) (qa (qZ zz (pv 4) (qa5 jU qg) (λ _ _=>rfl)) (qa (pv 7) qb)))) (qew (pv 4) (qa5 jU qg) qa9)))))
  (qd (ql (qZ zz (pv 4) qg (λ _ _=>rfl))))))),?_⟩
 rw[qfa,qfb,qhu,qdA];have eW:(0:Int)<8:=by decide
 refine⟨Q6 _,λ tb htb=>?_⟩;have fT:H tb=none:=htb;refine⟨_,rfl,m,rfl,by omega,by omega,?_⟩;refine k5 (λ i σ H'=>∃(vs:List V)(n:Nat)(v5 v6 v7:Option V),σ=[some (.ref a),some (.int lJ),some (.int m),some (vS ls),some (.ref tb),v5,v6,v7]/\qi H H'/\H' tb=some (.lst vs)/\StW ls H' vs n/\n<=i/\(0<i->0<vs.length))
  ⟨[],0,none,none,none,rfl,qi.up htb,qe,.nil,Q5 _,λ h=>absurd h (Qa _)⟩ ?_ ?_
 ·rintro i σ H3 hi ⟨vs,n,v5,v6,v7,rfl,g3,e3,sk,hn,hv⟩;have hi':(i:Int)<m:=by omega
  have lv:=sk.len;refine⟨_,rfl,_,rfl,_,rfl,_,_,rfl,rfl,a,ns,_,rfl,hS.mono g3,?_,?_,λ z H4 g4 z0 z1=>?_⟩
  ·show(0:Int)<=lJ+(0+(i:Int));omega
  ·show lJ+(0+(i:Int))<=100000;omega
  have e4:=g4 _ _ e3;have g34:=g3.trans g4;have sk4:=sk.mono (zj g4);dsimp only[vG];refine yh (qpr qA (qps qA (qmK qA (dvA rfl) eW) dC) (zt (dIE qA (qpt (K:=K) (by rfl) (SqL.of e4)) dC))) at0 (λ hb H5 g5=>?_) (λ hb H5 g5=>?_)
  ·have e5:=g5 _ _ e4;refine⟨_,rfl,.inl ⟨rfl,_,SqL.of e5⟩,_,rfl,_,_,rfl,rfl,⟨by decide,by decide⟩,_,rfl,z / 8,ls,rfl,Int.ediv_nonneg z0 (by decide),l9,λ t' v' H6 g6 tr' tof' tw'=>⟨tb,vs,v',rfl,rfl,g6 _ _ e5,zb (by omega),?_⟩⟩;have e6:=g6 _ _ e5;refine⟨vs++[v'],n+t'.wt,_,_,_,rfl,((g34.trans g5).trans g6).at fT,qe,?_,by omega,λ _=>by simp⟩;exact(((sk4.mono (zj g5)).mono (zj g6)).mono (zH.updL e6)).snoc (tr'.mono (zH.updL e6)) tof'
  have e5:=g5 _ _ e4;have oR:=g34.trans g5;rw[Bool.or_eq_false_iff] at hb;have T8:¬ z % 8<3:=Zk hb.1;have W0:¬ ((vs.length:Nat):Int)=0:=Zk hb.2;have z80:=Ja z (b:=8) (by decide);have z81:=Zh z (b:=8) (by decide);obtain⟨ws,x,t,k,rfl,tx,ox,pP,rfl⟩:=(sk4.mono (zj g5)).top (by omega);refine yh (zt (dIE qA (qmK qA (dvA rfl) eW) dC)) at0 (λ hb3 H6 g6=>?_) (λ hb3 H6 g6=>?_)
  ·have e6:=g6 _ _ e5;refine⟨_,rfl,_,rfl,tb,_,_,_,rfl,rfl,SqL.of e6,vL ws x,qE (by show 2<=_;decide),λ p hp=>?_⟩;have e7:upd H6 p (.tup [vS qkV,x]) tb=some (.lst (ws++[x])):=(qi.up hp) _ _ e6;refine⟨_,rfl,_,rfl,tb,_,_,ws.length,rfl,rfl,e7,by rw[Zb,XR];exact qby _,?_⟩;rw[qdB];have cc:zH H5 (upd (upd H6 p (.tup [vS qkV,x])) tb (.lst (ws++[.ref p]))):=((zj g6).trans (zj (qi.up hp))).trans (zH.updL e7);refine⟨ws++[.ref p],k+(t.wt+1),_,_,_,rfl,((oR.trans g6).to hp).at fT,qe,?_,by omega,λ _=>by simp⟩;exact StW.snoc (t:=.neg t) (pP.mono cc) ⟨p,x,rfl,(zH.updL e7) _ _ qe,tx.mono cc⟩ ox
  have hb3':¬ z % 8=3:=Zk hb3;have e6:=g6 _ _ e5;refine⟨_,rfl,tb,_,rfl,.inl (SqL.of e6),_,_,rfl,rfl,_,rfl,?_⟩;refine vM (λ cw=>?_) (λ cw=>?_)
  ·have wM:(1:Int)<(((ws++[x]).length:Nat):Int):=Ub cw;rw[Zb,XR] at wM;obtain⟨us,y,t',k',rfl,ty,oy,sku,rfl⟩:=pP.top (by omega);refine⟨_,rfl,.inl ⟨rfl,_,SqL.of e6⟩,tb,_,x,rfl,rfl,e6,qaj _ x,?_⟩;rw[Yq];have e7:upd H6 tb (.lst (us++[y])) tb=some (.lst (us++[y])):=qe;obtain⟨c,hc,fZ⟩:=qin (l:=[38,124,43,38]) (i:=z % 8-4) (by omega) (by show z % 8-4<4;omega);rw[<- qkW] at fZ
   refine⟨qE (by show 4<=_;decide),λ pl w6=>?_⟩;have e8:upd (upd H6 tb (.lst (us++[y]))) pl (.lst [V.str (qk qb1),V.str (qk wOr),V.str (qk jd),V.str (qk qb1)]) tb=some (.lst (us++[y])):=(qi.up w6) _ _ e7;refine⟨_,rfl,_,_,rfl,rfl,eW,_,_,rfl,rfl,pl,_,_,_,rfl,rfl,SqL.of qe,fZ,_,rfl,_,rfl,tb,_,_,_,rfl,rfl,SqL.of e8,vL us y,_,rfl,qE (by show 3<=_;decide),λ p hp=>?_⟩;have e9:=(qi.up hp (o:=.tup [vS (opW c),y,x])) _ _ e8;refine⟨_,rfl,_,rfl,tb,_,_,us.length,rfl,rfl,e9,by rw[Zb,XR];exact qby _,?_⟩;rw[qdB];have c1:zH H5 (upd H6 tb (.lst (us++[y]))):=(zj g6).trans (zH.updL e6);have c2:=c1.trans (zj (qi.up w6 (o:=.lst [V.str (qk qb1),V.str (qk wOr),V.str (qk jd),V.str (qk qb1)])));have c3:=c2.trans (zj (qi.up hp (o:=.tup [vS (opW c),y,x])));have c4:=zH.updL e9 (o:=.lst (us++[.ref p]));have cc:=c3.trans c4;have K8:c=38∨c=124∨c=43:=by
    have:c=38∨c=124∨c=43∨c=38:=by simpa using hc
    rcases this with e|e|e|e <;> simp[e]
   refine⟨us++[.ref p],k'+(t'.wt+t.wt),_,_,_,rfl,((((oR.trans g6).at fT).to w6).to hp).at fT,qe,?_,by omega,λ _=>by simp⟩;exact StW.snoc (t:=.bin c t' t) (sku.mono cc) ⟨p,y,x,rfl,c4 _ _ qe,ty.mono cc,tx.mono cc⟩ ⟨K8,oy,ox⟩
  ·refine⟨ws++[x],k+t.wt,_,_,_,rfl,oR.trans g6,e6,?_,by omega,λ _=>by simp⟩;exact(pP.mono (zj g6)).snoc (tx.mono (zj g6)) ox
 ·rintro σ H3 ⟨vs,n,v5,v6,v7,rfl,g3,e3,sk,hn,hv⟩;have lv:0<vs.length:=hv (by omega);refine⟨λ μ σ H'=>∃(vs:List V)(n:Nat)(v7:Option V),σ=[some (.ref a),some (.int lJ),some (.int m),some (vS ls),some (.ref tb),v5,v6,v7]/\qi H H'/\H' tb=some (.lst vs)/\0<vs.length/\StW ls H' vs n/\n<=m.toNat/\μ=vs.length,⟨_,vs,n,v7,rfl,g3,e3,lv,sk,hn,rfl⟩,?_⟩;rintro μ σ H4 ⟨vs,n,v7,rfl,g4,e4,lv,sk,hn,rfl⟩;have lvn:=sk.len;refine⟨_,rfl,tb,_,rfl,.inl (SqL.of e4),_,_,rfl,rfl,_,rfl,?_⟩;refine vM (λ cw=>?_) (λ cw=>?_)
  ·have wM:(1:Int)<((vs.length:Nat):Int):=Ub cw;obtain⟨ws,x,t,k,rfl,tx,ox,pP,rfl⟩:=sk.top lv;rw[Zb,XR] at wM;obtain⟨us,y,t',k',rfl,ty,oy,sku,rfl⟩:=pP.top (by omega);refine⟨λ σ' H'=>∃(nH:List V)(n:Nat)(v7:Option V),σ'=[some (.ref a),some (.int lJ),some (.int m),some (vS ls),some (.ref tb),v5,v6,v7]/\qi H H'/\H' tb=some (.lst nH)/\0<nH.length/\StW ls H' nH n/\n<=m.toNat/\nH.length<(us++[y]++[x]).length,?_,?_⟩
   ·rintro σ' H' ⟨nH,n,v7,e,b1,b2,b3,b4,b5,b6⟩;exact⟨nH.length,b6,nH,n,v7,e,b1,b2,b3,b4,b5,rfl⟩
   refine⟨_,rfl,.inl ⟨rfl,_,SqL.of e4⟩,tb,_,x,rfl,rfl,e4,qaj _ x,?_⟩;rw[Yq];have e7:upd H4 tb (.lst (us++[y])) tb=some (.lst (us++[y])):=qe;have n0:=Ja (((us++[y]).length:Nat):Int) (b:=3) (by decide);have n1:=Zh (((us++[y]).length:Nat):Int) (b:=3) (by decide);obtain⟨c,hc,fZ⟩:=qin (l:=[43,38,124]) n0 n1;rw[<- qjh] at fZ
   refine⟨qE (by show 3<=_;decide),λ pl w6=>?_⟩;have e8:upd (upd H4 tb (.lst (us++[y]))) pl (.lst [V.str (qk jd),V.str (qk qb1),V.str (qk wOr)]) tb=some (.lst (us++[y])):=(qi.up w6) _ _ e7;refine⟨_,rfl,tb,_,rfl,.inl (SqL.of e8),_,_,rfl,rfl,(show(0:Int)<3 by decide),pl,_,_,_,rfl,rfl,SqL.of qe,fZ,_,rfl,_,rfl,tb,_,_,_,rfl,rfl,SqL.of e8,vL us y,_,rfl,qE (by show 3<=_;decide),λ p hp=>?_⟩;have e9:=(qi.up hp (o:=.tup [vS (opW c),y,x])) _ _ e8;refine⟨_,rfl,_,rfl,tb,_,_,us.length,rfl,rfl,e9,by rw[Zb,XR];exact qby _,?_⟩;rw[qdB];have c1:zH H4 (upd H4 tb (.lst (us++[y]))):=zH.updL e4;have c2:=c1.trans (zj (qi.up w6 (o:=.lst [V.str (qk jd),V.str (qk qb1),V.str (qk wOr)])));have c3:=c2.trans (zj (qi.up hp (o:=.tup [vS (opW c),y,x])));have c4:=zH.updL e9 (o:=.lst (us++[.ref p]));have cc:=c3.trans c4;have K8:c=38∨c=124∨c=43:=by
    have:c=43∨c=38∨c=124:=by simpa using hc
    rcases this with e|e|e <;> simp[e]
   refine⟨us++[.ref p],k'+(t'.wt+t.wt),_,rfl,(((g4.at fT).to w6).to hp).at fT,qe,by simp,?_,by omega,by simp⟩;exact StW.snoc (t:=.bin c t' t) (sku.mono cc) ⟨p,y,x,rfl,c4 _ _ qe,ty.mono cc,tx.mono cc⟩ ⟨K8,oy,ox⟩
  ·have wM:¬ (1:Int)<((vs.length:Nat):Int):=Zk (Zv.mpr cw);obtain⟨ws,x,t,k,rfl,tx,ox,pP,rfl⟩:=sk.top lv;have hws:ws=[]:=by
    rw[Zb,XR] at wM;exact X8.mp (by omega)
   subst hws;exact⟨_,rfl,tb,_,_,x,rfl,rfl,SqL.of e4,rfl,q t x H4 g4 tx ox (by omega)⟩
theorem qnF:bootBuiltins "int"=some (.type "int"):=by decide +kernel
def qkX(f:Tr->V)(n:Nat):Sp:=λ vs H Q _=>∃(v:V)(t:Tr),vs=[v]/\TrW H t v/\t.ht<=n/\t.wt<=1000/\t.Of zC/\∀ H',qi H H'->Q (f t) H'
theorem dwv(h1:Dv (At σ0 H0) t1 x)(tr:TrW H0 t x)(ht:t.ht<=n)(hw:t.wt<=1000)(of:t.Of zC):
  Dv (At σ0 H0) (qb8 (qkX f n) [] E0 (vC t1 yH)) (f t):=λ σ H Q hΓ q =>
 h1 σ H _ hΓ λ H1 g1=>⟨x,t,rfl,tr.mono (zj (hΓ.2.trans g1)),ht,hw,of,λ H' g=>q H' (g1.trans g)⟩
theorem qgo:FnScope [sA4,"_law_sign"] [sA4] (qf vw):=scF
noncomputable def sgK:List (Key×V):=[(.inr (qk qb1),vS [38]),(.inr (qk wOr),vS [124]),(.inr (qk jd),vS [43])]
theorem qmp(h:op=38∨op=124∨op=43):zU (qM [] sgK) (.inr (qk (opW op)))=some (vS [op]):=by
 rcases h with rfl|rfl|rfl <;> rfl
theorem qkY(h:op=38∨op=124∨op=43):opW op≠qe4/\opW op≠qkV/\(opW op=qb1 ↔ op=38)/\(opW op=wOr ↔ op=124):=by
 rcases h with rfl|rfl|rfl <;> decide
theorem qhw(F:Fun K sB3 sB3 vw f fd)(T:Txt mg)(B2:mg "int"=none)(bG:qh K fd [sA4] [])(mG:mg sB3=some (.ref f))(GG:FnOk P w K mg base CX0 n f fd [sA4] (qkX zS n)):FnOk P w K mg base CX0 (n+1) f fd [sA4] (qkX zS (n+1)):=by
 refine F.okd qgo (λ cdv A outer s H vs Q E hr h=>?_);obtain⟨v,t,rfl,tr,ht,hw,of,q⟩:=h;have kG:=F.kp;have E6:=jI hr;refine⟨_,(qc (qY (qt zq (qv qz (by rfl) T.len J0 (qa (pv 0) qb)) qg (qB _)) (qd (ql (qZ zz (zY (qa qm (qa qm qb))) (zu qiz (by rfl) B2 qnF (qa (yf zq (qZ zl (pv 0) qg (λ _ _=>rfl)) qm (qB _)) qb)) (λ _ _=>rfl)))) qC)
  (qc (qY (qt zq (qZ zl (pv 0) qg (λ _ _=>rfl)) qm (qB _)) (qd (ql (qZ zl (pv 0) qg (λ _ _=>rfl)))) qC)
  (qc (qY (qt zq (qZ zl (pv 0) qg (λ _ _=>rfl)) qm (qB _)) (qd (ql (qr qN qm (qiL GG hr mG kG bG (qa (qZ zl (pv 0) qg (λ _ _=>rfl)) qb))))) qC)
  (qc (qx (i:=1) qgo.nd rfl (Or.inl rfl) (k7 E6 (qhU (jH qm qm (jH qm qm (jH qm qm qhT))) rfl rfl (by simp) (by simp)) (qZ zl (pv 0) qg (λ _ _=>rfl)) (λ _ _=>rfl)))
  (qd (ql (qr qN (qr qN (qr qN (qr qN qm (qiL GG hr mG kG bG (qa (qZ zl (pv 0) qg (λ _ _=>rfl)) qb))) (pv 1)) (qiL GG hr mG kG bG (qa (qZ zl (pv 0) qg (λ _ _=>rfl)) qb))) qm))))))),?_⟩
 rw[qaX,qa0,qfa,qfb,qhu,qdA,qny,qdw,qal,qku,qkv,qkD,qhe,qkt];cases t with
 |letter c =>
  obtain⟨a,rfl,h⟩:=tr;have hT:SqT K H a _:=SqT.of h;refine yh (zt (dIE qA (qay rfl hT) dC)) at0 (λ hb=>absurd hb (by simp)) (λ _ H1 g1=>?_);refine yh (zt (jF qA (jl rfl (g1.seqT hT) rfl) dC)) at0 (λ _ H2 g2=>?_) (λ hb=>absurd hb (by simp));exact qar (jl rfl ((g1.trans g2).seqT hT) rfl) at0 λ H3 g3=>q H3 ((g1.trans g2).trans g3)
 |one =>
  obtain⟨a,rfl,h⟩:=tr;have hT:SqT K H a _:=SqT.of h;refine yh (zt (dIE qA (qay rfl hT) dC)) at0 (λ _ H1 g1=>?_) (λ hb=>absurd hb (by simp));refine⟨qE (by show 2<=_;decide),λ p hp=>?_⟩;have g2:=g1.to hp (o:=.lst [vS [48],vS [49]]);refine jF qA (jl rfl (g2.seqT hT) rfl) dC _ _ _ at0 λ H3 g3=>.inr ⟨_,rfl,?_⟩
  refine⟨p,_,1,vS [49],rfl,rfl,SqL.of (g3 _ _ qe),rfl,?_⟩;exact q H3 (g2.trans g3)
 |zero =>
  obtain⟨a,rfl,h⟩:=tr;have hT:SqT K H a _:=SqT.of h;refine yh (zt (dIE qA (qay rfl hT) dC)) at0 (λ _ H1 g1=>?_) (λ hb=>absurd hb (by simp));refine⟨qE (by show 2<=_;decide),λ p hp=>?_⟩;have g2:=g1.to hp (o:=.lst [vS [48],vS [49]]);refine jF qA (jl rfl (g2.seqT hT) rfl) dC _ _ _ at0 λ H3 g3=>.inr ⟨_,rfl,?_⟩
  refine⟨p,_,0,vS [48],rfl,rfl,SqL.of (g3 _ _ qe),rfl,?_⟩;exact q H3 (g2.trans g3)
 |neg t =>
  obtain⟨a,x,rfl,h,tx⟩:=tr;have hT:SqT K H a _:=SqT.of h;have ht':t.ht<=n:=XJ ht;have iB:t.wt+1<=1000:=hw;have l1:=t.text_len;refine yh (zt (dIE qA (qay rfl hT) dC)) at0 (λ hb=>absurd hb (by simp)) (λ _ H1 g1=>?_);refine yh (zt (jF qA (jl rfl (g1.seqT hT) rfl) dC)) at0 (λ hb=>absurd hb (by decide)) (λ _ H2 g2=>?_);have A9:=g1.trans g2;refine yh (zt (jF qA (jl rfl (A9.seqT hT) rfl) dC)) at0 (λ _ H3 g3=>?_) (λ hb=>absurd hb (by decide));have O8:=A9.trans g3;exact qar (jm qA dC (dwv (f:=zS) (n:=n) (jl rfl (O8.seqT hT) rfl) (tx.mono (zj O8)) ht' (by omega) of) (by rw[XR];omega)) at0 λ H4 g4=>q H4 (O8.trans g4)
 |bin op t u =>
  obtain⟨a,x,y,rfl,h,tx,uy⟩:=tr;have hT:SqT K H a _:=SqT.of h;have hm:max t.ht u.ht+1<=n+1:=ht;have iB:t.wt+u.wt<=1000:=hw;obtain⟨K8,ot,ou⟩:=of;obtain⟨nl,nn,_,_⟩:=qkY K8;have l1:=t.text_len;have l2:=u.text_len;refine yh (zt (dIE qA (qay rfl hT) dC)) at0 (λ hb=>absurd hb (by simp)) (λ _ H1 g1=>?_);refine yh (zt (jF qA (jl rfl (g1.seqT hT) rfl) dC)) at0 (λ hb=>absurd (Ub hb) nl) (λ _ H2 g2=>?_);have A9:=g1.trans g2;refine yh (zt (jF qA (jl rfl (A9.seqT hT) rfl) dC)) at0 (λ hb=>absurd (Ub hb) nn) (λ _ H3 g3=>?_);have O8:=A9.trans g3;refine λ p hp=>?_
  refine⟨qe,sgK,rfl,by decide,?_⟩;have g4:qi H (upd (upd H3 p (.dK [])) p (.dK (qM [] sgK))):=(O8.to hp).at (O8.free hp);have gd:=qa8.k (k:=Sum.inr (qk (opW op))) (show upd (upd H3 p (.dK [])) p (.dK (qM [] sgK)) p=some (.dK (qM [] sgK)) from qe);rw[qmp K8] at gd;generalize upd (upd H3 p (.dK [])) p (.dK (qM [] sgK))=H4 at g4 gd;refine⟨_,rfl,a,_,_,vS (opW op),rfl,rfl,g4.seqT hT,rfl,p,vS [op],rfl,gd,?_⟩;exact qar (jm qA (jm qA (jm qA (jm qA dC (dwv (f:=zS) (n:=n) (jl rfl (g4.seqT hT) rfl) (tx.mono (zj g4)) (by omega) (by omega) ot) (by rw[XR];omega))
   (dvA rfl) (by simp only[Zb,XR];omega)) (dwv (f:=zS) (n:=n) (jl rfl (g4.seqT hT) rfl) (uy.mono (zj g4)) (by omega) (by omega) ou) (by simp only[Zb,XR];omega))
   dC (by simp only[Zb,XR];omega)) at0 λ H5 g5=>q H5 (g4.trans g5)
theorem qgp(F:Fun K sB3 sB3 vw f fd)(T:Txt mg)(B2:mg "int"=none)(bG:qh K fd [sA4] [])(mG:mg sB3=some (.ref f)):∀ n,FnOk P w K mg base CX0 n f fd [sA4] (qkX zS n)
 |0=>⟨λ vs H Q E h=>by obtain⟨_,t,_,_,h,_⟩:=h;have:=t.ht1;omega,λ A outer s H args us vs Q E _ _ _ _ h=>by obtain⟨_,t,_,_,h,_⟩:=h;have:=t.ht1;omega⟩
 |n+1=>qhw F T B2 bG mG (qgp F T B2 bG mG n)
def qkZ(n:Nat):Sp:=λ vs H Q _=>∃(v:V)(d:Addr)(t:Tr)(kvs:List (Key×V))(ρ:Nat->Bool)(ls:List Nat),vs=[v,.ref d]/\TrW H t v/\t.ht<=n/\t.Of ls/\H d=some (.dK kvs)/\(∀ c∈ls,zU kvs (.inr (qk [c]))=some (.bl (ρ c)))/\∀ H',qi H H'->Q (.bl (t.val ρ)) H'
theorem qb2:FnScope [sA4,sA1,sA8,sB2] [sA4,sA1] (qf jx):=scF
theorem dwt(h1:Dv (At σ0 H0) t1 x)(e1:σ0[1]?=some (some (.ref d)))(tr:TrW H0 t x)(ht:t.ht<=n)(of:t.Of ls)(hd:H0 d=some (.dK kvs))(hv:∀ c∈ls,zU kvs (.inr (qk [c]))=some (.bl (ρ c))):
  Dv (At σ0 H0) (qb8 (qkZ n) [] E0 (vC t1 (vC (qet 1) yH))) (.bl (t.val ρ)):=λ σ H Q hΓ q =>
 h1 σ H _ hΓ λ H1 g1=>⟨.ref d,by rw[hΓ.1];exact e1,x,d,t,kvs,ρ,ls,rfl,tr.mono (zj (hΓ.2.trans g1)),ht,of,(hΓ.2.trans g1) _ _ hd,hv,λ H' g=>q H' (g1.trans g)⟩
theorem qgq(F:Fun K sB1 sB1 jx f fd)(T:Txt mg)(bG:qh K fd [sA4,sA1] [])(mG:mg sB1=some (.ref f))(GG:FnOk P w K mg base CX0 n f fd [sA4,sA1] (qkZ n)):FnOk P w K mg base CX0 (n+1) f fd [sA4,sA1] (qkZ (n+1)):=by
 refine F.okd qb2 (λ cdv A outer s H vs Q E hr h=>?_);obtain⟨v,d,t,kvs,ρ,ls,rfl,tr,ht,of,hd,hv,q⟩:=h;have E6:=jI hr;have kG:=F.kp;refine⟨_,(qc (qY (qt zq (qv qz (by rfl) T.len J0 (qa (pv 0) qb)) qg (qB _)) (qd (ql (yf zq (qZ zl (pv 0) qg (λ _ _=>rfl)) qm (qB _)))) qC)
  (qc (qY (qt zq (qZ zl (pv 0) qg (λ _ _=>rfl)) qm (qB _)) (qd (ql (k7 E6 (pv 1) (qZ zl (pv 0) qg (λ _ _=>rfl)) (λ _ _=>rfl)))) qC)
  (qc (qx (i:=2) qb2.nd rfl (Or.inl rfl) (qiL GG hr mG kG bG (qa (qZ zl (pv 0) qg (λ _ _=>rfl)) (qa (pv 1) qb))))
  (qc (qY (qt zq (qZ zl (pv 0) qg (λ _ _=>rfl)) qm (qB _)) (qd (ql (qgy (pv 2)))) qC)
  (qc (qx (i:=3) qb2.nd rfl (Or.inl rfl) (qiL GG hr mG kG bG (qa (qZ zl (pv 0) qg (λ _ _=>rfl)) (qa (pv 1) qb))))
  (qc (qY (qt zq (qZ zl (pv 0) qg (λ _ _=>rfl)) qm (qB _)) (qd (ql (qjv (pv 2) (qgx (pv 3))))) qC)
  (qc (qY (qt zq (qZ zl (pv 0) qg (λ _ _=>rfl)) qm (qB _)) (qd (ql (qnR (pv 2) (qgx (pv 3))))) qC)
  (qd (ql (yf qfm (pv 2) (pv 3) (qB _))))))))))),?_⟩
 rw[qaX,qa0,qfa,qfb,qhu];cases t with
 |letter c =>
  obtain⟨a,rfl,h⟩:=tr;have hT:SqT K H a _:=SqT.of h;refine yh (zt (dIE qA (qay rfl hT) dC)) at0 (λ hb=>absurd hb (by simp)) (λ _ H1 g1=>?_);refine yh (zt (jF qA (jl rfl (g1.seqT hT) rfl) dC)) at0 (λ _ H2 g2=>?_) (λ hb=>absurd hb (by simp));have A9:=g1.trans g2;have gd:=qa8.k (k:=Sum.inr (qk [c])) (A9 _ _ hd);rw[hv c of] at gd;exact⟨_,rfl,_,rfl,a,_,_,_,rfl,rfl,A9.seqT hT,rfl,d,_,rfl,gd,q H2 A9⟩
 |one =>
  obtain⟨a,rfl,h⟩:=tr;have hT:SqT K H a _:=SqT.of h;refine yh (zt (dIE qA (qay rfl hT) dC)) at0 (λ _ H1 g1=>?_) (λ hb=>absurd hb (by simp));exact qar (jF qA (jl rfl (g1.seqT hT) rfl) dC) at0 λ H3 g3=>q H3 (g1.trans g3)
 |zero =>
  obtain⟨a,rfl,h⟩:=tr;have hT:SqT K H a _:=SqT.of h;refine yh (zt (dIE qA (qay rfl hT) dC)) at0 (λ _ H1 g1=>?_) (λ hb=>absurd hb (by simp));exact qar (jF qA (jl rfl (g1.seqT hT) rfl) dC) at0 λ H3 g3=>q H3 (g1.trans g3)
 |neg t =>
  obtain⟨a,x,rfl,h,tx⟩:=tr;have hT:SqT K H a _:=SqT.of h;have ht':t.ht<=n:=XJ ht;refine yh (zt (dIE qA (qay rfl hT) dC)) at0 (λ hb=>absurd hb (by simp)) (λ _ H1 g1=>?_);refine yh (zt (jF qA (jl rfl (g1.seqT hT) rfl) dC)) at0 (λ hb=>absurd hb (by decide)) (λ _ H2 g2=>?_);have A9:=g1.trans g2;refine qkw (i:=2) (dwt (jl rfl (A9.seqT hT) rfl) rfl (tx.mono (zj A9)) ht' of (A9 _ _ hd) hv) at0 λ H3 g3=>?_
  have O8:=A9.trans g3;refine yh (zt (jF qA (jl rfl (O8.seqT hT) rfl) dC)) at0 (λ _ H4 g4=>?_) (λ hb=>absurd hb (by decide));exact qar (qow (dvA rfl)) at0 λ H5 g5=>q H5 ((O8.trans g4).trans g5)
 |bin op t u =>
  obtain⟨a,x,y,rfl,h,tx,uy⟩:=tr;have hT:SqT K H a _:=SqT.of h;have hm:max t.ht u.ht+1<=n+1:=ht;obtain⟨K8,ot,ou⟩:=of;obtain⟨nl,nn,eA,eO⟩:=qkY K8;refine yh (zt (dIE qA (qay rfl hT) dC)) at0 (λ hb=>absurd hb (by simp)) (λ _ H1 g1=>?_);refine yh (zt (jF qA (jl rfl (g1.seqT hT) rfl) dC)) at0 (λ hb=>absurd (Ub hb) nl) (λ _ H2 g2=>?_);have A9:=g1.trans g2;refine qkw (i:=2) (dwt (jl rfl (A9.seqT hT) rfl) rfl (tx.mono (zj A9)) (by omega) ot (A9 _ _ hd) hv) at0 λ H3 g3=>?_
  have O8:=A9.trans g3;refine yh (zt (jF qA (jl rfl (O8.seqT hT) rfl) dC)) at0 (λ hb=>absurd (Ub hb) nn) (λ _ H4 g4=>?_);have g14:=O8.trans g4;refine qkw (i:=3) (dwt (jl rfl (g14.seqT hT) rfl) rfl (uy.mono (zj g14)) (by omega) ou (g14 _ _ hd) hv) at0 λ H5 g5=>?_
  have g15:=g14.trans g5;refine yh (zt (jF qA (jl rfl (g15.seqT hT) rfl) dC)) at0 (λ hb H6 g6=>?_) (λ hb H6 g6=>?_)
  ·have e:op=38:=eA.mp (Ub hb);refine qar (qov qA (dvA rfl) (dvA rfl)) at0 λ H7 g7=>?_
   have:=q H7 ((g15.trans g6).trans g7)
   rw[Tr.val,Vy e] at this;exact this
  have mB:¬ op=38:=λ e=>Zk hb (eA.mpr e)
  have g16:=g15.trans g6;refine yh (zt (jF qA (jl rfl (g16.seqT hT) rfl) dC)) at0 (λ hb H7 g7=>?_) (λ hb H7 g7=>?_)
  ·have e:op=124:=eO.mp (Ub hb);refine qar (qpq qA (dvA rfl) (dvA rfl)) at0 λ H8 g8=>?_
   have:=q H8 ((g16.trans g7).trans g8)
   rw[Tr.val,Vz mB,Vy e] at this;exact this
  have bJ:¬ op=124:=λ e=>Zk hb (eO.mpr e)
  refine qar (qpp qA (dvA rfl) (dvA rfl)) at0 λ H8 g8=>?_
  have:=q H8 ((g16.trans g7).trans g8)
  rw[Tr.val,Vz mB,Vz bJ] at this;exact this
theorem qem(F:Fun K sB1 sB1 jx f fd)(T:Txt mg)(bG:qh K fd [sA4,sA1] [])(mG:mg sB1=some (.ref f)):∀ n,FnOk P w K mg base CX0 n f fd [sA4,sA1] (qkZ n)
 |0=>⟨λ vs H Q E h=>by obtain⟨_,_,t,_,_,_,_,_,h,_⟩:=h;have:=t.ht1;omega,λ A outer s H args us vs Q E _ _ _ _ h=>by obtain⟨_,_,t,_,_,_,_,_,h,_⟩:=h;have:=t.ht1;omega⟩
 |n+1=>qgq F T bG mG (qem F T bG mG n)
noncomputable def zD(ls:List Nat)(r:List Bool):List (Key×V):=(ls.zip r).map λ x=>(Sum.inr (qk [x.1]),V.bl x.2)
theorem yN(hl:ls.length=r.length):zU (zD ls r) (.inr (qk [c]))=if c∈ls then some (.bl (asg ls r c)) else none:=by
 have key:∀(l:List (Nat×Bool)),zU (l.map λ x=>((Sum.inr (qk [x.1]):Key),V.bl x.2)) (.inr (qk [c]))=((l.find? λ x=>decide (x.1=c)).map λ x=>V.bl x.2):=by
  intro l;induction l with
  |nil=>rfl
  |cons x l ih =>
   unfold zU at ih ⊢;rw[Qc,U4,U4];have e:decide (((Sum.inr (qk [x.1]):Key))=.inr (qk [c]))=decide (x.1=c):=by
    by_cases h:x.1=c
    ·rw[h];simp
    ·rw[Jh h,Jh];intro e
     have:=qbq (Sum.inr.inj e)
     exact h (by simpa using this)
   dsimp only;rw[e];cases decide (x.1=c) with
   |true=>rfl
   |false=>exact ih
 unfold zD;rw[key];have mem:∀(ls:List Nat)(r:List Bool),ls.length=r.length->(((ls.zip r).find? λ x=>decide (x.1=c)).map λ x=>V.bl x.2)=if c∈ls then some (.bl (asg ls r c)) else none:=by
  intro ls;induction ls with
  |nil=>intro r h;simp
  |cons a ls ih =>
   intro r h;cases r with
   |nil=>simp at h
   |cons b r =>
    unfold asg;rw[Zd,U4];by_cases e:a=c
    ·subst e;simp
    ·have:=ih r (by simpa using h)
     rw[show decide ((a,b).1=c)=false from Jh e];dsimp only;rw[this];unfold asg;simp[Vr e]
 exact mem ls r hl
theorem qji(h:ls.length=r.length):zD (ls++[c]) (r++[b])=zD ls r++[((Sum.inr (qk [c]):Key),V.bl b)]:=by
 unfold zD;rw[U6 h,U7];rfl
theorem kX{ls:List Nat}(hl:ls.Nodup)(hi:i<ls.length):ls[i]∉ls.take i:=λ h=>by
 obtain⟨j,hj,e⟩:=Yw h;rw[Ue] at hj;rw[Z0] at e;exact absurd ((List.getElem_inj hl).mp e) (by omega)
theorem qbD(g:qi H H1)(h:H1 p=none):H p=none:=by
 cases e:H p with
 |none=>rfl
 |some u=>rw[g _ _ e] at h;cases h
noncomputable def qk0:List Int:=[32,16,8,4,2,1]
theorem qmq {k:Nat}(hn:n<=6)(hk:k<n):atI (qk0.map V.int) ((6:Int)-(n:Int)+(k:Int))=some (.int ((2^(n-1-k):Nat):Int)):=by
 have e:((6:Int)-(n:Int)+(k:Int))=((6-n+k:Nat):Int):=by omega
 rw[e];refine jW ?_;have key:∀ n,n<=6->∀ k,k<n->(qk0.map V.int)[6-n+k]?=some (V.int ((2^(n-1-k):Nat):Int)):=by decide
 exact key n hn k hk
theorem qk1(h:j<=9):qnZ 0 ((2^j:Nat):Int):=by
 rcases(show j=0∨j=1∨j=2∨j=3∨j=4∨j=5∨j=6∨j=7∨j=8∨j=9 by omega) with rfl|rfl|rfl|rfl|rfl|rfl|rfl|rfl|rfl|rfl <;> exact⟨by decide,by decide⟩
theorem qgr{ls:List Nat}{r:List Bool}(hc:ls[i]?=some c)(hb:r[i]?=some b):zD (ls.take (i+1)) (r.take (i+1))=zD (ls.take i) (r.take i)++[(.inr (qk [c]),.bl b)]:=by
 unfold zD;rw[q0 hc,q0 hb,U6 (by
  have h1:=vc hc;have h2:=vc hb;rw[Ue,Ue];omega),U7]
 rfl
def qhx:Sp:=λ vs H Q _=>∃(ls:List Nat)(N:Nat),vs=[vS ls,.int (N:Int)]/\ls.Nodup/\ls.length<=6/\∀ d H',qi H H'->H' d=some (.dK (zD ls (qG ls.length N)))->Q (.ref d) H'
theorem qcw:FnScope [sA0,sB4,sA1,sC0,sC4] [sA0,sB4] (qf qbX):=scF
theorem qmr(F:Fun K sD3 sD3 qbX f fd)(T:Txt mg): FnOk P w K mg base CX0 1 f fd [sA0,sB4] (qhx):=by
 refine F.okd qcw (λ cdv A outer s H vs Q E hr h=>?_);obtain⟨ls,N,rfl,nd,l6,q⟩:=h;have E6:=jI hr;refine⟨_,(qc (qx (i:=2) qcw.nd rfl (Or.inl rfl) qcK)
  (qc (qbs (n:=2) Jf rfl (qdn (by rfl) T.enumerate (qa (pv 0) qb)) (qH (qo (i:=3) qcw.nd rfl (Or.inl rfl)) (qH (qo (i:=4) qcw.nd rfl (Or.inl rfl)) zL))
  (qd (qcn E6 (pv 2) (pv 4) (yf zq (qr zx (qr yZ (pv 1) (qZ zz (zY (qa qg (qa qg (qa qg (qa qg (qa qg (qa qg qb))))))) (qr ye (qr qex qg (qv zQ (by rfl) T.len J0 (qa (pv 0) qb))) (pv 3)) (λ _ _=>rfl))) qg) qg (qB _)) rfl)))
  (qd (ql (pv 2))))),?_⟩
 have hs:(qk ls).cps.size=ls.length:=qw ls;have hl:(qk ls).length=ls.length:=qw ls;refine λ d hd=>?_
 refine⟨_,rfl,_,rfl,?_⟩;refine qbS (λ i σ H'=>∃ v3 v4:Option V,σ=[some (vS ls),some (.int (N:Int)),some (.ref d),v3,v4]/\qi H H'/\H' d=some (.dK (zD (ls.take i) ((qG ls.length N).take i)))) ⟨none,none,rfl,qi.up hd,qe⟩ ?_ ?_
 ·rintro i σ H1 hi ⟨v3,v4,rfl,g1,e1⟩;rw[hs] at hi;rw[yU hi];refine⟨_,_,rfl,_,_,rfl,rfl,?_⟩;have hb:=qf4 (N:=N) hi;have ns_:ls[i]∉ls.take i:=kX nd hi;have lr:(ls.take i).length=((qG ls.length N).take i).length:=by rw[Ue,Ue,zB]
  have vn:zU (zD (ls.take i) ((qG ls.length N).take i)) (.inr (qk [ls[i]]))=none:=by rw[yN lr,Vz ns_]
  have lk:(zD (ls.take i) ((qG ls.length N).take i)).length<sizeLine:=by unfold zD;rw[U0,Jg,Ue,Ue];exact zb (by omega)
  refine⟨_,rfl,qE (by show 6<=_;decide),λ p hp=>?_⟩;refine⟨_,rfl,_,rfl,by rw[hl];exact qE (by omega),?_⟩;rw[hl];refine⟨_,_,rfl,rfl,_,rfl,_,_,rfl,rfl,p,_,_,_,rfl,rfl,SqL.of (show upd H1 p (.lst (qk0.map V.int)) p=some (.lst (qk0.map V.int)) from qe),qmq l6 hi,_,_,rfl,rfl,qk1 (by omega),_,_,rfl,rfl,(show(0:Int)<2 by decide),rfl,?_⟩;have e2:=(qi.up hp (o:=.lst (qk0.map V.int))) _ _ e1;refine⟨_,rfl,_,rfl,d,_,rfl,.inl ⟨_,.inr (qk [ls[i]]),e2,rfl,lk,rfl⟩,?_⟩;refine⟨_,_,rfl,(g1.to hp).at hd,?_⟩;rw[qe,qa7 _ vn,qgr (Xv hi) hb];congr 5
  have:decide (V.int ((N:Int) / ((2^(ls.length-1-i):Nat):Int) % 2)=V.int 1)=decide (N / 2^(ls.length-1-i) % 2=1):=by
   refine Uw.mpr ?_;rw[V.int.injEq];constructor
   ·intro h;exact_mod_cast h
   ·intro h;exact_mod_cast h
  exact congrArg V.bl this
 ·rintro σ H1 ⟨v3,v4,rfl,g1,e1⟩;rw[hs,Ul,XF (by rw[zB];exact Q5 _)] at e1;exact⟨_,rfl,q d H1 g1 e1⟩
noncomputable def qms:List Int:=[1,2,4,8,16,32,64]
theorem qmt{n:Nat}(hn:n<=6):atI (qms.map V.int) (n:Int)=some (.int ((2^n:Nat):Int)):=by
 refine jW ?_;have key:∀ n,n<=6->(qms.map V.int)[n]?=some (V.int ((2^n:Nat):Int)):=by decide
 exact key n hn
def qcx:Sp:=λ vs H Q _=>∃ ls:List Nat,vs=[vS ls]/\ls.Nodup/\ls.length<=6/\∀ r ds H',qi H H'->H' r=some (.lst (ds.map V.ref))->Paired (λ d N=>H' d=some (.dK (zD ls (qG ls.length N)))) ds (List.range (2^ls.length))->Q (.ref r) H'
theorem qk2:FnScope [sA0] [sA0] (qf qaV):=scF
theorem qk3(F:Fun K sC6 sC6 qaV f fd)(T:Txt mg)(aF:Dp P w K mg base 1 oU oY [sA0,sB4] (qhx) sD3): FnOk P w K mg base CX0 2 f fd [sA0] (qcx):=by
 refine F.okd qk2 (λ cdv A outer s H vs Q E hr h=>?_);obtain⟨ls,rfl,nd,l6,q⟩:=h;refine⟨_,(qd (ql (zg (csc (NY:=[sB4,sA0]) (o:=1) (caps:=[0]) [sA0] rfl
    (by intro x hx;rw[Zg.mp hx];exact .inl rfl) (jz rfl rfl rfl yk) rfl) rfl
    (ya (by rfl) T.range (qa (qZ zz (zY (qa qg (qa qg (qa qg (qa qg (qa qg (qa qg (qa qg qb)))))))) (qv zQ (by rfl) T.len J0 (qa (pv 0) qb)) (λ _ _=>rfl)) qb)) (λ C0 s H fp pins=>qo (i:=0) (show([sB4,sA0]:List Str).Nodup by decide +kernel) rfl (Or.inl rfl)) (λ C0 s H fp pins=>ze) (λ C0 s H fp pins=>(zd aF hr (qa (pv 1) (qa (pv 0) qb))))))),?_⟩
 have hl:(qk ls).length=ls.length:=qw ls;have p64:2^ls.length<=64:=Qq (Yo (by decide) l6) (by decide);have c0:=Int.natCast_nonneg (2^ls.length);have c1:((2^ls.length:Nat):Int)<=64:=by exact_mod_cast p64
 refine⟨qE (by show 7<=_;decide),λ p hp=>?_⟩;refine⟨_,rfl,_,rfl,by rw[hl];exact qE (by omega),?_⟩;rw[hl];refine⟨p,_,_,_,rfl,rfl,SqL.of (show upd H p (.lst (qms.map V.int)) p=some (.lst (qms.map V.int)) from qe),qmt l6,_,rfl,Int.le_trans (by decide) c0,Int.lt_of_le_of_lt c1 (by decide),?_⟩;have en:(((2^ls.length:Nat):Int)).toNat=2^ls.length:=Zp _;refine yL (((2^ls.length:Nat):Int)).toNat (λ i ys H2=>∃ ds:List Addr,ys=ds.map V.ref/\Paired (λ d N=>H2 d=some (.dK (zD ls (qG ls.length N)))) ds (List.range i)) (λ D hD=>⟨[],rfl,.nil⟩) ?_ ?_ (λ H2 sm=>Q5 _) ?_
 ·rintro i ys H2 hi ⟨ds,rfl,hp⟩
  have:=hp.length
  rw[Zw] at this;rw[U0];exact zb (by omega)
 ·rintro i ys H2 D Y Z hi hD p4 sm ⟨ds,rfl,dF⟩ hY hZ;refine⟨hi,?_⟩;rintro x H' ⟨rfl,rfl⟩;refine⟨⟨rfl,rfl⟩,?_⟩;refine⟨_,rfl,_,rfl,ls,i,(by show [vS ls,V.int (0+(i:Int))]=[vS ls,V.int (i:Int)];rw[Q0]),nd,l6,λ d H3 g3 e3=>?_⟩;have eD:=g3 _ _ p4;refine hY _ _ eD (sm.trans g3) ⟨ds++[d],by rw[U7];rfl,?_⟩;rw[Jb];have up:∀{z:Addr}{kv:List (Key×V)},H3 z=some (.dK kv)->upd H3 D (.lst (ds.map V.ref++[.ref d])) z=some (.dK kv):=λ{z kv} h=>by
   have:z≠D:=λ q=>by rw[q,eD] at h;cases h
   rw[qp this];exact h
  exact qX (L2.Paired.mapP dF λ z N h=>up (g3 _ _ h)) (.cons (up e3) .nil)
 ·rintro D H2 ys hD sm p4 ⟨ds,rfl,dF⟩;rw[en] at dF;exact q D ds H2 ((qi.up hp).trans sm) p4 dF
def jp(H:Hp)(p:Addr)(x:Tr×Tr):Prop:=∃ a b:V,H p=some (.tup [a,b])/\TrW H x.1 a/\TrW H x.2 b
theorem jp.mono(h:jp H p x)(g:zH H H'):jp H' p x:=let ⟨a,b,e,o1,o2⟩:=h;⟨a,b,g _ _ e,o1.mono g,o2.mono g⟩
def qdC(K:W.Frag):Sp:=λ vs H Q _=>∃(a:Addr)(ns:List Int)(ls:List Nat)(most x5:Int),vs=[.ref a,vS ls,.int most,.int x5]/\Scr K H a ns/\ls.length<=9/\0<=most/\most<=6/\1<=x5/\x5<=20 /\
 ∀ r ps (xs:List (Tr×Tr)) H',qi H H'->H' r=some (.lst (ps.map V.ref))->Paired (jp H') ps xs->(xs.length:Int)<=most->(∀ x∈xs,x.1.Of ls/\x.2.Of ls/\(x.1.wt:Int)<=x5/\(x.2.wt:Int)<=x5)->Q (.ref r) H'
theorem jR:FnScope [sA2,sA0,sD2,sA9,sA3,sC0,"_law_size","_law_left"] [sA2,sA0,sD2,sA9] (qf vy):=scF
theorem qjj(F:Fun K sC5 sC5 vy f fd)(T:Txt mg)(o4:Dp P w K mg base 1 L0 L6 [sA2,sC0] (kW K) sB9)(K5:Dp P w K mg base 2 iW iY [sA2,"_law_at",sA9,sA0] (qhv K) sD1): FnOk P w K mg base CX0 3 f fd [sA2,sA0,sD2,sA9] (qdC K):=by
 refine F.okd jR (λ cdv A outer s H vs Q E hr h=>?_);obtain⟨a,ns,ls,most,x5,rfl,hS,l9,s0,s6,n1,n20,q⟩:=h;refine⟨_,(qc (qx (i:=4) jR.nd rfl (Or.inl rfl) (zY qb))
  (qc (yn Jf rfl (ya (by rfl) T.range (qa (qr zx (zd o4 hr (qa (pv 0) (qa qg qb))) (qr ye (pv 2) qg)) qb)) (qo (i:=5) jR.nd rfl (Or.inl rfl))
  (qc (qx (i:=6) jR.nd rfl (Or.inl rfl) (qr ye qg (qr zx (zd o4 hr (qa (pv 0) (qa (qr ye qg (pv 5)) qb))) (pv 3))))
  (qc (qx (i:=7) jR.nd rfl (Or.inl rfl) (zd K5 hr (qa (pv 0) (qa (qr ye qg (qr qbM qg (pv 5))) (qa (pv 6) (qa (pv 1) qb))))))
  (qd (yt (yW X9 Xy Xz yb (pv 4) (qa (zM (qa (pv 7) (qa (zd K5 hr (qa (pv 0) (qa (qr ye qg (qr qbM qg (pv 5))) (qa (qr ye qg (qr zx (qr yZ (zd o4 hr (qa (pv 0) (qa (qr ye qg (pv 5)) qb))) qg) (pv 3))) (qa (pv 1) qb))))) qb))) qb)))))))
  (qd (ql (pv 4))))),?_⟩
 refine⟨Q6 _,λ p0 xZ=>?_⟩;have g0:=qi.up xZ (o:=.lst []);refine⟨_,rfl,a,ns,1,rfl,hS.mono g0,by decide,by decide,λ z H1 g1 z0 z1=>?_⟩;have m0:=Ja z (b:=most+1) (by omega);have m1:=Zh z (b:=most+1) (by omega);refine⟨_,rfl,_,_,rfl,rfl,_,_,rfl,rfl,(by show(0:Int)<most+1;omega),_,rfl,by show _<=z % (most+1);omega,by show z % (most+1)<_;omega,?_⟩;have g01:=g0.trans g1;refine k5 (λ i σ H'=>∃(ps:List Addr)(xs:List (Tr×Tr))(v5 v6 v7:Option V),σ=[some (.ref a),some (vS ls),some (.int most),some (.int x5),some (.ref p0),v5,v6,v7]/\qi H H'/\H' p0=some (.lst (ps.map V.ref))/\Paired (jp H') ps xs/\xs.length=i/\∀ x∈xs,x.1.Of ls/\x.2.Of ls/\(x.1.wt:Int)<=x5/\(x.2.wt:Int)<=x5)
  ⟨[],[],none,none,none,rfl,g01,g1 _ _ qe,.nil,rfl,by simp⟩ ?_ ?_
 ·rintro i σ H2 hi ⟨ps,xs,v5,v6,v7,rfl,g2,e2,pr,lx,ok⟩;have hi6:(i:Int)<7:=by
   have:(i:Int)<z % (most+1):=by omega
   omega
  refine⟨_,rfl,_,rfl,_,_,rfl,rfl,a,ns,_,rfl,hS.mono g2,?_,?_,λ y H3 g3 y0 y1=>?_⟩
  ·show(0:Int)<=2+(0+(i:Int));omega
  ·show 2+(0+(i:Int))<=100000;omega
  have c0:=Ja y (b:=x5) (by omega);have c1:=Zh y (b:=x5) (by omega);refine⟨_,rfl,_,_,rfl,rfl,(by show(0:Int)<x5;omega),_,_,rfl,rfl,?_⟩;have g23:=g2.trans g3;refine⟨_,rfl,_,rfl,_,_,rfl,rfl,.inl ⟨by decide,by decide⟩,_,_,rfl,rfl,_,rfl,_,rfl,a,ns,_,1+y % x5,ls,rfl,hS.mono g23,?_,?_,by omega,by omega,l9,λ t v H4 g4 tr of wt=>?_⟩
  ·show(0:Int)<=10+20*(0+(i:Int));omega
  ·show 10+20*(0+(i:Int))<=1000;omega
  have e4:=(g3.trans g4) _ _ e2;have g24:=g23.trans g4;refine⟨_,rfl,.inl ⟨rfl,_,SqL.of e4⟩,_,rfl,_,rfl,_,rfl,_,_,rfl,rfl,.inl ⟨by decide,by decide⟩,_,_,rfl,rfl,_,rfl,_,rfl,_,_,rfl,rfl,a,ns,_,rfl,hS.mono g24,?_,?_,λ y' H5 g5 y0' y1'=>?_⟩
  ·show(0:Int)<=2+(0+(i:Int));omega
  ·show 2+(0+(i:Int))<=100000;omega
  have d0:=Ja (y' / 16) (b:=x5) (by omega);have d1:=Zh (y' / 16) (b:=x5) (by omega);have g25:=g24.trans g5;refine⟨_,_,rfl,rfl,⟨by decide,by decide⟩,_,rfl,_,_,rfl,rfl,(by show(0:Int)<x5;omega),_,_,rfl,rfl,_,rfl,a,ns,_,1+y' / 16 % x5,ls,rfl,hS.mono g25,?_,?_,by omega,by omega,l9,λ t2 v2 H6 g6 tr2 of2 wt2=>?_⟩
  ·show(0:Int)<=20+20*(0+(i:Int));omega
  ·show 20+20*(0+(i:Int))<=1000;omega
  refine⟨qE (by show 2<=_;decide),λ p hp=>?_⟩;have g46:=g5.trans g6;have e6:=(g46.to hp (o:=.tup [v,v2])) _ _ e4;have lp:ps.length=i:=by rw[pr.length,lx]
  refine⟨p0,_,_,rfl,rfl,e6,by rw[U0];exact zb (by omega),?_⟩;have cT:=(zj ((g3.trans g4).trans (g46.to hp (o:=.tup [v,v2])))).trans (zH.updL e6 (o:=.lst (ps.map V.ref++[.ref p])));have cT4:=(zj (g46.to hp (o:=.tup [v,v2]))).trans (zH.updL e6 (o:=.lst (ps.map V.ref++[.ref p])));have cT6:=(zj (qi.up hp (o:=.tup [v,v2]))).trans (zH.updL e6 (o:=.lst (ps.map V.ref++[.ref p])));refine⟨ps++[p],xs++[(t,t2)],_,_,_,rfl,((g25.trans g6).to hp).at xZ,by rw[qe,U7];rfl,?_,by rw[Zb,lx];rfl,λ x hx=>?_⟩
  ·exact qX (qR (λ z w h=>jp.mono h cT) pr) (.cons ⟨v,v2,(zH.updL e6) _ _ qe,tr.mono cT4,tr2.mono cT6⟩ .nil)
  ·rcases Uy.mp hx with hx | hx
   ·exact ok x hx
   ·rw[Zg.mp hx];exact⟨of,of2,by show(t.wt:Int)<=x5;omega,by show(t2.wt:Int)<=x5;omega⟩
 ·rintro σ H2 ⟨ps,xs,v5,v6,v7,rfl,g2,e2,pr,lx,ok⟩;exact⟨_,rfl,q p0 ps xs H2 g2 e2 pr (by rw[lx];omega) ok⟩
noncomputable def qdD(x:Tr×Tr):List Nat:=x.1.text++[32,61,32]++x.2.text
def qb3:Sp:=λ vs H Q _=>∃(r:Addr)(ps:List Addr)(xs:List (Tr×Tr)),vs=[.ref r]/\H r=some (.lst (ps.map V.ref))/\Paired (jp H) ps xs/\xs.length<=100/\(∀ x∈xs,x.1.Of zC/\x.2.Of zC/\x.1.wt<=20/\x.2.wt<=20)/\∀ r' H',qi H H'->H' r'=some (.lst (xs.map λ x=>vS (qdD x)))->Q (.ref r') H'
theorem qhy:FnScope [sA3] [sA3] (qf jD):=scF
theorem qk4:(["_law_left","_law_right"]:List Str).Nodup:=by decide +kernel
theorem qhz(F:Fun K sC2 sC2 jD f fd)(GT:Dp P w K mg base 20 fT fdT [sA4] (qkX zS 20) sB3):FnOk P w K mg base CX0 21 f fd [sA3] qb3:=by
 refine F.okd qhy (λ cdv A outer s H vs Q E hr h=>?_);obtain⟨r,ps,xs,rfl,O4,pr,l6,ok,q⟩:=h;have dB:Room 20 _:=hr.mono (by decide);refine⟨_,qd (ql (zg (csc (NY:=["_law_left","_law_right"]) (o:=2) (caps:=[]) [] rfl (by simp) yk rfl) rfl
    (zF (pv 0)) (λ C0 s H fp pins=>(show PG _ _ (qls K 2 (qcB (vG 0) (qcB (vG 1) qlr))) from qcC (n:=2) rfl (qH (qo (i:=0) qk4 rfl (Or.inl rfl) (hf:=Or.inr rfl)) (qH (qo (i:=1) qk4 rfl (Or.inl rfl) (hf:=Or.inr rfl)) zL)))) (λ C0 s H fp pins=>ze)
    (λ C0 s H fp pins=>(qr qN (qr qN (zd GT dB (qa (pv 0) qb)) qm) (zd GT dB (qa (pv 1) qb)))))),?_⟩
 rw[show(" = ":Str)=qk [32,61,32] by decide +kernel];have pS:ps.length=xs.length:=pr.length;refine⟨_,rfl,r,rfl,⟨_,SqL.of O4⟩,?_⟩;refine vX (SqL.of O4) (λ i=>(xs.take i).map λ x=>vS (qdD x)) rfl (λ i hi=>?_) ?_ ?_
 ·rw[U0,Ue];exact zb (by omega)
 ·intro i v H' D2 Y Z hv iV W1 bW hY hZ;obtain⟨p,hp,rfl⟩:=qj hv;obtain⟨x,hx,wp⟩:=qS pr i p hp;obtain⟨a,b,e1,o1,o2⟩:=wp.mono (zj bW);obtain⟨t9,u9,tw,uw⟩:=ok x (Yh hx);have th:=x.1.ht_wt;have uh:=x.2.ht_wt;have lt:=x.1.text_len;have lu:=x.2.text_len;refine⟨p,_,rfl,SqT.of e1,rfl,_,_,rfl,_,_,rfl,rfl,⟨rfl,rfl⟩,?_⟩;refine(jm qA (jm qA (dwv (f:=zS) (n:=20) (dvA rfl) o1 (by omega) (by omega) t9) dC (by show _+3<=_;omega)) (dwv (f:=zS) (n:=20) (dvA rfl) o2 (by omega) (by omega) u9) (by rw[Zb];show _+3+_<=_;omega)) _ _ _ at0 λ rL uO=>?_
  exact hY _ _ (uO _ _ W1) (bW.trans uO) (zr (f:=λ x=>vS (qdD x)) hx)
 intro D H6 hD s6 h6;rw[U0,pS,Ul] at h6;exact q D H6 s6 h6
def qan(K:W.Frag):Sp:=λ vs H Q _=>∃(r d:Addr)(ps:List Addr)(xs:List (Tr×Tr))(kvs:List (Key×V))(ρ:Nat->Bool)(ls:List Nat),vs=[.ref r,.ref d]/\H r=some (.lst (ps.map V.ref))/\Paired (jp H) ps xs/\xs.length<=100/\(∀ x∈xs,x.1.Of ls/\x.2.Of ls/\x.1.ht<=20/\x.2.ht<=20)/\H d=some (.dK kvs)/\(∀ c∈ls,zU kvs (.inr (qk [c]))=some (.bl (ρ c))) /\
 ∀ r' (is:List Int) H',qi H H'->H' r'=some (.lst (is.map V.int))->decide (0<is.length)=(xs.any λ x=>x.1.val ρ != x.2.val ρ)->Q (.ref r') H'
theorem qhA:FnScope [sA3,sA1] [sA3,sA1] (qf jE):=scF
theorem qk5:([sC0,"_law_wish",sA1]:List Str).Nodup:=by decide +kernel
theorem qhB(F:Fun K sB5 sB5 jE f fd)(T:Txt mg)(GT:Dp P w K mg base 20 fT fdT [sA4,sA1] (qkZ 20) sB1):FnOk P w K mg base CX0 21 f fd [sA3,sA1] (qan K):=by
 refine F.okd qhA (λ cdv A outer s H vs Q E hr h=>?_);obtain⟨r,d,ps,xs,kvs,ρ,ls,rfl,O4,pr,l6,ok,hd,hv,q⟩:=h;have dB:Room 20 _:=hr.mono (by decide);refine⟨_,qd (ql (qbf (n:=2) (csc (NY:=[sC0,"_law_wish",sA1]) (o:=2) (caps:=[1]) [sA1] rfl
    (by intro x hx;rw[Zg.mp hx];exact .inl rfl) (jz rfl rfl rfl yk) rfl) rfl
    (qlD (by rfl) T.enumerate (qa (pv 0) qb))
    (λ C0 s H fp pins=>qH (qo (i:=0) qk5 rfl (Or.inl rfl)) (qH (qo (i:=1) qk5 rfl (Or.inl rfl)) zL)) (λ _=>rfl) (λ _=>rfl)
    (λ C0 s H fp pins=>(qab (qt qfm (zd GT dB (qa (qZ (r:=qlz K) zl (pv 1) qg (λ _ _=>rfl)) (qa (pv 2) qb))) (zd GT dB (qa (qZ (r:=qlz K) zl (pv 1) qg (λ _ _=>rfl)) (qa (pv 2) qb))) (qB _)))) (λ C0 s H fp pins=>(pv 0)))),?_⟩
 have pS:ps.length=xs.length:=pr.length;refine⟨_,rfl,r,rfl,⟨_,SqL.of O4⟩,?_⟩;refine yL (ps.map V.ref).length (λ i ys H'=>∃ is:List Int,ys=is.map V.int/\is.length<=i/\decide (0<is.length)=((xs.take i).any λ x=>x.1.val ρ != x.2.val ρ)) (λ D hD=>⟨[],rfl,Q5 _,rfl⟩) (λ i ys H' hi ⟨is,e,hl,_⟩=>by rw[e,U0];rw[U0] at hi;exact zb (by omega)) ?_ (λ H' sm=>⟨_,sm.seq (SqL.of O4),Q5 _⟩) ?_
 ·rintro i ys H' D Y Z hi hD W1 sm ⟨is,rfl,hl,O7⟩ hY hZ;refine⟨⟨_,_,sm.seq (SqL.of O4),Xv hi⟩,?_⟩;rintro zs rL ⟨rfl,v,rfl,bK⟩;have ev:=bK _ (sm.seq (SqL.of O4));obtain⟨p,hp,rfl⟩:=qj ev;obtain⟨x,hx,wp⟩:=qS pr i p hp;obtain⟨a,b,e1,o1,o2⟩:=wp.mono (zj sm);obtain⟨t9,u9,th,uh⟩:=ok x (Yh hx);refine⟨rfl,_,_,rfl,_,_,rfl,rfl,⟨rfl,rfl⟩,?_⟩;refine⟨_,rfl,p,_,_,_,rfl,rfl,SqT.of e1,rfl,_,rfl,a,d,x.1,kvs,ρ,ls,rfl,o1,th,t9,sm _ _ hd,hv,λ H1 g1=>?_⟩;refine⟨_,rfl,p,_,_,_,rfl,rfl,SqT.of (g1 _ _ e1),rfl,_,rfl,b,d,x.2,kvs,ρ,ls,rfl,o2.mono (zj g1),uh,u9,g1 _ _ (sm _ _ hd),hv,λ H2 g2=>?_⟩;have A9:=g1.trans g2;have xC:((xs.take (i+1)).any λ x=>x.1.val ρ != x.2.val ρ)=(((xs.take i).any λ x=>x.1.val ρ != x.2.val ρ) || (x.1.val ρ != x.2.val ρ)):=by rw[q0 hx,List.any_append];simp
  refine⟨rfl,_,rfl,?_⟩;rw[qeN];refine vM (λ c=>?_) (λ c=>?_)
  ·refine⟨_,rfl,hY _ _ (A9 _ _ W1) (sm.trans A9) ⟨is++[(i:Int)],by rw[U7];rfl,by rw[Zb,XR];omega,?_⟩⟩;rw[xC,c,Bool.or_true];exact J4 (by rw[Zb,XR];omega)
  ·refine hZ _ (A9 _ _ W1) (sm.trans A9) ⟨is,rfl,by omega,?_⟩;rw[xC,Zv.mpr c,Qf,O7]
 ·rintro D H6 ys hD s6 h6 ⟨is,rfl,hl,O7⟩;rw[U0,pS,Ul] at O7;exact q D is H6 s6 h6 O7
theorem qb4:bootBuiltins "isinstance"=some (.builtin "isinstance"):=by decide +kernel
theorem qnG:bootBuiltins "str"=some (.type "str"):=by decide +kernel
def qfd:Sp:=λ vs H Q _=>∃(a:Addr)(F:List Pr)(ls:List Nat),vs=[.ref a,vS ls]/\H a=some (.tup (F.map vS))/\On ls F/\ls.Pairwise (·<·)/\ls.length<=9/\F.length<=600/\∀ H',qi H H'->Q (.bl true) H'
theorem qgs:FnScope [sA7,sA0,sA8] [sA7,sA0] (qf yT):=scF
theorem qk6(F:Fun K sB6 sB6 yT f fd)(T:Txt mg): FnOk P w K mg base CX0 1 f fd [sA7,sA0] (qfd):=by
 refine F.okd qgs (λ cdv A outer s H vs Q E hr h=>?_);obtain⟨a,F,ls,rfl,hF,oF,hl,l9,W2,q⟩:=h;have hu:=Nat.lt_of_succ_lt (jI hr);refine⟨_,(qc (qY (PW.pt (qcA (qbL (jf (qv qdc (by rfl) T.isinstance qb4 (qa (pv 0) (qa (qeu (v:=.ty "tuple") (by rfl) T.tuple qdv rfl) qb)))))
   (qaB (qbL (jf (qv (js rfl) (by rfl) T.all qe2 (qa (zg (csc (NY:=[sA8]) (o:=1) (caps:=[]) [] rfl
    (by simp) yk rfl) rfl
    (qcE (pv 0)) (λ C0 s H fp pins=>qo (i:=0) (show([sA8]:List Str).Nodup by decide +kernel) rfl (Or.inl rfl)) (λ C0 s H fp pins=>ze) (λ C0 s H fp pins=>(qv (r:=qoj K) qdc (by rfl) T.isinstance qb4 (qa (pv 0) (qa (qeu (v:=.ty "str") (by rfl) T.tup qnG rfl) qb))))) qb)))))))
   (qd (ql qa3)) qC)
  (qc (yn Jf rfl (qcE (pv 0)) (qo (i:=2) qgs.nd rfl (Or.inr rfl))
  (qd (qY (qt qfm (pv 2) (yW XI Ya Yb qac qm (qa (zg (csc (NY:=[sC4,sA8]) (o:=1) (caps:=[2]) [sA8] rfl
    (by intro x hx;rw[Zg.mp hx];exact .inl rfl) (jz rfl rfl rfl yk) rfl) rfl
    (vT (pv 1)) (λ C0 s H fp pins=>qo (i:=0) (show([sC4,sA8]:List Str).Nodup by decide +kernel) rfl (Or.inl rfl)) (λ C0 s H fp pins=>(qab (qt jN (pv 0) (pv 1) rfl))) (λ C0 s H fp pins=>(pv 0))) qb)) (qB _))
   (qd (ql qa3)) qC)))
  (qd (ql (yf (qlE qc1 hu) (zu jX (by rfl) T.list qcs (qa (pv 0) qb)) (qv (kg rfl) (by rfl) T.sorted qah (qa (zu (qbi rfl) (by rfl) T.set qe1 (qa (pv 0) qb)) qb)) (qB _)))))),?_⟩
 have hz:("":Str).length=0:=by decide
 have hs:(qk ls).cps.size=ls.length:=qw ls;refine⟨_,rfl,_,_,rfl,TyOf.tup hF,true,rfl,?_⟩;refine zN ?_;refine⟨_,rfl,a,rfl,⟨_,SqT.of hF⟩,?_⟩;refine qj5 (SqT.of hF) (λ j=>(F.take j).map λ _=>V.bl true) rfl (λ j hj=>?_) ?_ ?_
 ·rw[U0,Ue];rw[U0] at hj;exact zb (by omega)
 ·intro j x H2 D Y Z hx hD p4 sm hY hZ;obtain⟨p,hp,rfl⟩:=qj hx;refine⟨⟨rfl,rfl⟩,?_⟩;refine⟨_,rfl,_,_,rfl,TyOf.str _,?_⟩;exact hY _ _ p4 sm (zr (f:=λ _=>V.bl true) hp)
 intro D H2 hD sm p4;rw[U0,Ul] at p4;refine⟨D,F.map λ _=>true,rfl,SqL.of (by rw[p4,Qv];rfl),_,rfl,?_⟩;rw[show((F.map λ _=>true).all id)=true by rw[List.all_map];simp];refine zN ?_;refine⟨_,rfl,a,rfl,⟨_,SqT.of (sm _ _ hF)⟩,?_⟩;refine qhL (K:=K) (xs:=F.map vS) (λ i σ H5=>∃ v2:Option V,σ=[some (.ref a),some (vS ls),v2]/\qi H H5) ⟨none,rfl,sm⟩ (λ i σ H5 hi ⟨_,_,g⟩=>SqT.of (g _ _ hF)) ?_ ?_
 ·rintro i x σ H5 hx ⟨v2,rfl,g5⟩;obtain⟨p,hp,rfl⟩:=qj hx;have mK:=Yh hp;have sp:=jK hl (oF.vf.prod p mK) (oF.mem p mK);have lp:=sp.length_le;refine⟨_,rfl,rfl,?_⟩;refine⟨_,rfl,_,rfl,?_⟩;refine qbQ (λ j=>((ls.take j).filter λ c=>decide (c∈p)).map λ c=>vS [c]) rfl (λ j hj=>?_) ?_ ?_
  ·rw[U0];have:=XY (λ c=>decide (c∈p)) (ls.take j);rw[Ue] at this;exact zb (by omega)
  ·intro j H6 D6 Y Z hj oQ M4 S3 hY hZ;rw[hs] at hj;rw[yU hj];have fs:=kn (f:=λ c=>decide (c∈p)) hj;refine⟨⟨rfl,rfl⟩,?_⟩;refine⟨_,rfl,_,rfl,_,_,rfl,rfl,_,rfl,?_⟩;refine vM (λ c=>?_) (λ c=>?_)
   ·refine⟨_,rfl,hY _ _ M4 S3 ?_⟩;show List.map _ ((ls.take (j+1)).filter _)=_
    rw[fs,Vy c,U7];rfl
   ·refine hZ _ M4 S3 ?_;show List.map _ ((ls.take (j+1)).filter _)=_
    rw[fs,Vz c,U1]
  ·intro D6 H6 oQ S3 M4;rw[hs,Ul,qcc hl (hl.sublist sp) (λ c h=>sp.subset h)] at M4;refine⟨_,D6,(p.map λ c=>[c]).map qk,rfl,rfl,.inl (SqL.of (by rw[M4,vg,zV])),?_,?_⟩
   ·rw[jM,hz,zK];show _+_*0<=_;omega
   rw[jL,zK];refine⟨rfl,_,rfl,?_⟩;rw[show(!decide (V.str (qk p)=V.str (qk p)))=false by rw[show decide (V.str (qk p)=V.str (qk p))=true from qmJ p];rfl];exact zN ⟨_,rfl,g5.trans S3⟩
 ·rintro σ H5 ⟨v2,rfl,g5⟩;refine⟨_,rfl,a,_,rfl,.inr (SqT.of (g5 _ _ hF)),λ l1 h1=>?_⟩;have hF3:upd H5 l1 (.lst (F.map vS)) a=some (.tup (F.map vS)):=(qi.up h1) _ _ (g5 _ _ hF);refine⟨_,rfl,F.map qk,.inl ⟨a,rfl,.inr (by rw[<- zV];exact SqT.of hF3)⟩,by rw[U0];show _<4096;omega,λ l2 ys h2 lY m1=>?_⟩;have md:∀ x,x∈ys ↔ cs x∈F:=λ x=>(m1 x).trans vY
  have y1:ys.length=F.length:=vZ lY oF.vf.nodup md;refine⟨l2,ys,rfl,qe,by show _<4096;omega,lY,λ l3 h3=>?_⟩;rw[qeO lY oF.vf.nodup md,qjJ oF.vf.rise];refine⟨l1,l3,F.map qk,F.map qk,rfl,rfl,.inr ⟨SqL.of (by rw[<- zV];exact(((qi.up h2).to h3) _ _ qe)),SqL.of (by rw[<- zV,qe])⟩,?_⟩
  have:=q _ (((g5.to h1).to h2).to h3 (o:=.lst (F.map vS)))
  simpa using this
structure TaskC(K:W.Frag)(CT:Addr):Prop where
 cls:Cls K CT
 n1:NoAttr K CT "given_letters"
 n2:NoAttr K CT "gap_letters"
 n3:NoAttr K CT "wish_texts"
 n4:NoAttr K CT "side_forms"
 n5:NoAttr K CT "fault_form"
noncomputable def asW(x:Tr×Tr):Wsh:=⟨0,1,1,0,x.1,x.2⟩
theorem qk7(x:Tr×Tr):(asW x).text=qdD x:=by
 unfold asW qdD Wsh.text;simp
theorem qhC(xs:List (Tr×Tr)):((xs.map asW).map λ y=>vS y.text)=xs.map λ x=>vS (qdD x):=by
 rw[Qv];exact Y4 λ x _=>by show vS (asW x).text=_;rw[qk7]
theorem kZ:∀ t:Tr,t.nodes<=2*(t.wt:Int)-1
 |.letter _=>by show(1:Int)<=2*((1:Nat):Int)-1;decide
 |.one=>by show(1:Int)<=2*((1:Nat):Int)-1;decide
 |.zero=>by show(1:Int)<=2*((1:Nat):Int)-1;decide
 |.neg t=>by have:=kZ t;show 1+t.nodes<=2*((t.wt+1:Nat):Int)-1;omega
 |.bin _ t u=>by have:=kZ t;have:=kZ u;show 1+t.nodes+u.nodes<=2*((t.wt+u.wt:Nat):Int)-1;omega
theorem qnH(h1:x.1.Of ls)(h2:x.2.Of ls)(w1:x.1.wt<=10)(w2:x.2.wt<=10):(asW x).Ok ls:=by
 have a:=kZ x.1;have b:=kZ x.2;exact⟨⟨Q6 _,by show 1<=100;decide,by show 1<=100;decide,Q6 _⟩,h1,h2,by show x.1.nodes<=20;omega,by show x.2.nodes<=20;omega⟩
theorem qce(ρ:Nat->Bool)(xs:List (Tr×Tr))(h:∀ x∈xs,x.1.Of ls/\x.2.Of ls):qy ρ (qU ((xs.map asW).map Wsh.side))=xs.any λ x=>x.1.val ρ != x.2.val ρ:=by
 have key:∀(l:List (Tr×Tr)),(∀ x∈l,x.1.Of ls/\x.2.Of ls)->On ls (qU ((l.map asW).map Wsh.side)):=λ l hl=>qb0 _ λ z hz=>by
  obtain⟨y,hy,rfl⟩:=Qu.mp hz;obtain⟨x,hx,rfl⟩:=Qu.mp hy;exact⟨Tr.on (hl x hx).1,Tr.on (hl x hx).2⟩
 have ind:∀ n,n<=xs.length->qy ρ (qU (((xs.take n).map asW).map Wsh.side))=(xs.take n).any λ x=>x.1.val ρ != x.2.val ρ:=by
  intro n;induction n with
  |zero=>intro _;rfl
  |succ n ih =>
   intro hn;have hx:xs[n]?=some xs[n]:=Xv (by omega);have hm:=Uk (l:=xs) (n:=n) (by omega);have o1:=Tr.on (h _ hm).1;have o2:=Tr.on (h _ hm).2;rw[q0 hx,U7,U7,List.any_append];show qy ρ (qU (_++[(xs[n].1.form,xs[n].2.form)]))=_
   rw[qcd,qcX ρ (key _ λ x hx=>h x (Ym hx)).vf (o1.added o2).vf,ih (by omega),yJ ρ o1.vf o2.vf,Tr.form_worth ρ (h _ hm).1,Tr.form_worth ρ (h _ hm).2];simp
 have:=ind xs.length (Q5 _)
 rw[Ul] at this;exact this
theorem qk8{xs:List (Tr×Tr)}(h:∀ x∈xs,x.1.Of ls/\x.2.Of ls):On ls (qU ((xs.map asW).map Wsh.side)):=qb0 _ λ z hz=>by
 obtain⟨y,hy,rfl⟩:=Qu.mp hz;obtain⟨x,hx,rfl⟩:=Qu.mp hy;exact⟨Tr.on (h x hx).1,Tr.on (h x hx).2⟩
theorem qjk(hx:H1 x=none)(hd:H1 dx=none)(b:But x (upd (upd H1 dx o1) x o2) H2):qi H1 H2:=λ a o e=>by
 have n1:a≠x:=λ q=>by rw[q,hx] at e;cases e
 have n2:a≠dx:=λ q=>by rw[q,hd] at e;cases e
 exact b a o n1 (by rw[qp n1,qp n2];exact e)
def qbE:Sp:=λ vs H Q _=>∃(ls:List Nat),vs=[vS ls]/\ls.length<=9/\Q (.int ((2^ls.length:Nat):Int)) H
theorem qbF:FnScope ["letters","count","place"] ["letters"] (qf kt):=scF
theorem qk9(F:Fun K "row_count" "row_count" kt f fd)(T:Txt mg):FnOk P w K mg base CX0 (k+1) f fd ["letters"] qbE:=by
 refine F.okd qbF (λ cdv A outer s H vs Q E hr h=>?_);obtain⟨ls,rfl,h9,q⟩:=h;refine⟨_,qc (qx (i:=1) qbF.nd rfl (Or.inl rfl) qg)
  (qc (yn Jf rfl (ya rfl T.range (qa (qv zQ rfl T.len J0 (qa (pv 0) qb)) qb)) (qo (i:=2) qbF.nd rfl (Or.inl rfl))
   (qd (qx (i:=1) qbF.nd rfl (Or.inl rfl) (qr qbM qg (pv 1)))))
  (qd (ql (pv 1)))),?_⟩
 have hz:(qk ls).length=ls.length:=qw ls;refine⟨_,rfl,_,rfl,by rw[hz];exact qE (by omega),_,rfl,by rw[hz];omega,by rw[hz];omega,?_⟩;rw[hz];refine k5 (λ i σ H1=>∃(v:Option V),σ=[some (vS ls),some (.int ((2^i:Nat):Int)),v]/\H1=H) ⟨none,rfl,rfl⟩ ?_ ?_
 ·rintro i σ H1 hi ⟨v,rfl,rfl⟩;refine⟨_,rfl,_,_,rfl,rfl,.inl ⟨by decide,by decide⟩,?_⟩;refine⟨some (.int (0+(i:Int))),?_,rfl⟩;show [some (vS ls),some (V.int (2*((2^i:Nat):Int))),_]=_
  rw[show(2:Int)*((2^i:Nat):Int)=((2^(i+1):Nat):Int) by rw[Qt];omega]
 ·rintro σ H1 ⟨v,rfl,rfl⟩;have e:((ls.length:Int)).toNat=ls.length:=Zp _;rw[e];exact⟨_,rfl,q⟩
theorem qen:∀(l c7:List (Key×V)),((c7++l).map (·.1)).Nodup->qM c7 l=c7++l
 | [],c7,_=>by rw[U1];rfl
 |x::l,c7,h=>by
  have e:c7++x::l=(c7++[x])++l:=by simp
  have hx:x.1∉c7.map (·.1):=λ hm=>by
   rw[U7,Qc,Zq] at h;exact h.2.2 _ hm _ (Y9 ..) rfl
  have hv:zU c7 x.1=none:=by
   unfold zU;rw[List.find?_eq_none.mpr λ p hp=>by
    intro e;exact hx (Qu.mpr ⟨p,hp,Ub e⟩)]
   rfl
  show qM (y3 c7 x.1 x.2) l=_
  rw[qa7 _ hv,e];exact qen l (c7++[x]) (by rw[<- e];exact h)
theorem qcf(h:a.length=r.length):zD (a++b) (r++q)=zD a r++zD b q:=by
 unfold zD;rw[U6 h,U7]
theorem qjl(h:ls.length=r.length):(zD ls r).map (·.1)=ls.map λ c=>(Sum.inr (qk [c]):Key):=by
 unfold zD;rw[Qv]
 have:∀(ls:List Nat)(r:List Bool),ls.length=r.length->(ls.zip r).map ((λ x:Key×V=>x.1) ∘ λ x:Nat×Bool=>((Sum.inr (qk [x.1]):Key),V.bl x.2))=ls.map λ c=>(Sum.inr (qk [c]):Key):=by
  intro ls;induction ls with
  |nil=>intro r _;rfl
  |cons a l ih=>intro r h;cases r with
   |nil=>cases h
   |cons b r=>rw[Zd,Qc,Qc,ih r (by simpa using h)];rfl
 exact this ls r h
theorem qhD(nd:ls.Nodup)(h:ls.length=r.length):((zD ls r).map (·.1)).Nodup:=by
 rw[qjl h];exact Zr.mpr (nd.imp λ{a b} E7 e=>by
  have:=qbq (Sum.inr.inj e)
  simp at this;exact E7 this)
theorem qa1(nd:(a++b).Nodup)(h:a.length=r.length)(h':b.length=q.length):qM (zD a r) (zD b q)=zD (a++b) (r++q):=by
 rw[qcf h];refine qen _ _ ?_;rw[<- qcf h];exact qhD nd (by rw[Zb,Zb,h,h'])
theorem jS(h:ls.length=r.length):(zD ls r).length=ls.length:=by rw[zD,U0,Jg];omega
def qfe:Sp:=λ vs H Q _=>∃(ls:List Nat)(N:Nat),vs=[vS ls,.int (N:Int)]/\ls.Nodup/\ls.length<=9/\∀ d H',qi H H'->H d=none->H' d=some (.dK (zD ls (qG ls.length N)))->Q (.ref d) H'
theorem qbG:FnScope ["letters","number","row","place","letter","behind"] ["letters","number"] (qf qdt):=scF
theorem qmu(F:Fun K "row_of" "row_of" qdt f fd)(T:Txt mg): FnOk P w K mg base CX0 1 f fd ["letters","number"] (qfe):=by
 refine F.okd qbG (λ cdv A outer s H vs Q E hr h=>?_);obtain⟨ls,N,rfl,nd,l9,q⟩:=h;have E6:=jI hr;refine⟨_,(qc (qx (i:=2) qbG.nd rfl (Or.inl rfl) qcK)
  (qc (qbs (n:=2) Jf rfl (qdn (by rfl) T.enumerate (qa (pv 0) qb)) (qH (qo (i:=3) qbG.nd rfl (Or.inl rfl)) (qH (qo (i:=4) qbG.nd rfl (Or.inl rfl)) zL))
  (qc (qx (i:=5) qbG.nd rfl (Or.inl rfl) (qr qex (qr qex (qv zQ (by rfl) T.len J0 (qa (pv 0) qb)) qg) (pv 3)))
  (qd (qcn E6 (pv 2) (pv 4) (yf zq (qr zx (qr qm1 (pv 1) (pv 5)) qg) qg (qB _)) rfl))))
  (qd (ql (pv 2))))),?_⟩
 have hs:(qk ls).cps.size=ls.length:=qw ls;have pX:(qk ls).length=ls.length:=qw ls;have lR:=zB ls.length N;refine λ p hp=>?_
 refine⟨_,rfl,_,rfl,?_⟩;refine qbS (λ i σ H1=>∃ v3 v4 v5:Option V,σ=[some (vS ls),some (.int (N:Int)),some (.ref p),v3,v4,v5]/\qi H H1/\H1 p=some (.dK (zD (ls.take i) ((qG ls.length N).take i)))) ⟨none,none,none,rfl,qi.up hp,qe⟩ ?_ ?_
 ·rintro i σ H1 hi ⟨v3,v4,v5,rfl,g1,e1⟩;rw[hs] at hi;rw[yU hi];refine⟨_,_,rfl,_,_,rfl,rfl,?_⟩;refine⟨_,rfl,_,rfl,by rw[pX];exact qE (by omega),_,_,rfl,rfl,_,rfl,_,_,rfl,rfl,?_⟩;rw[pX];refine⟨_,rfl,_,rfl,_,_,rfl,rfl,(show(0:Int)<=(ls.length:Int)-1-(i:Int) by omega),_,_,rfl,rfl,(show(0:Int)<2 by decide),rfl,_,rfl,_,rfl,p,_,rfl,.inl ⟨_,.inr (qk [ls[i]]),e1,rfl,?_,rfl⟩,?_⟩
  ·rw[zD,U0,Jg,Ue];exact zb (by omega)
  have lr:(ls.take i).length=((qG ls.length N).take i).length:=by rw[Ue,Ue,lR]
  have nn:zU (zD (ls.take i) ((qG ls.length N).take i)) (.inr (qk [ls[i]]))=none:=by rw[yN lr,Vz (kX nd hi)]
  have ev:(qG ls.length N)[i]?=some (decide (V.int ((N:Int) / 2^((ls.length:Int)-1-(i:Int)).toNat % 2)=V.int 1)):=by
   rw[qf4 hi,show((ls.length:Int)-1-(i:Int)).toNat=ls.length-1-i by omega];congr 1
   refine Uw.mpr ?_;rw[V.int.injEq];constructor
   ·intro h;exact_mod_cast h
   ·intro h;exact_mod_cast h
  refine⟨_,_,_,rfl,g1.at hp,?_⟩;rw[qe,q0 ev,Xa hi,qji lr];exact congrArg (λ z=>some (HO.dK z)) (qa7 _ nn)
 ·rintro σ H1 ⟨v3,v4,v5,rfl,g1,e1⟩;rw[hs,Ul,XF (by rw[lR];exact Q5 _)] at e1;exact⟨_,rfl,q p H1 g1 hp e1⟩
theorem qeo(ρ:Nat->Bool):∀ F:List Pr,qy ρ F=decide ((F.filter λ p=>p.all ρ).length % 2=1)
 | []=>rfl
 |p::F=>by
  show xor (p.all ρ) (qy ρ F)=_
  rw[qeo ρ F,Uq];cases p.all ρ with
  |false=>rw[Vz (by decide),Bool.false_xor]
  |true =>
   rw[Vy rfl,Uc];generalize (F.filter λ p=>p.all ρ).length=n;by_cases h:n % 2=1
   ·rw[J4 h,Jh (by omega)];rfl
   ·rw[Jh h,J4 (by omega)];rfl
theorem qla(l:List Nat)(ρ:Nat->Bool):(l.map ρ).all id=l.all ρ:=by rw[List.all_map];rfl
def qdE(K:W.Frag):Sp:=λ vs H Q _=>∃(a d:Addr)(F:List Pr)(kvs:List (Key×V))(ρ:Nat->Bool),vs=[.ref a,.ref d]/\SqT K H a (F.map vS)/\H d=some (.dK kvs)/\(∀ p∈F,∀ c∈p,zU kvs (.inr (qk [c]))=some (.bl (ρ c)))/\(∀ p∈F,p.length<=1000)/\F.length<=1000/\∀ H',qi H H'->Q (.bl (qy ρ F)) H'
theorem qep:FnScope ["form","row","true_ones"] ["form","row"] (qf qeZ):=scF
theorem qjm(F:Fun K "worth" "worth" qeZ f fd)(T:Txt mg): FnOk P w K mg base CX0 1 f fd ["form","row"] (qdE K):=by
 refine F.okd qep (λ cdv A outer s H vs Q E hr h=>?_);obtain⟨a,d,F,kvs,ρ,rfl,hF,hd,hv,hp,hl,q⟩:=h;have E6:=jI hr;refine⟨_,(qc (qh4 (i:=2) qep.nd rfl rfl (csc (NY:=["product","row"]) (o:=1) (caps:=[1]) ["row"] rfl
    (by intro x hx;rw[Zg.mp hx];exact .inl rfl) (jz rfl rfl rfl yk) rfl) rfl
    (qcE (pv 0)) (λ C0 s H fp pins=>qo (i:=0) (show(["product","row"]:List Str).Nodup by decide +kernel) rfl (Or.inl rfl)) (λ C0 s H fp pins=>(qab (jf (qv (r:=qoo K) (js rfl) (by rfl) T.all qe2 (qa (zg (csc (NY:=["letter","row"]) (o:=1) (caps:=[1]) ["row"] rfl
    (by intro x hx;rw[Zg.mp hx];exact .inl rfl) (jz rfl rfl rfl yk) rfl) rfl
    (vT (pv 0)) (λ C0 s H fp pins=>qo (i:=0) (show(["letter","row"]:List Str).Nodup by decide +kernel) rfl (Or.inl rfl)) (λ C0 s H fp pins=>ze) (λ C0 s H fp pins=>(k7 E6 (pv 1) (pv 0) (λ _ _=>rfl)))) qb))))) (λ C0 s H fp pins=>(pv 0)))
  (qd (ql (yf zq (qr zx (qv qz (by rfl) T.len J0 (qa (pv 2) qb)) qg) qg (qB _))))),?_⟩
 refine⟨_,rfl,a,rfl,⟨_,hF⟩,?_⟩;refine qj5 hF (λ j=>((F.take j).filter λ p=>p.all ρ).map vS) rfl (λ j hj=>?_) ?_ ?_
 ·rw[U0];have:=XY (λ p:Pr=>p.all ρ) (F.take j);rw[Ue] at this;exact zb (by omega)
 ·intro j x H2 D Y Z hx hD p4 sm hY hZ;obtain⟨p,fU,rfl⟩:=qj hx;have mK:=Yh fU;have hs:(qk p).cps.size=p.length:=qw p;have hj:j<F.length:=vc fU;have ej:F[j]=p:=by rw[Xv hj] at fU;exact Option.some.inj fU
  have fs:=kn (f:=λ p:Pr=>p.all ρ) hj;rw[ej] at fs;refine⟨⟨rfl,rfl⟩,?_⟩;refine⟨_,rfl,_,rfl,?_⟩;refine qbQ (λ m=>((p.map ρ).take m).map V.bl) rfl (λ m hm=>?_) ?_ ?_
  ·rw[U0,Ue,U0];have:=hp p mK;exact zb (by omega)
  ·intro m H3 D3 Y3 Z3 hm uJ M5 aL hY3 hZ3;rw[hs] at hm;rw[yU hm];refine⟨⟨rfl,rfl⟩,?_⟩;have gd:=qa8.k (k:=Sum.inr (qk [p[m]])) (aL _ _ (sm _ _ hd));rw[hv p mK _ (Uk hm)] at gd;refine⟨_,rfl,_,rfl,d,_,rfl,gd,?_⟩;exact hY3 _ _ M5 aL (zr (f:=V.bl) (by rw[Zn,Xv hm];rfl))
  ·intro D3 H3 uJ aL M5;rw[hs,XF (by rw[U0];exact Q5 _)] at M5;refine⟨D3,p.map ρ,rfl,SqL.of M5,_,rfl,?_⟩;rw[qla];refine vM (λ c=>?_) (λ c=>?_)
   ·refine⟨_,rfl,hY _ _ (aL _ _ p4) (sm.trans aL) ?_⟩;show List.map _ ((F.take (j+1)).filter _)=_
    rw[fs,Vy c,U7];rfl
   ·refine hZ _ (aL _ _ p4) (sm.trans aL) ?_;show List.map _ ((F.take (j+1)).filter _)=_
    rw[fs,Vz c,U1]
 ·intro D H2 hD sm p4;rw[U0,Ul] at p4;refine⟨_,rfl,D,_,rfl,.inl (SqL.of p4),_,_,rfl,rfl,(show(0:Int)<2 by decide),rfl,?_⟩;have e:decide (V.int ((((F.filter λ p=>p.all ρ).map vS).length:Int) % 2)=V.int 1)=qy ρ F:=by
   rw[qeo,U0];refine Uw.mpr ?_;rw[V.int.injEq];constructor
   ·intro h;exact_mod_cast h
   ·intro h;exact_mod_cast h
  exact vk (congrArg V.bl e) (q _ sm)
theorem TaskAt.mono(t:TaskAt CT H o gv gp ws dx a1 a2 a3 ps)(g:qi H H'):TaskAt CT H' o gv gp ws dx a1 a2 a3 ps:=
 ⟨g _ _ t.ins,g _ _ t.said,g _ _ t.sides,qR (λ p y h=>yj.mono h g) t.side,g _ _ t.fault⟩
structure TkOk(gv gp:List Nat)(ws:List Wsh):Prop where
 sv:gv.Sublist abc
 sp:gp.Sublist xyz
 on:On (gv++gp) (qU (ws.map Wsh.side))
noncomputable def qgt(gv gp:List Nat)(N M:Nat):Nat->Bool:=asg (gv++gp) (qG gv.length N++qG gp.length M)
noncomputable def yX(gv gp:List Nat)(F:List Pr)(N M:Nat):Bool:=!qy (qgt gv gp N M) F
noncomputable def q8(gv gp:List Nat)(F:List Pr)(N:Nat):List Nat:=(List.range (2^gp.length)).filter (yX gv gp F N)
noncomputable def vN(M:Nat):V:=.int (M:Int)
def qlb(CT:Addr):Sp:=λ vs H Q _=>∃(o:Addr)(gv gp:List Nat)(ws:List Wsh)(dx a1 a2 a3:Addr)(ps:List Addr)(N M:Nat),vs=[.ref o,.int (N:Int),.int (M:Int)]/\TaskAt CT H o gv gp ws dx a1 a2 a3 ps/\TkOk gv gp ws/\∀ H',qi H H'->Q (.bl (yX gv gp (qU (ws.map Wsh.side)) N M)) H'
theorem qio:FnScope ["self","given_row","gap_row","row"] ["self","given_row","gap_row"] (qf kI):=scF
theorem qmv(F:Fun K "does" "Task.does" kI f fd)(T:Txt mg)(A3:Dp P w K mg base 1 P4 P8 ["letters","number"] (qfe) "row_of")(aE:Dp P w K mg base 1 oS oX ["form","row"] (qdE K) "worth")(c6:TaskC K c5): FnOk P w K mg base CX0 2 f fd ["self","given_row","gap_row"] (qlb c5):=by
 refine F.okd qio (λ cdv A outer s H vs Q E hr h=>?_);obtain⟨o,gv,gp,ws,dx,a1,a2,a3,ps,N,M,rfl,t,ok,q⟩:=h;refine⟨_,(qc (qx (i:=3) qio.nd rfl (Or.inl rfl) (zd A3 hr (qa (zf (pv 0) (by rfl)) (qa (pv 1) qb))))
  (qc (yt (yW PySem.F.plainAttrs_dict PySem.F.slot_dict_update PySem.F.type_dict_update qi4 (pv 3) (qa (zd A3 hr (qa (zf (pv 0) (by rfl)) (qa (pv 2) qb))) qb)))
  (qd (ql (qgy (zd aE hr (qa (zf (pv 0) (by rfl)) (qa (pv 3) qb)))))))),?_⟩
 have bY:gv.length<=3:=ok.sv.length_le;have R5:gp.length<=3:=ok.sp.length_le;obtain⟨rl,nX,l9⟩:=jP ok.sv ok.sp;have nd:=q9 Qa rl;have xO:gv.Nodup:=(Zq.mp nd).1;have bX:gp.Nodup:=(Zq.mp nd).2.1;have lv:gv.length=(qG gv.length N).length:=(zB _ _).symm;have lp:gp.length=(qG gp.length M).length:=(zB _ _).symm;refine⟨_,rfl,o,c5,dx,_,_,rfl,t.ins,c6.cls,c6.n1,rfl,_,rfl,gv,N,rfl,xO,by omega,λ d1 H1 g1 f1 e1=>?_⟩;refine⟨_,rfl,.inr (.inr (.inl ⟨rfl,.inl ⟨_,e1⟩⟩)),_,rfl,o,c5,dx,_,_,rfl,g1 _ _ t.ins,c6.cls,c6.n2,rfl,_,rfl,gp,M,rfl,bX,by omega,λ d2 H2 g2 f2 e2=>?_⟩;refine⟨d1,d2,_,_,rfl,rfl,g2 _ _ e1,e2,(λ h=>by rw[<- h,e1] at f2;cases f2),by rw[jS lv,jS lp];exact qE (by omega),?_⟩;rw[qa1 nd lv lp];have g3:qi H (upd H2 d1 (.dK (zD (gv++gp) (qG gv.length N++qG gp.length M)))):=(g1.trans g2).at f1;have lb:(gv++gp).length=(qG gv.length N++qG gp.length M).length:=by rw[Zb,Zb,<- lv,<- lp]
 have lF:=ok.on.len rl;have W2:2^(gv++gp).length<=64:=Yo (n:=2) (by decide) nX;refine⟨_,rfl,o,c5,dx,_,_,rfl,g3 _ _ t.ins,c6.cls,c6.n5,rfl,_,rfl,a3,d1,_,_,qgt gv gp N M,rfl,SqT.of (g3 _ _ t.fault),qe,λ p hp c hc=>?_,λ p hp=>?_,by omega,λ H4 g4=>⟨_,rfl,q H4 (g3.trans g4)⟩⟩
 ·rw[yN lb,Vy (ok.on.mem p hp c hc)];rfl
 ·have:=(ok.on.sub rl p hp).length_le;omega
def qeq(CT:Addr):Sp:=λ vs H Q _=>∃(o:Addr)(gv gp:List Nat)(ws:List Wsh)(dx a1 a2 a3:Addr)(ps:List Addr)(N:Nat),vs=[.ref o,.int (N:Int)]/\TaskAt CT H o gv gp ws dx a1 a2 a3 ps/\TkOk gv gp ws /\
 ∀ r H',qi H H'->H r=none->H' r=some (.lst ((q8 gv gp (qU (ws.map Wsh.side)) N).map vN))->Q (.ref r) H'
theorem qhE:FnScope ["self","given_row"] ["self","given_row"] (qf yS):=scF
theorem qhF(F:Fun K "doing_at" "Task.doing_at" yS f fd)(T:Txt mg)(i8:Dp P w K mg base 1 t6 u3 ["letters"] (qbE) "row_count")(c6:TaskC K c5)(D9:Meth K c5 "does" t8)(E3:FnOk P w K mg base CX0 2 t8 x8 ["self","given_row","gap_row"] (qlb c5))(D8:qh K x8 ["self","given_row","gap_row"] []): FnOk P w K mg base CX0 3 f fd ["self","given_row"] (qeq c5):=by
 refine F.okd qhE (λ cdv A outer s H vs Q E hr h=>?_);obtain⟨o,gv,gp,ws,dx,a1,a2,a3,ps,N,rfl,t,ok,q⟩:=h;have hr_2:Room 2 _:=hr.mono (by decide);refine⟨_,(qd (ql (zg (csc (NY:=["gap_row","self","given_row"]) (o:=1) (caps:=[0,1]) ["self","given_row"] rfl
    (by intro x hx;rcases Qb.mp hx with e | hx;· rw[e];exact .inl rfl
        rw[Zg.mp hx];exact .inl rfl) (jz rfl rfl rfl (jz rfl rfl rfl yk)) rfl) rfl
    (ya (by rfl) T.range (qa (zd i8 hr (qa (zf (pv 0) (by rfl)) qb)) qb)) (λ C0 s H fp pins=>qo (i:=0) (show(["gap_row","self","given_row"]:List Str).Nodup by decide +kernel) rfl (Or.inl rfl)) (λ C0 s H fp pins=>(qab (jf (qhP (pv 1) c6.cls D9 E3 hr_2 D8 .nil qF (qa (pv 2) (qa (pv 0) qb)))))) (λ C0 s H fp pins=>(pv 0))))),?_⟩
 have R5:gp.length<=3:=ok.sp.length_le;have h8:2^gp.length<=8:=Yo (n:=2) (by decide) R5;refine⟨_,rfl,o,c5,dx,_,_,rfl,t.ins,c6.cls,c6.n2,rfl,gp,rfl,by omega,_,rfl,?_,?_,?_⟩
 ·generalize 2^gp.length=P2 at h8;omega
 ·generalize 2^gp.length=P2 at h8;omega
 have en:(((2^gp.length:Nat):Int)).toNat=2^gp.length:=Zp _;refine qj6 (λ i=>((List.range i).filter (yX gv gp (qU (ws.map Wsh.side)) N)).map vN) rfl (λ i hi=>?_) ?_ ?_
 ·rw[U0];have:=XY (yX gv gp (qU (ws.map Wsh.side)) N) (List.range i);rw[Zw] at this;exact zb (by omega)
 ·intro i H2 D Y Z hi hD p4 sm hY hZ;refine⟨⟨rfl,rfl⟩,?_⟩;refine⟨_,rfl,o,dx,_,rfl,sm _ _ t.ins,rfl,_,rfl,_,rfl,o,gv,gp,ws,dx,a1,a2,a3,ps,N,i,(by show [V.ref o,V.int (N:Int),V.int (0+(i:Int))]=[V.ref o,V.int (N:Int),V.int (i:Int)];rw[Q0]),t.mono sm,ok,λ H3 g3=>⟨_,rfl,?_⟩⟩;have fs:(List.range (i+1)).filter (yX gv gp (qU (ws.map Wsh.side)) N)=(List.range i).filter (yX gv gp (qU (ws.map Wsh.side)) N)++(if yX gv gp (qU (ws.map Wsh.side)) N i=true then [i] else []):=by
   rw[Jb,List.filter_append];congr 1
   rw[Uq];rfl
  refine vM (λ c=>?_) (λ c=>?_)
  ·refine⟨_,rfl,hY _ _ (g3 _ _ p4) (sm.trans g3) ?_⟩;show List.map _ ((List.range (i+1)).filter _)=_
   rw[fs,Vy c,U7];show _++[V.int (i:Int)]=_++[V.int (0+(i:Int))]
   rw[Q0]
  ·refine hZ _ (g3 _ _ p4) (sm.trans g3) ?_;show List.map _ ((List.range (i+1)).filter _)=_
   rw[fs,Vz c,U1]
 ·intro D H2 hD sm p4;rw[en] at p4;exact q D H2 sm hD p4
theorem qhG{l:List Nat}(h:as.map V.ref=l.map vN):as=[]:=by
 cases as with
 |nil=>rfl
 |cons a as=>cases l with
  |nil=>cases h
  |cons x l=>have:=(List.cons.inj h).1;cases this
def qoU(gv gp:List Nat)(F:List Pr)(H:Hp)(c:Addr)(N:Nat):Prop:=H c=some (.lst ((q8 gv gp F N).map vN))
def qip(CT:Addr):Sp:=λ vs H Q _=>∃(o:Addr)(gv gp:List Nat)(ws:List Wsh)(dx a1 a2 a3:Addr)(ps:List Addr),vs=[.ref o]/\TaskAt CT H o gv gp ws dx a1 a2 a3 ps/\TkOk gv gp ws /\
 ∀ r as H',qi H H'->H r=none->(∀ c∈as,H c=none)->H' r=some (.lst (as.map V.ref))->Paired (qoU gv gp (qU (ws.map Wsh.side)) H') as (List.range (2^gv.length))->Q (.ref r) H'
theorem qjn(g:qi H H')(h:H' c=none):H c=none:=by
 cases e:H c with
 |none=>rfl
 |some u=>rw[g _ _ e] at h;cases h
theorem qlc:FnScope ["self"] ["self"] (qf vv):=scF
theorem qld(F:Fun K "doing" "Task.doing" vv f fd)(T:Txt mg)(i8:Dp P w K mg base 1 t6 u3 ["letters"] (qbE) "row_count")(c6:TaskC K c5)(u7:Meth K c5 "doing_at" i9)(w4:FnOk P w K mg base CX0 3 i9 o0 ["self","given_row"] (qeq c5))(u5:qh K o0 ["self","given_row"] []): FnOk P w K mg base CX0 4 f fd ["self"] (qip c5):=by
 refine F.okd qlc (λ cdv A outer s H vs Q E hr h=>?_);obtain⟨o,gv,gp,ws,dx,a1,a2,a3,ps,rfl,t,ok,q⟩:=h;have hr_3:Room 3 _:=hr.mono (by decide);refine⟨_,(qd (ql (zg (csc (NY:=["given_row","self"]) (o:=1) (caps:=[0]) ["self"] rfl
    (by intro x hx;rw[Zg.mp hx];exact .inl rfl) (jz rfl rfl rfl yk) rfl) rfl
    (ya (by rfl) T.range (qa (zd i8 hr (qa (zf (pv 0) (by rfl)) qb)) qb)) (λ C0 s H fp pins=>qo (i:=0) (show(["given_row","self"]:List Str).Nodup by decide +kernel) rfl (Or.inl rfl)) (λ C0 s H fp pins=>ze) (λ C0 s H fp pins=>(qhP (pv 1) c6.cls u7 w4 hr_3 u5 .nil qF (qa (pv 0) qb)))))),?_⟩
 have bY:gv.length<=3:=ok.sv.length_le;have h8:2^gv.length<=8:=Yo (n:=2) (by decide) bY;refine⟨_,rfl,o,c5,dx,_,_,rfl,t.ins,c6.cls,c6.n1,rfl,gv,rfl,by omega,_,rfl,?_,?_,?_⟩
 ·generalize 2^gv.length=P2 at h8;omega
 ·generalize 2^gv.length=P2 at h8;omega
 have en:(((2^gv.length:Nat):Int)).toNat=2^gv.length:=Zp _;refine yL (((2^gv.length:Nat):Int)).toNat (λ i ys H2=>∃ as:List Addr,ys=as.map V.ref/\(∀ c∈as,H c=none)/\Paired (qoU gv gp (qU (ws.map Wsh.side)) H2) as (List.range i)) (λ D hD=>⟨[],rfl,by simp,.nil⟩) ?_ ?_ (λ H2 sm=>Q5 _) ?_
 ·rintro i ys H2 hi ⟨as,rfl,hn,hp⟩
  have:=hp.length
  rw[Zw] at this;rw[U0];exact zb (by omega)
 ·rintro i ys H2 D Y Z hi hD p4 sm ⟨as,rfl,hn,dF⟩ hY hZ;refine⟨hi,?_⟩;rintro x H' ⟨rfl,rfl⟩;refine⟨⟨rfl,rfl⟩,?_⟩;refine⟨_,rfl,o,dx,_,rfl,sm _ _ t.ins,rfl,_,rfl,o,gv,gp,ws,dx,a1,a2,a3,ps,i,(by show [V.ref o,V.int (0+(i:Int))]=[V.ref o,V.int (i:Int)];rw[Q0]),t.mono sm,ok,λ c H3 g3 f3 e3=>?_⟩;have eD:=g3 _ _ p4;refine hY _ _ eD (sm.trans g3) ⟨as++[c],by rw[U7];rfl,λ c' I0=>?_,?_⟩
  ·rcases Uy.mp I0 with h | h
   ·exact hn c' h
   ·rw[Zg.mp h];exact qjn sm f3
  rw[Jb];have nD:c≠D:=λ h=>by rw[h,p4] at f3;cases f3
  refine qX ?_ (.cons (by show upd H3 D _ c=_;rw[qp nD];exact e3) .nil);by_cases has:as=[]
  ·subst has;generalize List.range i=L at dF ⊢;cases dF
   exact .nil
  ·refine L2.Paired.mapP dF λ z N h=>?_
   have hz:H' z=some (.lst ((q8 gv gp (qU (ws.map Wsh.side)) N).map vN)):=h;show upd H3 D _ z=_
   rw[qp (λ q=>by rw[q,p4] at hz;exact has (qhG (HO.lst.inj (Option.some.inj hz))))];exact g3 _ _ hz
 ·rintro D H2 ys hD sm p4 ⟨as,rfl,hn,dF⟩;rw[en] at dF;exact q D as H2 sm hD hn p4 dF
def qff:Sp:=λ vs H Q _=>∃(d1 d2:Addr)(kvs more:List (Key×V)),vs=[.ref d1,.ref d2]/\H d1=some (.dK kvs)/\H d2=some (.dK more)/\kvs.length+more.length<=1000/\∀ d H',qi H H'->H d=none->H' d=some (.dK (qM kvs more))->Q (.ref d) H'
theorem qhH(kvs l:List (Key×V))(x:Key×V):qM kvs (l++[x])=y3 (qM kvs l) x.1 x.2:=by unfold qM;rw[List.foldl_append];rfl
theorem qcy:FnScope [sA8,sB2,sA1,sC4,"_law_truth_here"] [sA8,sB2] (qf qaW):=scF
theorem qmw(F:Fun K sC7 sC7 qaW f fd)(T:Txt mg): FnOk P w K mg base CX0 1 f fd [sA8,sB2] (qff):=by
 refine F.okd qcy (λ cdv A outer s H vs Q E hr h=>?_);obtain⟨d1,d2,kvs,more,rfl,h1,h2,hz,q⟩:=h;have E6:=jI hr;refine⟨_,(qc (qx (i:=2) qcy.nd rfl (Or.inl rfl) (zu (qfR) (by rfl) T.dict qia (qa (pv 0) qb)))
  (qc (qlU (qbs (n:=2) Jf rfl (qkj (pv 1)) (qH (qo (i:=3) qcy.nd rfl (Or.inl rfl)) (qH (qo (i:=4) qcy.nd rfl (Or.inl rfl)) zL))
  (qd (qcn E6 (pv 2) (pv 3) (pv 4) rfl))))
  (qd (ql (pv 2))))),?_⟩
 refine⟨_,rfl,d1,_,rfl,h1,λ p hp=>?_⟩;have g0:=qi.up hp (o:=.dK kvs);have e2:=g0 _ _ h2;have np:p≠d2:=λ e=>by rw[e,h2] at hp;cases hp
 refine⟨d2,more,e2,_,rfl,d2,more,rfl,e2,λ ob=>?_⟩;refine qnt (λ i σ H1=>∃ v3 v4:Option V,σ=[some (.ref d1),some (.ref d2),some (.ref p),v3,v4]/\H1 d2=some (.frz ob (.dK more))/\H1 p=some (.dK (qM kvs (more.take i)))/\∀ b o,b≠d2->H b=some o->H1 b=some o) ⟨none,none,rfl,qe,?_,?_⟩ (λ i σ H1 _ ⟨_,_,_,h,_⟩=>h) ?_ ?_
 ·rw[qp np,qe];rfl
 ·intro b o hb e;rw[qp hb];exact g0 _ _ e
 ·rintro i k v σ H1 hk ⟨v3,v4,rfl,hf,V8,hb⟩;refine⟨_,_,rfl,_,_,rfl,rfl,?_⟩;have hl:(qM kvs (more.take i)).length<sizeLine:=by have:=yu (more.take i) kvs;rw[Ue] at this;exact zb (by omega)
  refine⟨_,rfl,_,rfl,_,rfl,p,_,rfl,.inl ⟨_,k,V8,rfl,hl,rfl⟩,?_⟩;refine⟨_,_,rfl,by rw[qp (Vr np)];exact hf,?_,λ b o rB e=>?_⟩
  ·rw[qe,q0 hk,qhH]
  ·rw[qp (λ q=>by rw[q,hp] at e;cases e)];exact hb b o rB e
 ·rintro σ H1 ⟨v3,v4,rfl,hf,V8,hb⟩;rw[Ul] at V8;refine⟨ob,hf,_,rfl,q p _ (λ b o e=>?_) hp (by rw[qp np];exact V8)⟩;by_cases rB:b=d2
  ·rw[rB] at e ⊢;rw[h2] at e;cases e;exact qe
  ·rw[qp rB];exact hb b o rB e
def qfg(K:W.Frag):Sp:=λ vs H Q _=>∃(a d:Addr)(F:List Pr)(kvs:List (Key×V))(ρ:Nat->Bool),vs=[.ref a,.ref d]/\SqT K H a (F.map vS)/\H d=some (.dK kvs)/\(∀ p∈F,∀ c∈p,zU kvs (.inr (qk [c]))=some (.bl (ρ c)))/\(∀ p∈F,p.length<=1000)/\∀ H',qi H H'->Q (.bl (qy ρ F)) H'
theorem qhI(ρ:Nat->Bool)(F:List Pr)(p:Pr):qy ρ (F++[p])=xor (qy ρ F) (p.all ρ):=by rw[y4];simp[qy]
theorem qbH:FnScope [sB8,sA1,"_law_odd",sA8] [sB8,sA1] (qf kM):=scF
theorem qle(F:Fun K sC8 sC8 kM f fd)(T:Txt mg): FnOk P w K mg base CX0 1 f fd [sB8,sA1] (qfg K):=by
 refine F.okd qbH (λ cdv A outer s H vs Q E hr h=>?_);obtain⟨a,d,F,kvs,ρ,rfl,hF,hd,hm,h9,q⟩:=h;have E6:=jI hr;refine⟨_,(qc (qx (i:=2) qbH.nd rfl (Or.inl rfl) qa3)
  (qc (yn Jf rfl (qcE (pv 0)) (qo (i:=3) qbH.nd rfl (Or.inl rfl))
  (qd (qY (jf (qv (js rfl) (by rfl) T.all qe2 (qa (zg (csc (NY:=[sC4,sA1]) (o:=1) (caps:=[1]) [sA1] rfl
    (by intro x hx;rw[Zg.mp hx];exact .inl rfl) (jz rfl rfl rfl yk) rfl) rfl
    (vT (pv 3)) (λ C0 s H fp pins=>qo (i:=0) (show([sC4,sA1]:List Str).Nodup by decide +kernel) rfl (Or.inl rfl)) (λ C0 s H fp pins=>ze) (λ C0 s H fp pins=>(k7 E6 (pv 1) (pv 0) (λ _ _=>rfl)))) qb)))
   (qd (qx (i:=2) qbH.nd rfl (Or.inl rfl) (qgy (pv 2)))) qC)))
  (qd (ql (pv 2))))),?_⟩
 refine⟨_,rfl,a,rfl,⟨_,hF⟩,?_⟩;refine qhL (K:=K) (xs:=F.map vS) (λ i σ H1=>∃(v3:Option V),σ=[some (.ref a),some (.ref d),some (.bl (qy ρ (F.take i))),v3]/\qi H H1) ⟨none,rfl,qi.refl H⟩ (λ i σ H1 hi ⟨_,_,g⟩=>g.seqT hF) ?_ ?_
 ·rintro i x σ H1 hx ⟨v3,rfl,g1⟩;obtain⟨p,hp,rfl⟩:=qj hx;have mK:=Yh hp;have hs:(qk p).cps.size=p.length:=qw p;have wt:qy ρ (F.take (i+1))=xor (qy ρ (F.take i)) (p.all ρ):=by rw[show F.take (i+1)=F.take i++[p] by rw[List.take_succ,hp];rfl,qhI]
  refine⟨_,rfl,_,rfl,?_⟩;refine qbQ (λ j=>((p.map ρ).take j).map V.bl) rfl (λ j hj=>?_) ?_ ?_
  ·rw[U0,Ue,U0];have:=h9 p mK;exact zb (by omega)
  ·intro j H2 D Y Z hj hD p4 sm hY hZ;rw[hs] at hj;rw[yU hj];refine⟨⟨rfl,rfl⟩,?_⟩;have gd:=qa8.k (k:=Sum.inr (qk [p[j]])) (sm _ _ (g1 _ _ hd));rw[hm p mK _ (Uk hj)] at gd;refine⟨_,rfl,_,rfl,d,_,rfl,gd,?_⟩;exact hY _ _ p4 sm (zr (f:=V.bl) (by rw[Zn,Xv hj];rfl))
  ·intro D H2 hD sm p4;rw[hs,XF (by rw[U0];exact Q5 _)] at p4;refine⟨D,p.map ρ,rfl,SqL.of p4,_,rfl,?_⟩;rw[qla];refine vM (λ c=>?_) (λ c=>?_)
   ·refine⟨_,rfl,_,rfl,?_⟩;exact⟨_,by rw[wt,c,Bool.xor_true];rfl,g1.trans sm⟩
   ·exact⟨_,by rw[wt,Zv.mpr c,Bool.xor_false];rfl,g1.trans sm⟩
 ·rintro σ H1 ⟨v3,rfl,g1⟩;rw[U0,Ul];exact⟨_,rfl,q H1 g1⟩
noncomputable def zc(c:Nat):Nat:=c-8
def vB:Sp:=λ vs H Q _=>∃(gp:List Nat),vs=[vS gp]/\gp.Sublist [120,121,122]/\∀ H',qi H H'->Q (vS (gp.map zc)) H'
noncomputable def qlf:List (Key×V):=[(.inr "x",.str "p"),(.inr "y",.str "q"),(.inr "z",.str "r")]
theorem qmx:∀ c∈([120,121,122]:List Nat),zU (qM [] qlf) (.inr (qk [c]))=some (vS [zc c]):=by decide +kernel
theorem qlg:FnScope [sA5] [sA5] (qf kQ):=scF
theorem qlh(F:Fun K sC3 sC3 kQ f fd)(T:Txt mg): FnOk P w K mg base CX0 1 f fd [sA5] (vB):=by
 refine F.okd qlg (λ cdv A outer s H vs Q E hr h=>?_);obtain⟨gp,rfl,C9,q⟩:=h;have E6:=jI hr;refine⟨_,(qd (ql (yW XI Ya Yb qac qm (qa (zg (csc (NY:=["_law_gap"]) (o:=1) (caps:=[]) [] rfl
    (by simp) yk rfl) rfl
    (vT (pv 0)) (λ C0 s H fp pins=>qo (i:=0) (show(["_law_gap"]:List Str).Nodup by decide +kernel) rfl (Or.inl rfl)) (λ C0 s H fp pins=>ze) (λ C0 s H fp pins=>(k7 E6 (qhU (jH qm qm (jH qm qm (jH qm qm qhT))) rfl rfl (by simp) (by decide)) (pv 0) (λ _ _=>rfl)))) qb)))),?_⟩
 have hs:(qk gp).cps.size=gp.length:=qw gp;have hz:("":Str).length=0:=by decide
 have R5:gp.length<=3:=C9.length_le;refine⟨rfl,?_⟩;refine⟨_,rfl,_,rfl,?_⟩;refine qbQ (λ j=>((gp.map zc).take j).map λ c=>vS [c]) rfl (λ j hj=>?_) ?_ ?_
 ·rw[U0,Ue,U0];exact zb (by omega)
 ·intro j H6 D6 Y Z hj oQ M4 S3 hY hZ;rw[hs] at hj;rw[yU hj];refine⟨⟨rfl,rfl⟩,?_⟩;refine λ p hp=>⟨qe,qlf,rfl,by decide,?_⟩
  have nD:D6≠p:=λ e=>by rw[<- e,M4] at hp;cases hp
  have iH:∀{o o':HO},qi H6 (upd (upd H6 p o) p o'):=λ{o o'} b u e=>by rw[qp (λ q=>by rw[q,hp] at e;cases e),qp (λ q=>by rw[q,hp] at e;cases e)];exact e
  have gd:=qa8.k (H:=upd (upd H6 p (.dK [])) p (.dK (qM [] qlf))) (k:=Sum.inr (qk [gp[j]])) (qe (a:=p));rw[qmx _ (C9.subset (Uk hj))] at gd;refine⟨_,rfl,p,_,rfl,gd,?_⟩;exact hY _ _ (iH _ _ M4) (S3.trans iH) (zr (f:=λ c=>vS [c]) (by rw[Zn,Xv hj];rfl))
 ·intro D6 H6 oQ S3 M4;rw[hs,XF (by rw[U0];exact Q5 _)] at M4;refine⟨_,D6,((gp.map zc).map λ c=>[c]).map qk,rfl,rfl,.inl (SqL.of (by rw[M4,vg,zV])),?_,?_⟩
  ·rw[jM,hz,zK,U0];show _+_*0<=_;omega
  rw[jL,zK];exact q _ S3
def qoV(CT:Addr):Sp:=λ vs H Q _=>∃(o:Addr)(gv gp:List Nat)(ws:List Wsh)(dx a1 a2 a3:Addr)(ps:List Addr),vs=[.ref o]/\TaskAt CT H o gv gp ws dx a1 a2 a3 ps/\∀ H',qi H H'->Q (vS gv) H'
def qoW(CT:Addr):Sp:=λ vs H Q _=>∃(o:Addr)(gv gp:List Nat)(ws:List Wsh)(dx a1 a2 a3:Addr)(ps:List Addr),vs=[.ref o]/\TaskAt CT H o gv gp ws dx a1 a2 a3 ps/\∀ H',qi H H'->Q (vS gp) H'
theorem qnI:FnScope ["self"] ["self"] (qf jB):=scF
theorem qnJ(F:Fun K "givens" "Task.givens" jB f fd)(T:Txt mg)(c6:TaskC K c5): FnOk P w K mg base CX0 1 f fd ["self"] (qoV c5):=by
 refine F.okd qnI (λ cdv A outer s H vs Q E hr h=>?_);obtain⟨o,gv,gp,ws,dx,a1,a2,a3,ps,rfl,t,q⟩:=h;refine⟨_,(qd (ql (zf (pv 0) (by rfl)))),?_⟩;exact⟨_,rfl,o,c5,dx,_,_,rfl,t.ins,c6.cls,c6.n1,rfl,q H (qi.refl H)⟩
theorem qnK:FnScope ["self"] ["self"] (qf kH):=scF
theorem qnL(F:Fun K "gaps" "Task.gaps" kH f fd)(T:Txt mg)(c6:TaskC K c5): FnOk P w K mg base CX0 1 f fd ["self"] (qoW c5):=by
 refine F.okd qnK (λ cdv A outer s H vs Q E hr h=>?_);obtain⟨o,gv,gp,ws,dx,a1,a2,a3,ps,rfl,t,q⟩:=h;refine⟨_,(qd (ql (zf (pv 0) (by rfl)))),?_⟩;exact⟨_,rfl,o,c5,dx,_,_,rfl,t.ins,c6.cls,c6.n2,rfl,q H (qi.refl H)⟩
noncomputable def qli:List (Str×Str):=[("x","p"),("y","q"),("z","r")]
theorem qlj:∀ c∈([120,121,122]:List Nat),qli.lookup (qk [c])=some (qk [zc c]):=by decide +kernel
theorem qjo:FnScope ["gaps"] ["gaps"] (qf qbV):=scF
theorem qjp(F:Fun K "free_of" "free_of" qbV f fd)(T:Txt mg)(cR:mg "FREE"=some (.ref fr))(eJ:GD K w fr qli): FnOk P w K mg base CX0 1 f fd ["gaps"] (vB):=by
 refine F.okd qjo (λ cdv A outer s H vs Q E hr h=>?_);obtain⟨gp,rfl,C9,q⟩:=h;refine⟨_,(qd (ql (yW XI Ya Yb qac qm (qa (zg (csc (NY:=["gap"]) (o:=1) (caps:=[]) [] rfl
    (by simp) yk rfl) rfl
    (vT (pv 0)) (λ C0 s H fp pins=>qo (i:=0) (show(["gap"]:List Str).Nodup by decide +kernel) rfl (Or.inl rfl)) (λ C0 s H fp pins=>ze) (λ C0 s H fp pins=>(ql0 (by rfl) cR eJ (pv 0) (λ _ _=>rfl)))) qb)))),?_⟩
 have hs:(qk gp).cps.size=gp.length:=qw gp;have hz:("":Str).length=0:=by decide
 have R5:gp.length<=3:=C9.length_le;refine⟨rfl,?_⟩;refine⟨_,rfl,_,rfl,?_⟩;refine qbQ (λ j=>((gp.map zc).take j).map λ c=>vS [c]) rfl (λ j hj=>?_) ?_ ?_
 ·rw[U0,Ue,U0];exact zb (by omega)
 ·intro j H6 D6 Y Z hj oQ M4 S3 hY hZ;rw[hs] at hj;rw[yU hj];refine⟨⟨rfl,rfl⟩,?_⟩;refine⟨_,rfl,qk [gp[j]],qk [zc gp[j]],rfl,qlj _ (C9.subset (Uk hj)),?_⟩;exact hY _ _ M4 S3 (zr (f:=λ c=>vS [c]) (by rw[Zn,Xv hj];rfl))
 ·intro D6 H6 oQ S3 M4;rw[hs,XF (by rw[U0];exact Q5 _)] at M4;refine⟨_,D6,((gp.map zc).map λ c=>[c]).map qk,rfl,rfl,.inl (SqL.of (by rw[M4,vg,zV])),?_,?_⟩
  ·rw[jM,hz,zK,U0];show _+_*0<=_;omega
  rw[jL,zK];exact q _ S3
noncomputable def k4(D:List Nat)(M:Nat):Nat:=if M∈D then M else D.headD 0
def qhJ:Sp:=λ vs H Q _=>∃(gp:List Nat)(a:Addr)(D:List Nat),vs=[vS gp,.ref a]/\H a=some (.lst (D.map vN))/\D≠[]/\gp.length<=3/\∀ r H',qi H H'->H r=none->H' r=some (.lst ((List.range (2^gp.length)).map λ M=>vN (k4 D M)))->Q (.ref r) H'
theorem qoX(D:List Nat)(i:Nat):inV (.int (0+(i:Int))) (D.map vN)=decide (i∈D):=by
 unfold inV;rw[Qz,Uz,Zl,Uo];constructor
 ·rintro⟨x,hx,e⟩;have e':(((x:Int)) == (0+(i:Int)))=true:=e
  have:(x:Int)=0+(i:Int):=eq_of_beq e'
  have:x=i:=by omega
  rw[<- this];exact hx
 ·intro h;refine⟨i,h,?_⟩;show((i:Int) == (0+(i:Int)))=true
  rw[Q0];exact Ur _
theorem qnM(D:List Nat):(D.map vN).all qau=true:=by rw[List.all_map,Uj];intro x _;rfl
theorem qmy:FnScope ["gaps","doing_there"] ["gaps","doing_there"] (qf jj):=scF
theorem qmz(F:Fun K "nearest_rows" "nearest_rows" jj f fd)(T:Txt mg)(i8:Dp P w K mg base 1 t6 u3 ["letters"] (qbE) "row_count"): FnOk P w K mg base CX0 2 f fd ["gaps","doing_there"] (qhJ):=by
 refine F.okd qmy (λ cdv A outer s H vs Q E hr h=>?_);obtain⟨gp,a,D,rfl,ha,M9,R5,q⟩:=h;refine⟨_,(qd (ql (zg (csc (NY:=["row","doing_there"]) (o:=1) (caps:=[1]) ["doing_there"] rfl
    (by intro x hx;rw[Zg.mp hx];exact .inl rfl) (jz rfl rfl rfl yk) rfl) rfl
    (ya (by rfl) T.range (qa (zd i8 hr (qa (pv 0) qb)) qb)) (λ C0 s H fp pins=>qo (i:=0) (show(["row","doing_there"]:List Str).Nodup by decide +kernel) rfl (Or.inl rfl)) (λ C0 s H fp pins=>ze) (λ C0 s H fp pins=>(qfk (qt (r:=rIn K false) qiH (pv 0) (pv 1) rfl) (pv 0) (qZ (r:=qoc K) zz (pv 1) qg (λ _ _=>rfl))))))),?_⟩
 have h8:2^gp.length<=8:=Yo (n:=2) (by decide) R5;refine⟨_,rfl,gp,rfl,by omega,_,rfl,?_,?_,?_⟩
 ·generalize 2^gp.length=P2 at h8;omega
 ·generalize 2^gp.length=P2 at h8;omega
 have en:(((2^gp.length:Nat):Int)).toNat=2^gp.length:=Zp _;refine qj6 (λ i=>(List.range i).map λ M=>vN (k4 D M)) rfl (λ i hi=>?_) ?_ ?_
 ·rw[U0,Zw];exact zb (by omega)
 ·intro i H2 D2 Y Z hi hD p4 sm hY hZ;refine⟨⟨rfl,rfl⟩,?_⟩;have e2:=sm _ _ ha;refine⟨_,rfl,_,rfl,a,_,rfl,.inl (SqL.of e2),rfl,qnM D,_,rfl,?_⟩;rw[show(if false=true then !inV (V.int (0+(i:Int))) (D.map vN) else inV (V.int (0+(i:Int))) (D.map vN))=decide (i∈D) from qoX D i];refine vM (λ c=>?_) (λ c=>?_)
  ·refine⟨_,rfl,hY _ _ p4 sm ?_⟩;show List.map _ (List.range (i+1))=_
   rw[Jb,U7];unfold k4;rw[List.map_singleton,Vy (Ub c)];show _++[V.int (i:Int)]=_++[V.int (0+(i:Int))]
   rw[Q0]
  ·obtain⟨d,D',rfl⟩:=List.exists_cons_of_ne_nil M9;refine⟨_,rfl,a,_,0,_,rfl,rfl,SqL.of e2,jW (j:=0) (v:=vN d) rfl,hY _ _ p4 sm ?_⟩;show List.map _ (List.range (i+1))=_
   rw[Jb,U7];unfold k4;rw[List.map_singleton,Vz (λ h=>c (J4 h))];rfl
 ·intro D2 H2 hD sm p4;rw[en] at p4;exact q D2 H2 sm hD p4
def qdF(K:W.Frag):Sp:=λ vs H Q _=>∃(gp ls:List Nat)(a:Addr)(Ms:List Nat),vs=[vS gp,vS ls,.ref a]/\H a=some (.lst (Ms.map vN))/\gp.Nodup/\gp.length<=9/\ls.Nodup/\ls.length<=6/\Ms.length=2^ls.length /\
 ∀ r fs H',qi H H'->H r=none->H' r=some (.lst (fs.map V.ref))->Paired (λ c g=>H' c=some (.tup ((formOf ls (Ms.map λ M=>asg gp (qG gp.length M) g)).map vS))) fs gp->Q (.ref r) H'
theorem qer:FnScope ["gaps","letters","gap_rows","truths"] ["gaps","letters","gap_rows"] (qf vj):=scF
theorem qjq(F:Fun K "filling_by" "filling_by" vj f fd)(T:Txt mg)(A3:Dp P w K mg base 1 P4 P8 ["letters","number"] (qfe) "row_of")(M2:Dp P w K mg base 11 eV fJ ["letters","table"] (qhc K) "form_of"): FnOk P w K mg base CX0 12 f fd ["gaps","letters","gap_rows"] (qdF K):=by
 refine F.okd qer (λ cdv A outer s H vs Q E hr h=>?_);obtain⟨gp,ls,a,Ms,rfl,ha,bX,R5,lX,l6,lM,q⟩:=h;have E6:=jI hr;refine⟨_,(qc (qx (i:=3) qer.nd rfl (Or.inr rfl) (zg (csc (NY:=["row","gaps"]) (o:=1) (caps:=[0]) ["gaps"] rfl
    (by intro x hx;rw[Zg.mp hx];exact .inl rfl) (jz rfl rfl rfl yk) rfl) rfl
    (zF (pv 2)) (λ C0 s H fp pins=>qo (i:=0) (show(["row","gaps"]:List Str).Nodup by decide +kernel) rfl (Or.inl rfl)) (λ C0 s H fp pins=>ze) (λ C0 s H fp pins=>(zd A3 hr (qa (pv 1) (qa (pv 0) qb))))))
  (qd (ql (qkk (qf6 (NY:=["gap","letters","truths"]) (o:=1) (caps:=[1,3]) ["letters","truths"] rfl (by decide +kernel) (by decide +kernel) (by decide +kernel) (by decide +kernel)
    (by intro x hx;rcases Qb.mp hx with e | hx;· rw[e];exact .inl rfl
        rw[Zg.mp hx];exact .inl rfl) (jz rfl rfl rfl (jz rfl rfl rfl yk)) rfl) rfl
    (vT (pv 0)) (λ C0 s H fp pins=>qo (i:=0) (show(["gap","letters","truths"]:List Str).Nodup by decide +kernel) rfl (Or.inr rfl)) (λ C0 s H fp pins=>ze) (λ C0 s H fp pins=>(zd M2 hr (qa (pv 1) (qa (zg (csc (NY:=["row","gap"]) (o:=1) (caps:=[0]) ["gap"] rfl
    (by intro x hx;rw[Zg.mp hx];exact .inl rfl) (jz rfl rfl rfl yk) rfl) rfl
    (show PI _ _ _ (qmF K (qet 2)) from zF (pv 2)) (λ C0 s H fp pins=>qo (i:=0) (show(["row","gap"]:List Str).Nodup by decide +kernel) rfl (Or.inl rfl)) (λ C0 s H fp pins=>ze) (λ C0 s H fp pins=>(k7 E6 (pv 0) (pv 1) (λ _ _=>rfl)))) qb)))))))),?_⟩
 have aM:(qk gp).cps.size=gp.length:=qw gp;have W2:2^ls.length<=64:=Qq (Yo (by decide) l6) (by decide);have up:∀{HX:Hp}{D z:Addr}{l l':List V}{o:HO},(∀ l,o≠.lst l)->HX D=some (.lst l)->HX z=some o->upd HX D (.lst l') z=some o:=λ{HX D z l l' o} no hX h=>by
  have:z≠D:=λ q=>by rw[q,hX] at h;exact no _ (Option.some.inj h).symm
  rw[qp this];exact h
 refine⟨_,rfl,a,rfl,⟨_,SqL.of ha⟩,?_⟩;refine yL (Ms.map vN).length (λ i ys H'=>∃ ds:List Addr,ys=ds.map V.ref/\Paired (λ d M=>H' d=some (.dK (zD gp (qG gp.length M)))) ds (Ms.take i)) (λ D hD=>⟨[],rfl,.nil⟩) (λ i ys H' hi ⟨ds,e,pd⟩=>by rw[e,U0,pd.length,Ue];exact zb (by omega)) ?_ (λ H' sm=>⟨_,sm.seq (SqL.of ha),Q5 _⟩) ?_
 ·rintro i ys H' D Y Z hi hD W1 sm ⟨ds,rfl,pd⟩ hY hZ;refine⟨⟨_,_,sm.seq (SqL.of ha),Xv hi⟩,?_⟩;rintro x rL ⟨rfl,hx⟩;have ev:=hx _ (sm.seq (SqL.of ha));obtain⟨M,hM,rfl⟩:=qj ev;refine⟨⟨rfl,rfl⟩,?_⟩;refine⟨_,rfl,_,rfl,gp,M,rfl,bX,R5,λ d HC gC nC eC=>?_⟩;have oP:=gC _ _ W1;refine hY _ _ oP (sm.trans gC) ⟨ds++[d],by rw[U7];rfl,?_⟩;rw[q0 hM];exact qX (L2.Paired.mapP pd λ z M h=>up (λ l q=>nomatch q) oP (gC _ _ h)) (.cons (up (λ l q=>nomatch q) oP eC) .nil)
 rintro D H2 ys hD sm2 p4 ⟨ds,rfl,pd⟩;rw[U0,Ul] at pd;have sJ:ds.length=Ms.length:=pd.length;refine⟨_,rfl,_,rfl,?_⟩;refine yL (qk gp).cps.size (λ i ys H'=>∃ fs:List Addr,ys=fs.map V.ref/\Paired (λ c g=>H' c=some (.tup ((formOf ls (Ms.map λ M=>asg gp (qG gp.length M) g)).map vS))) fs (gp.take i)) (λ D hD=>⟨[],rfl,.nil⟩) (λ i ys H' hi ⟨fs,e,pf⟩=>by rw[e,U0,pf.length,Ue];exact zb (by omega)) ?_ (λ H' sm=>rfl) ?_
 ·rintro i ys H' D' Y Z hi hD' W1 sm ⟨fs,rfl,pf⟩ hY hZ;refine⟨hi,?_⟩;rintro x rL ⟨rfl,rfl⟩;rw[aM] at hi;rw[yU hi];refine⟨⟨rfl,rfl⟩,?_⟩;have eD:=sm _ _ p4;refine⟨_,rfl,?_⟩;refine⟨_,rfl,D,rfl,⟨_,SqL.of eD⟩,?_⟩;refine vX (SqL.of eD) (λ j=>(Ms.take j).map λ M=>V.bl (asg gp (qG gp.length M) gp[i])) rfl (λ j hj=>?_) ?_ ?_
  ·rw[U0,Ue];exact zb (by omega)
  ·intro j v H3 D3 Y3 Z3 hv uJ M5 aL hY3 hZ3;obtain⟨d,hd,rfl⟩:=qj hv;obtain⟨M,hM,ed⟩:=qS pd j d hd;have lp:gp.length=(qG gp.length M).length:=(zB _ _).symm;have gd:=qa8.k (k:=Sum.inr (qk [gp[i]])) (aL _ _ (sm _ _ ed));rw[yN lp,Vy (Uk hi)] at gd;refine⟨⟨rfl,rfl⟩,?_⟩;refine⟨_,rfl,_,rfl,d,_,rfl,gd,?_⟩;exact hY3 _ _ M5 aL (zr (f:=λ M=>V.bl (asg gp (qG gp.length M) gp[i])) hM)
  intro D3 H3 uJ aL M5;rw[U0,sJ,Ul] at M5;refine⟨D3,Ms.map λ M=>asg gp (qG gp.length M) gp[i],ls,rfl,SqL.of (by rw[M5,Qv];rfl),by rw[U0,lM],by omega,lX,λ c HC gC eC=>?_⟩;have oP:=gC _ _ (aL _ _ W1);refine hY _ _ oP ((sm.trans aL).trans gC) ⟨fs++[c],by rw[U7];rfl,?_⟩;rw[q0 (Xv hi)];exact qX (L2.Paired.mapP pf λ z g h=>up (λ l q=>nomatch q) oP (gC _ _ (aL _ _ h))) (.cons (up (λ l q=>nomatch q) oP eC) .nil)
 ·rintro D' HA ys hD' smA rC ⟨fs,rfl,pf⟩;rw[aM,Ul] at pf;exact q D' fs HA (sm2.trans smA) (qbD sm2 hD') rC pf
noncomputable def qbI(gv gp:List Nat)(F:List Pr):List Nat:=(List.range (2^gv.length)).flatMap λ N=>(List.range (2^gp.length)).map (k4 (q8 gv gp F N))
noncomputable def vD(gv gp:List Nat)(F:List Pr)(g:Nat):List Pr:=formOf (gv++gp.map zc) ((qbI gv gp F).map λ M=>asg gp (qG gp.length M) g)
def qdG(CT:Addr):Sp:=λ vs H Q _=>∃(o:Addr)(gv gp:List Nat)(ws:List Wsh)(dx a1 a2 a3:Addr)(ps:List Addr),vs=[.ref o]/\TaskAt CT H o gv gp ws dx a1 a2 a3 ps/\TkOk gv gp ws /\
 ((∃ N,N<2^gv.length/\q8 gv gp (qU (ws.map Wsh.side)) N=[])->∀ H',qi H H'->Q .non H') /\
 ((∀ N,N<2^gv.length->q8 gv gp (qU (ws.map Wsh.side)) N≠[])->∀ r fs H',qi H H'->H r=none->H' r=some (.lst (fs.map V.ref))->Paired (λ c g=>H' c=some (.tup ((vD gv gp (qU (ws.map Wsh.side)) g).map vS))) fs gp->Q (.ref r) H')
theorem qdH(gv gp:List Nat)(F:List Pr)(n:Nat):((List.range n).flatMap λ N=>(List.range (2^gp.length)).map (k4 (q8 gv gp F N))).length=n*2^gp.length:=by
 induction n with
 |zero=>simp
 |succ n ih=>rw[Jb,Y5,Zb,ih,XL,U0,Zw,Nat.succ_mul]
theorem jy{R:α->β->Prop}{S:α->γ->Prop}{f:β->γ}(h:∀ a b,R a b->S a (f b)):∀{xs:List α}{ys:List β},Paired R xs ys->Paired S xs (ys.map f)
 |_,_,.nil=>.nil
 |_,_,.cons r t=>.cons (h _ _ r) (jy h t)
theorem qnN(l:List Nat):l.map vN=(l.map λ M=>((M:Nat):Int)).map V.int:=by rw[Qv];rfl
theorem qbJ(h:(List.range n)[i]?=some N):N=i/\i<n:=by
 have hl:=vc h;rw[Zw] at hl;rw[Y2 hl] at h;exact⟨(Option.some.inj h).symm,hl⟩
theorem qao:FnScope ["task","doing","gap_rows","doing_there"] ["task"] (qf yq):=scF
theorem qjr(F:Fun K "widest_filling" "widest_filling" yq f fd)(T:Txt mg)(x0:Dp P w K mg base 2 N1 N3 ["gaps","doing_there"] (qhJ) "nearest_rows")(M1:Dp P w K mg base 1 eU fH ["gaps"] (vB) "free_of")(B8:Dp P w K mg base 12 T5 T6 ["gaps","letters","gap_rows"] (qdF K) "filling_by")(c6:TaskC K c5)(B6:Meth K c5 "doing" p7)(B9:FnOk P w K mg base CX0 4 p7 w9 ["self"] (qip c5))(B4:qh K w9 ["self"] [])(u6:Meth K c5 "gaps" t7)(u8:FnOk P w K mg base CX0 1 t7 x6 ["self"] (qoW c5))(u4:qh K x6 ["self"] [])(A0:Meth K c5 "givens" n8)(A4:FnOk P w K mg base CX0 1 n8 r9 ["self"] (qoV c5))(x9:qh K r9 ["self"] []): FnOk P w K mg base CX0 13 f fd ["task"] (qdG c5):=by
 refine F.okd qao (λ cdv A outer s H vs Q E hr h=>?_);obtain⟨o,gv,gp,ws,dx,a1,a2,a3,ps,rfl,t,ok,qn,qs⟩:=h;have E6:=jI hr;have iC:Room 1 _:=hr.mono (by decide);have hr_4:Room 4 _:=hr.mono (by decide);refine⟨_,(qc (qx (i:=1) qao.nd rfl (Or.inl rfl) (qD (pv 0) c6.cls B6 B9 hr_4 B4 .nil qF))
  (qc (qY (qt (ql1 E6) (zY qb) (pv 1) rfl)
   (qd (ql vF)) qC)
  (qc (qx (i:=2) qao.nd rfl (Or.inl rfl) (zY qb))
  (qc (yn Jf rfl (zF (pv 1)) (qo (i:=3) qao.nd rfl (Or.inl rfl))
  (qd (yt (yW X9 PySem.F.slot_list_extend PySem.F.type_list_extend qiI (pv 2) (qa (zd x0 hr (qa (qD (pv 0) c6.cls u6 u8 iC u4 .nil qF) (qa (pv 3) qb))) qb)))))
  (qd (ql (zd B8 hr (qa (qD (pv 0) c6.cls u6 u8 iC u4 .nil qF) (qa (qr qN (qD (pv 0) c6.cls A0 A4 iC x9 .nil qF) (zd M1 hr (qa (qD (pv 0) c6.cls u6 u8 iC u4 .nil qF) qb))) (qa (pv 2) qb)))))))))),?_⟩
 have bY:gv.length<=3:=ok.sv.length_le;have R5:gp.length<=3:=ok.sp.length_le;have h8v:2^gv.length<=8:=Yo (n:=2) (by decide) bY;have h8p:2^gp.length<=8:=Yo (n:=2) (by decide) R5;obtain⟨rl,nX,l9⟩:=jP ok.sv ok.sp;have bX:gp.Nodup:=(Zq.mp (q9 Qa rl)).2.1;generalize hF:qU (ws.map Wsh.side)=FF at qn qs;refine⟨_,rfl,o,dx,_,rfl,t.ins,rfl,o,gv,gp,ws,dx,a1,a2,a3,ps,rfl,t,ok,λ r bs H1 g1 nr nbs e1 pA=>?_⟩;rw[hF] at pA;have lbs:bs.length=2^gv.length:=by rw[pA.length,Zw]
 refine⟨Q6 _,λ p hp=>?_⟩;have g2:=qi.up hp (o:=.lst []);have toL:Paired (λ c (G:List Int)=>SqL K (upd H1 p (.lst [])) c (G.map V.int)) bs ((List.range (2^gv.length)).map λ N=>(q8 gv gp FF N).map λ M=>((M:Nat):Int)):=jy (S:=λ c (F:List Int)=>SqL K (upd H1 p (.lst [])) c (F.map V.int)) (f:=λ N=>(q8 gv gp FF N).map λ M=>((M:Nat):Int)) (λ c N h=>SqL.of (by rw[<- qnN];exact g2 _ _ h)) pA;refine⟨_,rfl,p,r,bs,[],_,rfl,rfl,SqL.of qe,SqL.of (g2 _ _ e1),toL,_,rfl,?_⟩;refine vM (λ c=>?_) (λ c=>?_)
 ·have c':=Ub c;obtain⟨N,hN,e⟩:=Qu.mp c';exact qn ⟨N,Jp.mp hN,by simpa using e⟩ _ (g1.trans g2)
 have iX:∀ N,N<2^gv.length->q8 gv gp FF N≠[]:=λ N hN e=>c (J4 (Qu.mpr ⟨N,Jp.mpr hN,by rw[e];rfl⟩))
 refine⟨Q6 _,λ l hl=>?_⟩;have g3:=qi.up hl (o:=.lst []);have O8:=g2.trans g3;have g03:=g1.trans O8;have nl:H l=none:=qbD (g1.trans g2) hl;have nl1:H1 l=none:=qbD g2 hl;have e3:=O8 _ _ e1;have nrl:r≠l:=λ e=>by rw[e,nl1] at e1;cases e1
 refine⟨_,rfl,r,rfl,⟨_,SqL.of e3⟩,?_⟩;refine vI (K:=K) (xs:=bs.map V.ref) (λ i σ H'=>∃ v3:Option V,σ=[some (.ref o),some (.ref r),some (.ref l),v3]/\But l (upd (upd H1 p (.lst [])) l (.lst [])) H'/\H' l=some (.lst (((List.range i).flatMap λ N=>(List.range (2^gp.length)).map (k4 (q8 gv gp FF N))).map vN))) ⟨none,rfl,But.refl _ _,qe⟩ (λ i σ H' hi ⟨_,_,b,_⟩=>SqL.of (b _ _ nrl e3)) ?_ ?_
 ·rintro i y σ H4 hy ⟨v3,rfl,b4,e4⟩;obtain⟨c,hc,rfl⟩:=qj hy;obtain⟨N,hN,eN⟩:=qS pA i c hc;obtain⟨rfl,hNl⟩:=qbJ hN;have eN:H1 c=_:=eN;have ncl:c≠l:=λ e=>by rw[e,nl1] at eN;cases eN
  have eN4:=b4 _ _ ncl (O8 _ _ eN);have rE:qi H H4:=b4.same g03 nl;have t4:=t.mono rE;refine⟨_,rfl,.inl ⟨rfl,_,SqL.of e4⟩,?_⟩;refine⟨_,rfl,o,dx,_,rfl,t4.ins,rfl,o,gv,gp,ws,dx,a1,a2,a3,ps,rfl,t4,λ H5 g5=>?_⟩;refine⟨_,rfl,gp,c,q8 gv gp FF N,rfl,g5 _ _ eN4,iX N hNl,R5,λ r2 H6 g6 n6 e6=>?_⟩;have e46:=g6 _ _ (g5 _ _ e4);have nl2:N*2^gp.length<=8*8:=Nat.mul_le_mul (by omega) h8p;refine⟨l,r2,_,_,rfl,rfl,e46,e6,?_,?_⟩
  ·rw[U0,qdH,U0,Zw];exact qE (by omega)
  refine⟨_,rfl,((b4.trans (zv (g5.trans g6))).upd),?_⟩;rw[qe,Jb,Y5,U7,XL,Qv];rfl
 ·rintro σ H4 ⟨v3,rfl,b4,e4⟩;rw[U0,lbs] at e4;have rE:qi H H4:=b4.same g03 nl;refine⟨_,rfl,o,dx,_,rfl,(t.mono rE).ins,rfl,o,gv,gp,ws,dx,a1,a2,a3,ps,rfl,t.mono rE,λ H5 g5=>?_⟩;have g05:=rE.trans g5;refine⟨_,rfl,o,dx,_,rfl,(t.mono g05).ins,rfl,o,gv,gp,ws,dx,a1,a2,a3,ps,rfl,t.mono g05,λ H6 g6=>?_⟩;have g06:=g05.trans g6;refine⟨_,rfl,o,dx,_,rfl,(t.mono g06).ins,rfl,o,gv,gp,ws,dx,a1,a2,a3,ps,rfl,t.mono g06,λ H7 g7=>?_⟩;have g07:=g06.trans g7;refine⟨gp,rfl,ok.sp,λ H8 g8=>?_⟩;refine⟨_,_,rfl,rfl,by rw[qw,qw,U0];exact qE (by omega),?_⟩;rw[yo];have g48:=((g5.trans g6).trans g7).trans g8;have e8:=g48 _ _ e4;have sL:(gv++gp.map zc).Sublist [97,98,99,112,113,114]:=ok.sv.append (ok.sp.map zc);refine⟨_,rfl,gp,gv++gp.map zc,l,qbI gv gp FF,rfl,e8,bX,by omega,?_,by rw[Zb,U0];omega,?_,λ r' fs H9 g9 n9 e9 pf=>?_⟩
  ·exact(show([97,98,99,112,113,114]:List Nat).Nodup by decide).sublist sL
  ·unfold qbI;rw[qdH,Zb,U0,Q8]
  ·have uN:=rE.trans g48;exact qs iX r' fs H9 (uN.trans g9) (qbD uN n9) e9 pf
def qdI(K:W.Frag):Sp:=λ vs H Q _=>∃(r:Addr)(ps:List Addr)(xs:List (Tr×Tr))(gv gp:List Nat),vs=[.ref r,vS gv,vS gp]/\H r=some (.lst (ps.map V.ref))/\Paired (jp H) ps xs/\xs.length<=100/\(∀ x∈xs,x.1.Of (gv++gp)/\x.2.Of (gv++gp)/\x.1.ht<=20/\x.2.ht<=20)/\gv.Sublist [97,98,99]/\gp.Sublist [120,121,122] /\
 ∀ r' as H',qi H H'->H r'=none->H' r'=some (.lst (as.map V.ref))->Paired (λ c N=>∃ l:List V,H' c=some (.lst l)/\(l.length=0 ↔ q8 gv gp (qU ((xs.map asW).map Wsh.side)) N=[])) as (List.range (2^gv.length))->Q (.ref r') H'
theorem qlk{xs:List (Tr×Tr)}(h:∀ x∈xs,x.1.Of (gv++gp)/\x.2.Of (gv++gp))(N M:Nat):yX gv gp (qU ((xs.map asW).map Wsh.side)) N M=!(xs.any λ x=>x.1.val (qgt gv gp N M) != x.2.val (qgt gv gp N M)):=by
 unfold yX;rw[qce _ xs h]
theorem jT:FnScope [sA3,sA6,sA5,sA7,sA1,"_law_here","_law_more"] [sA3,sA6,sA5] (qf kS):=scF
theorem qjs(F:Fun K sC9 sC9 kS f fd)(T:Txt mg)(A1:Dp P w K mg base 2 O9 P5 [sA0] (qcx) sC6)(C4:Dp P w K mg base 1 P3 P7 [sA8,sB2] (qff) sC7)(p5:Dp P w K mg base 21 D5 D7 [sA3,sA1] (qan K) sB5): FnOk P w K mg base CX0 22 f fd [sA3,sA6,sA5] (qdI K):=by
 refine F.okd jT (λ cdv A outer s H vs Q E hr h=>?_);obtain⟨r,ps,xs,gv,gp,rfl,O4,pr,lx,ok,K7,C9,q⟩:=h;refine⟨_,(qc (qx (i:=3) jT.nd rfl (Or.inl rfl) (zY qb))
  (qc (yn Jf rfl (zF (zd A1 hr (qa (pv 1) qb))) (qo (i:=4) jT.nd rfl (Or.inl rfl))
  (qc (qx (i:=5) jT.nd rfl (Or.inl rfl) (zY qb))
  (qc (yn Jf rfl (zF (zd A1 hr (qa (pv 2) qb))) (qo (i:=6) jT.nd rfl (Or.inl rfl))
  (qd (qY (qt zq (qv qz (by rfl) T.len J0 (qa (zd p5 hr (qa (pv 0) (qa (zd C4 hr (qa (pv 4) (qa (pv 6) qb))) qb))) qb)) qg (qB _))
   (qd (yt (yW X9 Xy Xz yb (pv 5) (qa (pv 6) qb)))) qC)))
  (qd (yt (yW X9 Xy Xz yb (pv 3) (qa (pv 5) qb)))))))
  (qd (ql (pv 3))))),?_⟩
 obtain⟨tE,nX,l9⟩:=jP K7 C9;have bY:gv.length<=3:=K7.length_le;have R5:gp.length<=3:=C9.length_le;have lX:=q9 Qa tE;have xO:gv.Nodup:=(Zq.mp lX).1;have bX:gp.Nodup:=(Zq.mp lX).2.1;have h8v:2^gv.length<=8:=Yo (n:=2) (by decide) bY;have h8p:2^gp.length<=8:=Yo (n:=2) (by decide) R5;have dv:=qlk (gv:=gv) (gp:=gp) (xs:=xs) (λ x hx=>⟨(ok x hx).1,(ok x hx).2.1⟩);generalize hF:qU ((xs.map asW).map Wsh.side)=FF at dv q;refine⟨Q6 _,λ du hdu=>?_⟩;have g6:=qi.up hdu (o:=.lst []);refine⟨_,rfl,gv,rfl,xO,by omega,λ rr ds H7 g7 e7 pd=>?_⟩;have g07:=g6.trans g7;have du7:H7 du=some (.lst []):=g7 _ _ qe;have sJ:ds.length=2^gv.length:=by rw[pd.length,Zw]
 have nrr:rr≠du:=λ h=>by
  rw[h,du7] at e7;have e:=HO.lst.inj (Option.some.inj e7);have hp:0<2^gv.length:=Je _;rw[<- sJ] at hp;cases ds with
  |nil=>cases hp
  |cons d ds=>cases e
 refine⟨rr,rfl,⟨_,SqL.of e7⟩,?_⟩;refine vI (K:=K) (xs:=ds.map V.ref) (λ i σ H'=>∃(as:List Addr)(v4 v5 v6:Option V),σ=[some (.ref r),some (vS gv),some (vS gp),some (.ref du),v4,v5,v6]/\But du H7 H'/\H' du=some (.lst (as.map V.ref))/\Paired (λ c N=>c≠du/\∃ l:List V,H' c=some (.lst l)/\(l.length=0 ↔ q8 gv gp FF N=[])) as (List.range i)) ⟨[],none,none,none,rfl,But.refl _ _,du7,.nil⟩ (λ i σ H' hi ⟨_,_,_,_,_,b,_⟩=>SqL.of (b _ _ nrr e7)) ?_ ?_
 ·rintro i y σ H8 hy ⟨as,v4,v5,v6,rfl,b8,wH,rT⟩;obtain⟨d,hd,rfl⟩:=qj hy;obtain⟨N,hN,ed⟩:=qS pd i d hd;obtain⟨rfl,hNl⟩:=qbJ hN;have xP:as.length=N:=by rw[rT.length,Zw]
  have wG:H8 d=some (.dK (zD gv (qG gv.length N))):=b8 _ _ (λ e=>by rw[e,du7] at ed;cases ed) ed;have uN:qi H H8:=b8.same g07 hdu;refine⟨Q6 _,λ hh rA=>?_⟩;have g9:=qi.up rA (o:=.lst []);refine⟨_,rfl,gp,rfl,bX,by omega,λ r2 ds2 HA gA eA pd2=>?_⟩;have uM:=g9.trans gA;have hhA:HA hh=some (.lst []):=gA _ _ qe;have sI:ds2.length=2^gp.length:=by rw[pd2.length,Zw]
  have nr2:r2≠hh:=λ h=>by
   rw[h,hhA] at eA;have e:=HO.lst.inj (Option.some.inj eA);have hp:0<2^gp.length:=Je _;rw[<- sI] at hp;cases ds2 with
   |nil=>cases hp
   |cons d ds=>cases e
  refine⟨r2,rfl,⟨_,SqL.of eA⟩,?_⟩;have nhh:∀{z:Addr}{o:HO},H8 z=some o->z≠hh:=λ h e=>by rw[e,rA] at h;cases h
  refine vI (K:=K) (xs:=ds2.map V.ref) (λ j σ H'=>∃(l:List V)(v6:Option V),σ=[some (.ref r),some (vS gv),some (vS gp),some (.ref du),some (.ref d),some (.ref hh),v6]/\But hh HA H'/\H' hh=some (.lst l)/\l.length<=j/\(l.length=0 ↔ (List.range j).filter (yX gv gp FF N)=[])) ⟨[],_,rfl,But.refl _ _,hhA,Q5 _,by simp⟩ (λ j σ H' hj ⟨_,_,_,b,_⟩=>SqL.of (b _ _ nr2 eA)) ?_ ?_
  ·rintro j y2 σ HB hy2 ⟨l,v6',rfl,bB,ehB,ll,hl⟩;obtain⟨d2,dW,rfl⟩:=qj hy2;obtain⟨M,hM,ed2⟩:=qS pd2 j d2 dW;obtain⟨rfl,hMl⟩:=qbJ hM;have edB:HB d=some (.dK (zD gv (qG gv.length N))):=bB _ _ (nhh wG) (uM _ _ wG);have ed2B:HB d2=some (.dK (zD gp (qG gp.length M))):=bB _ _ (λ e=>by rw[e,hhA] at ed2;cases ed2) ed2;have g0B:qi H HB:=bB.same (uN.trans uM) (qbD uN rA);have lv:gv.length=(qG gv.length N).length:=(zB _ _).symm;have lp:gp.length=(qG gp.length M).length:=(zB _ _).symm;have lb:(gv++gp).length=(qG gv.length N++qG gp.length M).length:=by rw[Zb,Zb,<- lv,<- lp]
   refine⟨_,rfl,_,rfl,_,rfl,d,d2,_,_,rfl,edB,ed2B,by rw[jS lv,jS lp];omega,λ d3 HC gC fC eC=>?_⟩;rw[qa1 lX lv lp] at eC;have g0C:=g0B.trans gC;refine⟨r,d3,ps,xs,_,qgt gv gp N M,gv++gp,rfl,g0C _ _ O4,qR (λ p x h=>jp.mono h (zj g0C)) pr,lx,ok,eC,λ c hc=>by rw[yN lb,Vy hc];rfl,λ r' is HD gD eD O7=>?_⟩;have er:decide (V.int (((is.map V.int).length:Nat):Int)=V.int 0)=yX gv gp FF N M:=by
    rw[dv,<- O7,U0,<- decide_not];refine Uw.mpr ?_;rw[V.int.injEq];omega
   refine⟨r',_,rfl,.inl (SqL.of eD),rfl,_,rfl,?_⟩;rw[er];have gCD:=gC.trans gD;have bD:But hh HA HD:=bB.trans (zv gCD);have ehD:=gCD _ _ ehB;have fs:(List.range (M+1)).filter (yX gv gp FF N)=(List.range M).filter (yX gv gp FF N)++(if yX gv gp FF N M=true then [M] else []):=by
    rw[Jb,List.filter_append];congr 1
    rw[Uq];rfl
   refine vM (λ c=>?_) (λ c=>?_)
   ·refine⟨_,rfl,.inl ⟨rfl,_,SqL.of ehD⟩,_,rfl,hh,_,_,rfl,rfl,ehD,zb (by omega),?_⟩;refine⟨_,_,rfl,bD.upd,qe,by rw[Zb,XR];omega,?_⟩;rw[fs,Vy c];simp
   ·refine⟨_,_,rfl,bD,ehD,by omega,?_⟩;rw[fs,Vz c,U1];exact hl
  ·rintro σ HB ⟨l,v6',rfl,bB,ehB,ll,hl⟩;rw[U0,sI] at hl;have V3:du≠hh:=λ e=>by rw[e,rA] at wH;cases wH
   have edB:HB du=some (.lst (as.map V.ref)):=bB _ _ V3 (uM _ _ wH);refine⟨_,rfl,.inl ⟨rfl,_,SqL.of edB⟩,_,rfl,du,_,_,rfl,rfl,edB,by rw[U0];exact zb (by omega),?_⟩;refine⟨as++[hh],_,_,_,rfl,?_,by rw[qe,U7];rfl,?_⟩
   ·intro z o nz h;rw[qp nz];have h8:=b8 _ _ nz h;exact bB _ _ (λ e=>by rw[e,rA] at h8;cases h8) (uM _ _ h8)
   ·rw[Jb];have k1:∀ c N',(c≠du/\∃ l:List V,H8 c=some (.lst l)/\(l.length=0 ↔ q8 gv gp FF N'=[]))->(c≠du/\∃ l:List V,upd HB du (.lst (as.map V.ref++[.ref hh])) c=some (.lst l)/\(l.length=0 ↔ q8 gv gp FF N'=[])):=λ c N' h=>⟨h.1,by
     obtain⟨l,hc,hl⟩:=h.2;refine⟨l,?_,hl⟩;rw[qp h.1];exact bB _ _ (λ e=>by rw[e,rA] at hc;cases hc) (uM _ _ hc)⟩
    exact qX (qR k1 rT) (.cons ⟨Vr V3,l,by rw[qp (Vr V3)];exact ehB,hl⟩ .nil)
 ·rintro σ H8 ⟨as,v4,v5,v6,rfl,b8,wH,rT⟩;rw[U0,sJ] at rT;exact⟨_,rfl,q du as H8 (b8.same g07 hdu) hdu wH (qR (λ c N h=>h.2) rT)⟩
def qa2:Sp:=λ vs H Q _=>∃(p:Addr)(fs:List Addr)(Fs:List (List Pr))(gv gp:List Nat),vs=[.ref p,vS gv,vS gp]/\H p=some (.lst (fs.map V.ref))/\Fs.length=gp.length/\Paired (λ c (F:List Pr)=>On (gv++gp.map zc) F/\H c=some (.tup (F.map vS))) fs Fs/\gv.Sublist [97,98,99]/\gp.Sublist [120,121,122]/\∀ H',qi H H'->Q (.bl true) H'
theorem qgu:FnScope [sA7,sA6,sA5] [sA7,sA6,sA5] (qf zZ):=scF
theorem qgv(F:Fun K sB0 sB0 zZ f fd)(T:Txt mg)(x4:Dp P w K mg base 1 L1 L7 [sA5] (vB) sC3)(A2:Dp P w K mg base 1 P0 P6 [sA7,sA0] (qfd) sB6): FnOk P w K mg base CX0 2 f fd [sA7,sA6,sA5] (qa2):=by
 refine F.okd qgu (λ cdv A outer s H vs Q E hr h=>?_);obtain⟨p,fs,Fs,gv,gp,rfl,hp,hl,pf,K7,C9,q⟩:=h;refine⟨_,(qc (qY (PW.pt (qcA (qbL (jf (qv qdc (by rfl) T.isinstance qb4 (qa (pv 0) (qa (qeu (v:=.ty "list") (by rfl) T.list qcs rfl) qb)))))
   (qaB (qt qfm (qv qz (by rfl) T.len J0 (qa (pv 0) qb)) (qv zQ (by rfl) T.len J0 (qa (pv 2) qb)) (qB _)))))
   (qd (ql qa3)) qC)
  (qd (ql (qv (js rfl) (by rfl) T.all qe2 (qa (zg (csc (NY:=[sB8,sA6,sA5]) (o:=1) (caps:=[1,2]) [sA6,sA5] rfl
    (by intro x hx;rcases Qb.mp hx with e | hx;· rw[e];exact .inl rfl
        rw[Zg.mp hx];exact .inl rfl) (jz rfl rfl rfl (jz rfl rfl rfl yk)) rfl) rfl
    (zF (pv 0)) (λ C0 s H fp pins=>qo (i:=0) (show([sB8,sA6,sA5]:List Str).Nodup by decide +kernel) rfl (Or.inl rfl)) (λ C0 s H fp pins=>ze) (λ C0 s H fp pins=>(zd A2 hr (qa (pv 0) (qa (qr qN (pv 1) (zd x4 hr (qa (pv 2) qb))) qb))))) qb))))),?_⟩
 have hlp:(qk gp).length=gp.length:=qw gp;have lfs:fs.length=gp.length:=by rw[pf.length,hl]
 have bY:gv.length<=3:=K7.length_le;have R5:gp.length<=3:=C9.length_le;have sL:(gv++gp.map zc).Sublist [97,98,99,112,113,114]:=K7.append (C9.map zc);have mH:(gv++gp.map zc).Pairwise (·<·):=(show([97,98,99,112,113,114]:List Nat).Pairwise (·<·) by decide).sublist sL;have l6:(gv++gp.map zc).length<=6:=by rw[Zb,U0];omega
 have W2:2^(gv++gp.map zc).length<=64:=Qq (Yo (by decide) l6) (by decide);refine⟨_,rfl,_,_,rfl,TyOf.lst hp,true,rfl,?_⟩;refine zN ?_;refine⟨_,rfl,p,_,rfl,.inl (SqL.of hp),_,rfl,_,rfl,by rw[hlp];exact qE (by omega),rfl,_,rfl,?_⟩;rw[hlp,U0,lfs,J4 rfl];refine zN ?_;refine⟨_,rfl,p,rfl,⟨_,SqL.of hp⟩,?_⟩;refine vX (SqL.of hp) (λ j=>(fs.take j).map λ _=>V.bl true) rfl (λ j hj=>?_) ?_ ?_
 ·rw[U0,Ue];exact zb (by omega)
 ·intro j v H2 D Y Z hv hD p4 sm hY hZ;obtain⟨c,hc,rfl⟩:=qj hv;obtain⟨F,hF,oF,eF⟩:=qS pf j c hc;have lF:=oF.len mH;refine⟨⟨rfl,rfl⟩,?_⟩;refine⟨_,rfl,_,rfl,_,rfl,gp,rfl,C9,λ H3 g3=>?_⟩;refine⟨_,_,rfl,rfl,by rw[qw,qw,U0];exact qE (by omega),?_⟩;rw[yo];refine⟨c,F,gv++gp.map zc,rfl,g3 _ _ (sm _ _ eF),oF,mH,by omega,by omega,λ H4 g4=>?_⟩;exact hY _ _ (g4 _ _ (g3 _ _ p4)) ((sm.trans g3).trans g4) (zr (f:=λ _=>V.bl true) hc)
 intro D H2 hD sm p4;rw[U0,Ul] at p4;refine⟨D,fs.map λ _=>true,rfl,SqL.of (by rw[p4,Qv];rfl),?_⟩;rw[show((fs.map λ _=>true).all id)=true by rw[List.all_map];simp];exact q _ sm
theorem qbK:∀{a b:List Nat}{r q:List Bool}{c:Nat},a.length=r.length->c∈a->asg (a++b) (r++q) c=asg a r c
 | [],b,r,q,c,_,h=>by simp at h
 |d::a,b,[],q,c,hl,_=>by simp at hl
 |d::a,b,x::r,q,c,hl,h=>by
  by_cases e:d=c
  ·subst e;rw[Up,Up,qbx,qbx]
  ·rw[Up,Up,ki _ _ _ e,ki _ _ _ e];refine qbK (by simpa using hl) ?_;rcases Qb.mp h with h | h
   ·exact absurd h.symm e
   ·exact h
theorem qb5:∀{a b:List Nat}{r q:List Bool}{c:Nat},a.length=r.length->c∉a->asg (a++b) (r++q) c=asg b q c
 | [],b,[],q,c,_,_=>rfl
 | [],b,_::_,q,c,hl,_=>by simp at hl
 |d::a,b,[],q,c,hl,_=>by simp at hl
 |d::a,b,x::r,q,c,hl,h=>by
  have e:¬ d=c:=λ e=>h (e ▸ Y9 ..)
  rw[Up,Up,ki _ _ _ e];exact qb5 (by simpa using hl) λ m=>h (Yf _ m)
theorem qll:∀{gp:List Nat}{r:List Bool}{j c:Nat}{b:Bool},gp.Nodup->gp[j]?=some c->r[j]?=some b->asg gp r c=b
 | [],_,j,c,F,_,h,_=>by simp at h
 |d::gp,[],j,c,F,_,_,h=>by simp at h
 |d::gp,G::Fs,0,c,F,_,h1,h2=>by
  have e1:d=c:=Option.some.inj h1;have e2:G=F:=Option.some.inj h2;subst e1 e2;exact qbx ..
 |d::gp,G::Fs,j+1,c,F,nd,h1,h2=>by
  obtain⟨n1,n2⟩:=U2.mp nd;have hc:c∈gp:=Yh (i:=j) (by simpa using h1);rw[ki _ _ _ (λ e:d=c=>n1 (e ▸ hc))];exact qll (j:=j) n2 (by simpa using h1) (by simpa using h2)
noncomputable def qdJ(L:List Nat)(Fs:List (List Pr))(N:Nat):List Bool:=Fs.map λ F=>qy (asg L (qG L.length N)) F
noncomputable def qoY(L gp:List Nat)(Fs:List (List Pr))(N:Nat):Nat->Bool:=asg (L++gp) (qG L.length N++qdJ L Fs N)
noncomputable def apx:List Nat:=[97,98,99,112,113,114,120,121,122]
theorem qlm {gp:List Nat}(K7:gv.Sublist [97,98,99])(C9:gp.Sublist [120,121,122])(h:L=gv∨L=gv++gp.map zc):(L++gp).Sublist apx/\L.length<=6/\gv.Sublist L:=by
 have sf:(gp.map zc).Sublist [112,113,114]:=C9.map zc;have l1:=K7.length_le;have l2:=sf.length_le;rcases h with rfl|rfl
 ·exact⟨(K7.append C9).trans (by decide),by simp at l1;omega,List.Sublist.refl _⟩
 ·refine⟨(K7.append sf).append C9,?_,List.sublist_append_left ..⟩;rw[Zb];simp at l1 l2 ⊢;omega
theorem qcg(p:Nat):∀(v n:Nat),qG (v+p) n=qG v (n / 2^p)++qG p n
 |0,n=>by rw[Qw];rfl
 |v+1,n=>by
  rw[show v+1+p=(v+p)+1 by omega,qaO,qaO,qcg p v n,Up];rw[XH,<- Q8,Nat.add_comm p v]
theorem qiq{α:Type}{f:Nat->List α}(hf:∀ i,(f i).length=m):∀(a i j:Nat),i<a->j<m->((List.range a).flatMap f)[i*m+j]?=(f i)[j]?
 |0,i,j,h,_=>by omega
 |a+1,i,j,h,hj=>by
  have len:∀ a,((List.range a).flatMap f).length=a*m:=by
   intro a;induction a with
   |zero=>simp
   |succ a ih=>rw[Jb,Y5,Zb,ih,XL,hf,Nat.succ_mul]
  rw[Jb,Y5,XL];by_cases e:i<a
  ·have h1:i*m+j<a*m:=by
    have:(i+1)*m<=a*m:=Nat.mul_le_mul_right m e
    rw[Nat.succ_mul] at this;omega
   rw[Xm (by rw[len];exact h1)];exact qiq hf a i j e hj
  ·have e2:i=a:=by omega
   subst e2;rw[Xh (by rw[len];omega),len];congr 1;omega
theorem qln(h:D≠[])(M:Nat):k4 D M∈D:=by
 unfold k4;by_cases c:M∈D
 ·rw[Vy c];exact c
 ·rw[Vz c];obtain⟨d,D',rfl⟩:=List.exists_cons_of_ne_nil h;exact Y9 ..
theorem qmA(h:n<2^(gv.length+gp.length)):(qbI gv gp F)[n]?=some (k4 (q8 gv gp F (n / 2^gp.length)) (n % 2^gp.length)):=by
 have hp:0<2^gp.length:=Je _;have hm:=Vc n hp;have hd:n / 2^gp.length<2^gv.length:=Yp (by rw[<- Q8,Nat.add_comm];exact h);have e:n / 2^gp.length*2^gp.length+n % 2^gp.length=n:=by rw[Qx];exact Nat.div_add_mod n _
 unfold qbI
 conv=>lhs;rw[<- e]
 rw[qiq (m:=2^gp.length) (λ i=>by rw[U0,Zw]) _ _ _ hd hm,Zn,Y2 hm];rfl
theorem qmB(hr:(gv++gp.map zc).Pairwise (·<·))(F:List Pr)(g:Nat):On (gv++gp.map zc) (vD gv gp F g):=On.formOf hr _
theorem qjt(nd:((gv++gp.map zc)++gp).Nodup)(hr:(gv++gp.map zc).Pairwise (·<·))(rW:On (gv++gp) FF)(iX:∀ N,N<2^gv.length->q8 gv gp FF N≠[])(h:n<2^(gv++gp.map zc).length):
  qy (qoY (gv++gp.map zc) gp (gp.map (vD gv gp FF)) n) FF=false:=by
 have lL:(gv++gp.map zc).length=gv.length+gp.length:=by rw[Zb,U0]
 have h':n<2^(gv.length+gp.length):=by rw[<- lL];exact h
 have hp:0<2^gp.length:=Je _;have hd:n / 2^gp.length<2^gv.length:=Yp (by rw[<- Q8,Nat.add_comm];exact h');obtain⟨M,hM⟩:∃ M,M=k4 (q8 gv gp FF (n / 2^gp.length)) (n % 2^gp.length):=⟨_,rfl⟩;have nat:=qmA (F:=FF) h';rw[<- hM] at nat
 have mem:M∈q8 gv gp FF (n / 2^gp.length):=by rw[hM];exact qln (iX _ hd) _
 have pJ:yX gv gp FF (n / 2^gp.length) M=true:=(Ux.mp mem).2;unfold yX at pJ;rw[Bool.not_eq_true'] at pJ;rw[<- pJ];obtain⟨ndL,bX,dis⟩:=Zq.mp nd;have ndvf:=Zq.mp ndL;have lN:qbI gv gp FF=qbI gv gp FF:=rfl;have lt:(qbI gv gp FF).length=2^(gv++gp.map zc).length:=by unfold qbI;rw[qdH,lL,Q8]
 refine qcb λ q hq c hc=>?_
 have lb:(gv++gp.map zc).length=(qG (gv++gp.map zc).length n).length:=(zB _ _).symm;have lv:gv.length=(qG gv.length (n / 2^gp.length)).length:=(zB _ _).symm;show asg _ _ c=asg _ _ c
 by_cases hg:c∈gp
 ·have ncL:c∉gv++gp.map zc:=λ m=>dis c m c hg rfl
  have ncv:c∉gv:=λ m=>ncL (Uy.mpr (.inl m))
  rw[qb5 lb ncL,qb5 lv ncv];obtain⟨j,hj⟩:=XX.mp hg;refine qll bX hj ?_;unfold qdJ;rw[Zn,Zn,hj];show some (qy _ (vD gv gp FF c))=_
  unfold vD;rw[qi3 hr (by rw[U0,lt]) h,Xj,Zn,nat];rfl
 ·have hv:c∈gv:=(Uy.mp (rW.mem q hq c hc)).elim id λ m=>absurd m hg
  have hvL:c∈gv++gp.map zc:=Uy.mpr (.inl hv);rw[qbK lb hvL,qbK lv hv,lL,qcg,qbK lv hv]
def qir(K:W.Frag):Sp:=λ vs H Q _=>∃(a:Addr)(ns:List Int),vs=[.ref a]/\SqL K H a (ns.map V.int)/\ns.length<=63/\∀ H',Q (.bl true) H'
theorem qnO:bootBuiltins "any"=some (.builtin "any"):=by decide +kernel
theorem yV:FnScope [sA2,sA6,sA5,sA3,"_law_task",sA7,"_law_kept",sA1,"_law_more","_law_gap",sB8] [sA2] (qf qei):=scF
theorem qnP(F:Fun K "law" "law" qei f fd)(T:Txt mg)(B2:mg "int"=none)(V4:mg "any"=none)(E2:Dp P w K mg base 2 W4 W7 [sA2] (qhs K) sC1)(G3:Dp P w K mg base 3 bT bU [sA2,sA0,sD2,sA9] (qdC K) sC5)(E1:Dp P w K mg base 21 W3 W6 [sA3] (qb3) sC2)(l8:Dp P w K mg base 13 K1 K3 ["task"] (qdG c5) "widest_filling")(M0:Dp P w K mg base 22 eM eZ [sA3,sA6,sA5] (qdI K) sC9)(p8:Dp P w K mg base 2 K2 K4 [sA7,sA6,sA5] (qa2) sB0)(x4:Dp P w K mg base 1 L1 L7 [sA5] (vB) sC3)(A1:Dp P w K mg base 2 O9 P5 [sA0] (qcx) sC6)(L9:Dp P w K mg base 1 eL eY [sB8,sA1] (qfg K) sC8)(C4:Dp P w K mg base 1 P3 P7 [sA8,sB2] (qff) sC7)(p5:Dp P w K mg base 21 D5 D7 [sA3,sA1] (qan K) sB5)(c6:TaskC K c5)(aD:Mk K c5 L3)(aG:FnOk P w K mg base CX0 35 L3 P9 ["self","givens","gaps","wishes"] (qkQ K c5))(aB:qh K P9 ["self","givens","gaps","wishes"] [])(cU:mg "Task"=some (.ref c5)): FnOk P w K mg base CX0 37 f fd [sA2] (qir K):=by
 refine F.okd yV (λ cdv A outer s H vs Q E hr h=>?_);obtain⟨a,ns,rfl,hS,h63,q⟩:=h;have E6:=jI hr;have tG:Room 36 _:=hr.mono (by decide);refine⟨_,(qc (qcD (zd E2 hr (qa (pv 0) qb)) (qcC (n:=2) rfl (qH (qo (i:=1) yV.nd rfl (Or.inl rfl)) (qH (qo (i:=2) yV.nd rfl (Or.inl rfl)) zL))))
  (qc (qx (i:=3) yV.nd rfl (Or.inl rfl) (zd G3 hr (qa (pv 0) (qa (qr qN (pv 1) (pv 2)) (qa qg (qa qg qb))))))
  (qc (qx (i:=4) yV.nd rfl (Or.inl rfl) (k6 aD aG tG (by rfl) cU aB .nil qF (qa (pv 1) (qa (pv 2) (qa (zd E1 hr (qa (pv 3) qb)) qb)))))
  (qc (qx (i:=5) yV.nd rfl (Or.inl rfl) (zd l8 hr (qa (pv 4) qb)))
  (qc (qY (jf (qv (qf0 rfl) (by rfl) V4 qnO (qa (zg (csc (NY:=["_law_here"]) (o:=1) (caps:=[]) [] rfl
    (by simp) yk rfl) rfl
    (zF (zd M0 hr (qa (pv 3) (qa (pv 1) (qa (pv 2) qb))))) (λ C0 s H fp pins=>qo (i:=0) (show(["_law_here"]:List Str).Nodup by decide +kernel) rfl (Or.inl rfl)) (λ C0 s H fp pins=>ze) (λ C0 s H fp pins=>(yf zq (qv (r:=qop K) qz (by rfl) T.len J0 (qa (pv 0) qb)) qg (qB _)))) qb)))
   (qd (ql (yf qgC (pv 5) vF rfl))) qC)
  (qc (qY (qbL (jf (zd p8 hr (qa (pv 5) (qa (pv 1) (qa (pv 2) qb))))))
   (qd (ql qa3)) qC)
  (qc (qx (i:=6) yV.nd rfl (Or.inl rfl) (zu jX (by rfl) T.list qcs (qa (pv 5) qb)))
  (qc (yt (qcN X9 PySem.F.slot_list_clear PySem.F.type_list_clear qjF (pv 5)))
  (qc (qx (i:=5) yV.nd rfl (Or.inl rfl) (zd l8 hr (qa (pv 4) qb)))
  (qc (qY (qt (qlT E6) (pv 5) (pv 6) (qB _))
   (qd (ql qa3)) qC)
  (qc (yn Jf rfl (zF (zd A1 hr (qa (qr qN (pv 1) (zd x4 hr (qa (pv 2) qb))) qb))) (qo (i:=7) yV.nd rfl (Or.inl rfl))
  (qc (qx (i:=8) yV.nd rfl (Or.inl rfl) qcK)
  (qc (qbs (n:=2) Jf rfl (ql7 (by rfl) T.zip (qa (pv 2) (qa (pv 5) qb))) (qH (qo (i:=9) yV.nd rfl (Or.inl rfl)) (qH (qo (i:=10) yV.nd rfl (Or.inl rfl)) zL))
  (qd (qcn E6 (pv 8) (pv 9) (zd L9 hr (qa (pv 10) (qa (pv 7) qb))) rfl)))
  (qd (qY (qt qat (qv qz (by rfl) T.len J0 (qa (zd p5 hr (qa (pv 3) (qa (zd C4 hr (qa (pv 7) (qa (pv 8) qb))) qb))) qb)) qg (qB _))
   (qd (ql qa3)) qC)))))
  (qd (ql qa3))))))))))))),?_⟩
 refine⟨_,rfl,a,ns,rfl,⟨hS,h63⟩,λ rl gv gp H1 g1 el K7 C9=>?_⟩;refine⟨rl,_,rfl,SqT.of el,rfl,_,_,rfl,_,_,rfl,rfl,?_⟩;obtain⟨tE,nX,l9⟩:=jP K7 C9;have bY:gv.length<=3:=K7.length_le;have R5:gp.length<=3:=C9.length_le;have lX:=q9 Qa tE;have xO:gv.Nodup:=(Zq.mp lX).1;have bX:gp.Nodup:=(Zq.mp lX).2.1;have h8v:2^gv.length<=8:=Yo (n:=2) (by decide) bY;have h8p:2^gp.length<=8:=Yo (n:=2) (by decide) R5;refine⟨_,rfl,_,rfl,_,rfl,_,_,rfl,rfl,by rw[qw,qw];exact qE (by omega),?_⟩;rw[yo];refine⟨a,ns,gv++gp,4,5,rfl,⟨g1.seq hS,h63⟩,by omega,by decide,by decide,by decide,by decide,λ r ps xs H2 g2 e2 pr2 l2 O2=>?_⟩;have l3:xs.length<=4:=by omega
 have hof:∀ x∈xs,x.1.Of (gv++gp)/\x.2.Of (gv++gp):=λ x hx=>⟨(O2 x hx).1,(O2 x hx).2.1⟩
 refine⟨_,rfl,_,rfl,_,rfl,r,ps,xs,rfl,e2,pr2,by omega,λ x hx=>?_,λ rw H4 g4 e4=>?_⟩
 ·obtain⟨b1,b2,b3,b4⟩:=O2 x hx;exact⟨b1.upL l9,b2.upL l9,by omega,by omega⟩
 refine λ x dx hx R6 M9=>?_
 have e5:upd (upd H4 dx (.own x)) x (.ins c5 dx []) rw=some (.lst (xs.map λ x=>vS (qdD x))):=by
  rw[qp (λ q=>by rw[q,hx] at e4;cases e4),qp (λ q=>by rw[q,R6] at e4;cases e4)];exact e4
 refine⟨x,dx,rw,gv,gp,xs.map asW,rfl,qe,SqL.of (by rw[qhC];exact e5),K7,C9,by rw[U0];omega,λ y hy=>?_,λ a1 a2 a3 qs H5 b5 na1 na2 tk=>⟨rfl,?_⟩⟩
 ·obtain⟨z,hz,rfl⟩:=Qu.mp hy;obtain⟨b1,b2,b3,b4⟩:=O2 z hz;exact qnH b1 b2 (by omega) (by omega)
 have g5:=qjk hx R6 b5;have rW:On (gv++gp) (qU ((xs.map asW).map Wsh.side)):=qk8 hof;have tok:TkOk gv gp (xs.map asW):=⟨K7,C9,rW⟩;have e25:=(g4.trans g5) _ _ e2;have pr5:=qR (λ p x h=>jp.mono h (zj (g4.trans g5))) pr2;have fw:=λ ρ=>qce ρ xs hof
 have okx:∀ x∈xs,x.1.Of (gv++gp)/\x.2.Of (gv++gp)/\x.1.ht<=20/\x.2.ht<=20:=λ x hx=>by
  obtain⟨b1,b2,b3,b4⟩:=O2 x hx;have h1:=x.1.ht_wt;have h2:=x.2.ht_wt;exact⟨b1,b2,by omega,by omega⟩
 have bY:gv.length<=3:=K7.length_le;have R5:gp.length<=3:=C9.length_le;have h8v:2^gv.length<=8:=Yo (n:=2) (by decide) bY;generalize hF:qU ((xs.map asW).map Wsh.side)=FF at rW fw;refine⟨_,rfl,x,gv,gp,_,dx,a1,a2,a3,qs,rfl,tk,tok,λ hN H6 g6=>?_,λ aQ rf fs H6 g6 nrf e6 pf6=>?_⟩
 ·rw[hF] at hN;refine⟨_,rfl,_,rfl,_,rfl,r,ps,xs,gv,gp,rfl,g6 _ _ e25,qR (λ p x h=>jp.mono h (zj g6)) pr5,by omega,okx,K7,C9,λ r' as H7 g7 nr' e7 pa=>?_⟩;rw[hF] at pa;have xP:as.length=2^gv.length:=by rw[pa.length,Zw]
  refine⟨r',rfl,⟨_,SqL.of e7⟩,?_⟩;refine vX (SqL.of e7) (λ j=>((List.range (2^gv.length)).take j).map λ N=>V.bl (decide (q8 gv gp FF N=[]))) rfl (λ j hj=>?_) ?_ ?_
  ·rw[U0,Ue,Zw];exact zb (by omega)
  ·intro j v H8 D Y Z hv hD iT sm hY hZ;obtain⟨c,hc,rfl⟩:=qj hv;obtain⟨N,hN',l,el,hl⟩:=qS pa j c hc;refine⟨⟨rfl,rfl⟩,?_⟩;refine⟨_,rfl,c,_,rfl,.inl (SqL.of (sm _ _ el)),rfl,?_⟩;rw[show decide (V.int ((l.length:Nat):Int)=V.int 0)=decide (q8 gv gp FF N=[]) from Uw.mpr (by rw[<- hl,V.int.injEq];omega)];exact hY _ _ iT sm (zr (f:=λ N=>V.bl (decide (q8 gv gp FF N=[]))) hN')
  intro D H8 hD sm iT;rw[U0,xP,XF (by rw[Zw];exact Q5 _)] at iT;refine⟨D,(List.range (2^gv.length)).map λ N=>decide (q8 gv gp FF N=[]),rfl,SqL.of (by rw[iT,Qv];rfl),_,rfl,?_⟩;obtain⟨N,h1,h2⟩:=hN;rw[show(((List.range (2^gv.length)).map λ N=>decide (q8 gv gp FF N=[])).any id)=true by
   rw[Qz,Uo];exact⟨N,Jp.mpr h1,J4 h2⟩]
  refine qaD ?_;refine⟨_,rfl,rfl,?_⟩;exact vk (by simp) (q _)
 ·rw[hF] at aQ pf6;refine⟨_,rfl,_,rfl,_,rfl,r,ps,xs,gv,gp,rfl,g6 _ _ e25,qR (λ p x h=>jp.mono h (zj g6)) pr5,by omega,okx,K7,C9,λ r' as H7 g7 nr' e7 pa=>?_⟩;rw[hF] at pa;have xP:as.length=2^gv.length:=by rw[pa.length,Zw]
  refine⟨r',rfl,⟨_,SqL.of e7⟩,?_⟩;refine vX (SqL.of e7) (λ j=>((List.range (2^gv.length)).take j).map λ N=>V.bl (decide (q8 gv gp FF N=[]))) rfl (λ j hj=>?_) ?_ ?_
  ·rw[U0,Ue,Zw];exact zb (by omega)
  ·intro j v H8 D Y Z hv hD iT sm hY hZ;obtain⟨c,hc,rfl⟩:=qj hv;obtain⟨N,hN',l,el,hl⟩:=qS pa j c hc;refine⟨⟨rfl,rfl⟩,?_⟩;refine⟨_,rfl,c,_,rfl,.inl (SqL.of (sm _ _ el)),rfl,?_⟩;rw[show decide (V.int ((l.length:Nat):Int)=V.int 0)=decide (q8 gv gp FF N=[]) from Uw.mpr (by rw[<- hl,V.int.injEq];omega)];exact hY _ _ iT sm (zr (f:=λ N=>V.bl (decide (q8 gv gp FF N=[]))) hN')
  intro D H8 hD sm iT;rw[U0,xP,XF (by rw[Zw];exact Q5 _)] at iT;refine⟨D,(List.range (2^gv.length)).map λ N=>decide (q8 gv gp FF N=[]),rfl,SqL.of (by rw[iT,Qv];rfl),_,rfl,?_⟩;rw[show(((List.range (2^gv.length)).map λ N=>decide (q8 gv gp FF N=[])).any id)=false by
   rw[Qz,List.any_eq_false];intro N h1 h2;exact aQ N (Jp.mp h1) (Ub h2)]
  refine zN ?_;obtain⟨sL,l6,svL⟩:=qlm K7 C9 (.inr rfl);have hLp:((gv++gp.map zc)++gp).Pairwise (·<·):=(show apx.Pairwise (·<·) by decide).sublist sL;have gU:=q9 Qa hLp;have mH:(gv++gp.map zc).Pairwise (·<·):=(Yk.mp hLp).1;have wd:=λ{n:Nat}=>qjt (n:=n) gU mH rW aQ
  have oW:=λ F g=>qmB (gv:=gv) (gp:=gp) mH F g
  have lfs:fs.length=gp.length:=pf6.length;have g68:=g7.trans sm;have g58:=g6.trans g68;have e68:=g68 _ _ e6;have pf8:Paired (λ c (F:List Pr)=>On (gv++gp.map zc) F/\H8 c=some (.tup (F.map vS))) fs (gp.map (vD gv gp FF)):=jy (S:=λ c (F:List Pr)=>On (gv++gp.map zc) F/\H8 c=some (.tup (F.map vS))) (λ c g h=>⟨oW FF g,g68 _ _ h⟩) pf6;refine⟨_,rfl,_,rfl,_,rfl,rf,fs,gp.map (vD gv gp FF),gv,gp,rfl,e68,by rw[U0],pf8,K7,C9,λ H9 g9=>?_⟩;refine⟨_,rfl,?_⟩;refine zN ?_;have g59:=g58.trans g9;have wK:=g9 _ _ e68;refine⟨_,rfl,rf,_,rfl,.inl (SqL.of wK),λ l hl=>?_⟩;have nrl:rf≠l:=λ e=>by rw[<- e,wK] at hl;cases hl
  have gl:=qi.up hl (o:=.lst (fs.map V.ref));refine⟨_,rfl,.inl ⟨rfl,_,SqL.of (gl _ _ wK)⟩,rf,_,rfl,rfl,gl _ _ wK,?_⟩;obtain⟨HA,rC⟩:∃ HA,HA=upd (upd H9 l (.lst (fs.map V.ref))) rf (.lst []):=⟨_,rfl⟩;rw[<- rC];have g5A:qi H5 HA:=by rw[rC];exact(g59.trans gl).at nrf
  have elA:HA l=some (.lst (fs.map V.ref)):=by rw[rC,qp (Vr nrl),qe]
  have pfA:Paired (λ c (F:List Pr)=>HA c=some (.tup (F.map vS))) fs (gp.map (vD gv gp FF)):=L2.Paired.mapP pf8 λ z F h=>by
   have h9:=g9 _ _ h.2
   have:z≠rf:=λ e=>by rw[e,wK] at h9;cases h9
   rw[rC,qp this];exact gl _ _ h9
  have tkA:=tk.mono g5A;refine⟨_,rfl,x,gv,gp,_,dx,a1,a2,a3,qs,rfl,tkA,tok,λ hN HB gB=>?_,λ _ rg rH HB gB nrg eB pfB=>?_⟩
  ·rw[hF] at hN;obtain⟨N,h1,h2⟩:=hN;exact absurd h2 (aQ N h1)
  rw[hF] at pfB;have lf2:rH.length=gp.length:=pfB.length;have nO:Paired (λ c (F:List Pr)=>HB c=some (.tup (F.map vS))) rH (gp.map (vD gv gp FF)):=jy (S:=λ c (F:List Pr)=>HB c=some (.tup (F.map vS))) (λ c g h=>h) pfB;have pq1:Paired (λ c (F:List (List Nat))=>SqT K HB c (F.map vS)) rH (gp.map (vD gv gp FF)):=L2.Paired.mapP nO λ z F h=>SqT.of h
  have pq2:Paired (λ c (F:List (List Nat))=>SqT K HB c (F.map vS)) fs (gp.map (vD gv gp FF)):=L2.Paired.mapP pfA λ z F h=>SqT.of (gB _ _ h)
  refine⟨_,rfl,_,rfl,rg,l,rH,fs,_,_,rfl,rfl,SqL.of eB,SqL.of (gB _ _ elA),pq1,pq2,rfl,_,rfl,?_⟩;rw[J4 rfl];refine zN ?_;have g5B:=g5A.trans gB;refine⟨_,rfl,_,rfl,gp,rfl,C9,λ HC gC=>?_⟩;refine⟨_,_,rfl,rfl,by rw[qw,qw,U0];exact qE (by omega),?_⟩;rw[yo];obtain⟨L,hL⟩:∃ L,L=gv++gp.map zc:=⟨_,rfl⟩;rw[<- hL] at wd gU mH l6 svL ⊢;obtain⟨Fs,hFs⟩:∃ Fs,Fs=gp.map (vD gv gp FF):=⟨_,rfl⟩;rw[<- hFs] at wd nO;have hlF:Fs.length=gp.length:=by rw[hFs,U0]
  have oF:∀ F∈Fs,On L F:=λ F hF=>by
   rw[hFs] at hF;obtain⟨g,_,rfl⟩:=Qu.mp hF;rw[hL];exact oW FF g
  have ndL:=q9 Qa mH;have W2:2^L.length<=64:=Qq (Yo (by decide) l6) (by decide);have aM:(qk gp).cps.size=gp.length:=qw gp;refine⟨L,rfl,ndL,l6,λ rr ds HD gD eD pd=>?_⟩;have sJ:ds.length=2^L.length:=by rw[pd.length,Zw]
  have gBD:=gC.trans gD;have e2D:=(g5B.trans gBD) _ _ e25;have prD:=qR (λ p x h=>jp.mono h (zj (g5B.trans gBD))) pr5;have pfD:Paired (λ c (F:List Pr)=>HD c=some (.tup (F.map vS))) rH Fs:=L2.Paired.mapP nO λ z F h=>gBD _ _ h
  have eBD:=gBD _ _ eB;refine⟨rr,rfl,⟨_,SqL.of eD⟩,?_⟩;refine vI (K:=K) (xs:=ds.map V.ref) (λ i σ H'=>∃(v7 v8 v9 rP:Option V),σ=[some (.ref a),some (vS gv),some (vS gp),some (.ref r),some (.ref x),some (.ref rg),some (.ref l),v7,v8,v9,rP]/\qi HD H') ⟨none,none,none,none,rfl,qi.refl _⟩ (λ i σ H' hi ⟨_,_,_,_,_,g⟩=>SqL.of (g _ _ eD)) ?_ ?_
  ·rintro i y σ HE hy ⟨v7,v8,v9,rP,rfl,gE⟩;obtain⟨d,hd,rfl⟩:=qj hy;obtain⟨N,hN,ed⟩:=qS pd i d hd;obtain⟨rfl,hNl⟩:=qbJ hN;have edE:=gE _ _ ed;have lL:L.length=(qG L.length N).length:=(zB _ _).symm;have lw:gp.length=(qdJ L Fs N).length:=by unfold qdJ;rw[U0,hlF]
   have lb:(L++gp).length=(qG L.length N++qdJ L Fs N).length:=by rw[Zb,Zb,<- lL,<- lw]
   refine λ m hm=>?_
   have gm:=qi.up hm (o:=.dK []);refine⟨_,rfl,_,rfl,qk gp,rg,rfl,?_,⟨_,SqL.of (gm _ _ (gE _ _ eBD))⟩,?_⟩
   ·rw[Array.all_eq_true'];intro c hc;exact J4 ((show ∀ c∈xyz,c<128 by decide) c (C9.subset (by simpa [qk] using hc)))
   refine qkm (K:=K) (ys:=rH.map V.ref) (λ k σ H'=>∃(v9 rP:Option V),σ=[some (.ref a),some (vS gv),some (vS gp),some (.ref r),some (.ref x),some (.ref rg),some (.ref l),some (.ref d),some (.ref m),v9,rP]/\qi HE H'/\H' m=some (.dK (zD (gp.take k) ((qdJ L Fs N).take k)))) ⟨_,_,rfl,gm,qe⟩ (by rw[aM,U0,lf2]) (λ k σ H' hk ⟨_,_,_,g,_⟩=>SqL.of (g _ _ (gE _ _ eBD))) ?_ ?_
   ·rintro k y σ HF hk hy ⟨v9',v10',rfl,gF,eF⟩;obtain⟨c,hc,rfl⟩:=qj hy;obtain⟨F,hF',ec⟩:=qS pfD k c hc;have oFk:=oF F (Yh hF');rw[aM] at hk;rw[yU hk];refine⟨_,_,rfl,_,_,rfl,rfl,?_⟩;refine⟨_,rfl,_,rfl,c,d,F,_,asg L (qG L.length N),rfl,SqT.of (gF _ _ (gE _ _ ec)),gF _ _ edE,λ q hq e he=>by rw[yN lL,Vy (oFk.mem q hq e he)],λ q hq=>?_,λ HG gG=>?_⟩
    ·have:=(oFk.sub mH q hq).length_le;omega
    have hb:(qdJ L Fs N)[k]?=some (qy (asg L (qG L.length N)) F):=by unfold qdJ;rw[Zn,hF'];rfl
    have bX:=(Zq.mp gU).2.1;have ns_:gp[k]∉gp.take k:=kX bX hk;have lr:(gp.take k).length=((qdJ L Fs N).take k).length:=by rw[Ue,Ue,lw]
    have vn:zU (zD (gp.take k) ((qdJ L Fs N).take k)) (.inr (qk [gp[k]]))=none:=by rw[yN lr,Vz ns_]
    have lk:(zD (gp.take k) ((qdJ L Fs N).take k)).length<sizeLine:=by unfold zD;rw[U0,Jg,Ue,Ue];exact zb (by omega)
    refine⟨_,rfl,_,rfl,m,_,rfl,.inl ⟨_,.inr (qk [gp[k]]),gG _ _ eF,rfl,lk,rfl⟩,?_⟩;refine⟨_,_,rfl,(gF.trans gG).at hm,?_⟩;rw[qe,qa7 _ vn,qgr (Xv hk) hb]
   ·rintro σ HF ⟨v9',v10',rfl,gF,eF⟩;rw[U0,lf2,Ul,lw,Ul] at eF;have gDF:=gE.trans gF;refine⟨_,rfl,_,rfl,_,rfl,d,m,_,_,rfl,gF _ _ edE,eF,by rw[jS lL,jS lw];omega,λ d3 HG gG fG eG=>?_⟩;rw[qa1 gU lL lw] at eG;have gDG:=gDF.trans gG;refine⟨r,d3,ps,xs,_,qoY L gp Fs N,gv++gp,rfl,gDG _ _ e2D,qR (λ p x h=>jp.mono h (zj gDG)) prD,by omega,okx,eG,λ c hc=>?_,λ r' is HI gI eI O7=>?_⟩
    ·have I0:c∈L++gp:=(Uy.mp hc).elim (λ h=>Uy.mpr (.inl (svL.subset h))) (λ h=>Uy.mpr (.inr h));rw[yN lb,Vy I0];rfl
    rw[<- fw,wd hNl] at O7;refine⟨r',_,rfl,.inl (SqL.of eI),_,_,rfl,rfl,_,rfl,?_⟩;have er:decide ((0:Int)<(((is.map V.int).length:Nat):Int))=false:=by
     rw[<- O7,U0];refine Uw.mpr ?_;omega
    rw[er];refine zN ?_;exact⟨_,_,_,_,rfl,gDG.trans gI⟩
  ·rintro σ HE ⟨v7,v8,v9,rP,rfl,gE⟩;exact q _
end
def NI(K:W.Frag)(n:Str)(a:Addr):Prop:=W.nsIn K mainGlobals n=some (some (.ref a))
theorem all_mk{l:W.OpenLaw}{w:World}{K:W.Frag}{h:Heap}{mg:Str->Option Value}{fa al f1 f2 f3 f4 f5 f6 f7 f8 f9 f10 f11 f12 f13 f14 f15 f16 f17 f18 f19 f20 f21 f22 f23 f24 f25 f26 f27 f28 f29 f30 f31 f32 f33 f34 f35 f36 f37 f38 f39 f40 f41 f42 f43 f44 nA mW mX mV mZ mU mY uS uQ uR uP eQ wB uX uY uW wA uV uZ L4 eS W5 L3 n8 t7 t8 p7 i9 A7 E4 A5 aH aI pN A6 c5:Addr}(X:K.In h)(G:h.Ns mainGlobals mg)(hfa:mg "law"=some (.ref fa)){tka bH bC bI cI nJ M6 O1 cO cN cM cL cK cJ:Tok}{eK:Addr}{na sB:Nat}{oda:Option Addr}{sla:Array (Option Value)}{d1 d2 d3 d4 d5 d6 d7 d8 d9 d10 d11 d12 d13 d14 d15 d16 d17 d18 d19 d20 d21 d22 d23 d24 d25 d26 d27 d28 d29 d30 d31 d32 d33 d34 d35 d36 d37 d38 d39 d40 d41 d42 d43 d44 pI pC pD pB pH oZ pE dsA dsN dsL dsO rJ dfA dfN dfL dfO dfD dfR dfE fB wL pK P9 r9 x6 x8 w9 o0:FuncData}(a1:NI K "added" f1)(a2:NI K "multiplied" f2)(a3:NI K "joined" f3)(a4:NI K "opposite" f4)(a5:NI K "letters_of" f5)(a6:NI K "worth" f6)(a7:NI K "row_of" f7)(a8:NI K "row_count" f8)(a9:NI K "table_of" f9)(a10:NI K "form_of" f10)(a11:NI K "products_over" f11)(a12:NI K "summed" f12)(a13:NI K "free_of" f13)(a14:NI K "widest_filling" f14)(a15:NI K "nearest_rows" f15)(a16:NI K "filling_by" f16)(a17:NI K "read" f17)(a18:NI K "signs_behind" f18)(a19:NI K "taken" f19)(a20:NI K "with_nots" f20)(a21:NI K "pair_of" f21)(a22:NI K "single_of" f22)(a23:NI K "is_row" f23)(a24:NI K "wish_read" f24)(a25:NI K "refuse_strange" f25)(a26:NI K "fault_of" f26)(a27:NI K sB9 f27)(a28:NI K sD0 f28)(a29:NI K sD1 f29)(a30:NI K sB3 f30)(a31:NI K sB1 f31)(a32:NI K sD3 f32)(a33:NI K sC6 f33)(a34:NI K sC8 f34)(a35:NI K sB6 f35)(a36:NI K sC1 f36)(a37:NI K sC5 f37)(a38:NI K sC2 f38)(a39:NI K sB5 f39)(a40:NI K sC7 f40)(a41:NI K sC3 f41)(a42:NI K sC9 f42)(a43:NI K sB0 f43)(a44:NI K "law" f44)(gZ:NI K "Always" A7)(nQ:NI K "Never" E4)(gV:NI K "Letter" A5)(nNot:NI K "Not" aH)(nAnd:NI K "And" aI)(nOr:NI K "Or" pN)(gW:NI K "Either" A6)(sA:NI K "Task" c5)(aal:NI K "ALWAYS" al)(lal:K.lookup al=some ⟨.type "tuple",oda,.seq #[.str "" tka] na,sla⟩)(W9:W.nsIn K mainGlobals "LETTERS"=some (some (.str "abcpqrxyz" bH)))(W8:W.nsIn K mainGlobals "OPENING"=some (some (.str "~(" bC)))(aA:W.nsIn K mainGlobals "BETWEEN"=some (some (.str "&|+" bI)))(bV:W.nsIn K mainGlobals "GIVENS"=some (some (.str "abc" cI)))(iZ:W.nsIn K mainGlobals "GAPS"=some (some (.str "xyz" nJ)))(L8:W.nsIn K mainGlobals "MOST_WISHES"=some (some (.int 6 M6)))(N4:W.nsIn K mainGlobals "MOST_PARTS"=some (some (.int 20 O1)))(xD:NI K "FREE" eK)(sK:K.lookup eK=some ⟨.type "dict",none,.dict [⟨hashStr w "x",.str "x" cO,.str "p" cN⟩,⟨hashStr w "y",.str "y" cM,.str "q" cL⟩,⟨hashStr w "z",.str "z" cK,.str "r" cJ⟩].toArray sB,#[]⟩)(z1:W.nsIn K mainGlobals "len"=some none)(z2:W.nsIn K mainGlobals "list"=some none)(z3:W.nsIn K mainGlobals "sorted"=some none)(z4:W.nsIn K mainGlobals "set"=some none)(z5:W.nsIn K mainGlobals "tuple"=some none)(z6:W.nsIn K mainGlobals "dict"=some none)(z7:W.nsIn K mainGlobals "zip"=some none)(z8:W.nsIn K mainGlobals "reversed"=some none)(z9:W.nsIn K mainGlobals "range"=some none)(z10:W.nsIn K mainGlobals "enumerate"=some none)(z11:W.nsIn K mainGlobals "all"=some none)(z12:W.nsIn K mainGlobals "min"=some none)(z13:W.nsIn K mainGlobals "max"=some none)(z14:W.nsIn K mainGlobals "isinstance"=some none)(z15:W.nsIn K mainGlobals "str"=some none)(z16:W.nsIn K mainGlobals "bool"=some none)(z17:W.nsIn K mainGlobals "int"=some none)(z18:W.nsIn K mainGlobals "any"=some none)(D4:W.findIn K (.ref c5) "text"=some none)(C:CTxt K ⟨A7,E4,A5,aH,aI,pN,A6⟩ L4 eS W5)(Mt:MTxt K ⟨A7,E4,A5,aH,aI,pN,A6⟩ "text" nA mW mX mV mZ mU mY)(Ms:MTxt K ⟨A7,E4,A5,aH,aI,pN,A6⟩ "size" uS uQ uR uP eQ eQ eQ)(Mf:FTxt K ⟨A7,E4,A5,aH,aI,pN,A6⟩ wB uX uY uW wA uV uZ)(aD:Mk K c5 L3)(c6:TaskC K c5)(A0:Meth K c5 "givens" n8)(u6:Meth K c5 "gaps" t7)(D9:Meth K c5 "does" t8)(B6:Meth K c5 "doing" p7)(u7:Meth K c5 "doing_at" i9)(F1:Fun K "added" "added" qeY f1 d1)(F2:Fun K "multiplied" "multiplied" vh f2 d2)(F3:Fun K "joined" "joined" qds f3 d3)(F4:Fun K "opposite" "opposite" qaP f4 d4)(F5:Fun K "letters_of" "letters_of" vi f5 d5)(F6:Fun K "worth" "worth" qeZ f6 d6)(F7:Fun K "row_of" "row_of" qdt f7 d7)(F8:Fun K "row_count" "row_count" kt f8 d8)(F9:Fun K "table_of" "table_of" qaQ f9 d9)(F10:Fun K "form_of" "form_of" qbU f10 d10)(F11:Fun K "products_over" "products_over" yR f11 d11)(F12:Fun K "summed" "summed" qbz f12 d12)(F13:Fun K "free_of" "free_of" qbV f13 d13)(F14:Fun K "widest_filling" "widest_filling" yq f14 d14)(F15:Fun K "nearest_rows" "nearest_rows" jj f15 d15)(F16:Fun K "filling_by" "filling_by" vj f16 d16)(F17:Fun K "read" "read" qg9 f17 d17)(F18:Fun K "signs_behind" "signs_behind" jk f18 d18)(F19:Fun K "taken" "taken" qe0 f19 d19)(F20:Fun K "with_nots" "with_nots" kz f20 d20)(F21:Fun K "pair_of" "pair_of" qbW f21 d21)(F22:Fun K "single_of" "single_of" kC f22 d22)(F23:Fun K "is_row" "is_row" qdu f23 d23)(F24:Fun K "wish_read" "wish_read" kJ f24 d24)(F25:Fun K "refuse_strange" "refuse_strange" yr f25 d25)(F26:Fun K "fault_of" "fault_of" qaS f26 d26)(F27:Fun K sB9 sB9 kK f27 d27)(F28:Fun K sD0 sD0 qaT f28 d28)(F29:Fun K sD1 sD1 qaU f29 d29)(F30:Fun K sB3 sB3 vw f30 d30)(F31:Fun K sB1 sB1 jx f31 d31)(F32:Fun K sD3 sD3 qbX f32 d32)(F33:Fun K sC6 sC6 qaV f33 d33)(F34:Fun K sC8 sC8 kM f34 d34)(F35:Fun K sB6 sB6 yT f35 d35)(F36:Fun K sC1 sC1 jC f36 d36)(F37:Fun K sC5 sC5 vy f37 d37)(F38:Fun K sC2 sC2 jD f38 d38)(F39:Fun K sB5 sB5 jE f39 d39)(F40:Fun K sC7 sC7 qaW f40 d40)(F41:Fun K sC3 sC3 kQ f41 d41)(F42:Fun K sC9 sC9 kS f42 d42)(F43:Fun K sB0 sB0 zZ f43 d43)(F44:Fun K "law" "law" qei f44 d44)(FtA:Fun K "text" "Always.text" yx nA pI)(FtN:Fun K "text" "Never.text" y9 mW pC)(FtL:Fun K "text" "Letter.text" yB mX pD)(FtO:Fun K "text" "Not.text" vm mV pB)(FtD:Fun K "text" "And.text" vq mZ pH)(FtR:Fun K "text" "Or.text" qaf mU oZ)(FtE:Fun K "text" "Either.text" yE mY pE)(FsA:Fun K "size" "Always.size" yy uS dsA)(FsN:Fun K "size" "Never.size" ja uQ dsN)(FsL:Fun K "size" "Letter.size" yC uR dsL)(FsO:Fun K "size" "Not.size" vo uP dsO)(FsP:Fun K "size" "Pair.size" jw eQ rJ)(FfA:Fun K "form" "Always.form" yA wB dfA)(FfN:Fun K "form" "Never.form" jb uX dfN)(FfL:Fun K "form" "Letter.form" yD uY dfL)(FfO:Fun K "form" "Not.form" vp uW dfO)(FfD:Fun K "form" "And.form" vt wA dfD)(FfR:Fun K "form" "Or.form" qag uV dfR)(FfE:Fun K "form" "Either.form" yF uZ dfE)(FiLetter:Fun K "__init__" "Letter.__init__" jA L4 fB)(FiNot:Fun K "__init__" "Not.__init__" qaR eS wL)(FiPair:Fun K "__init__" "Pair.__init__" ku W5 pK)(FiTask:Fun K "__init__" "Task.__init__" kF L3 P9)(FTask_givens:Fun K "givens" "Task.givens" jB n8 r9)(FTask_gaps:Fun K "gaps" "Task.gaps" kH t7 x6)(FTask_does:Fun K "does" "Task.does" kI t8 x8)(FTask_doing:Fun K "doing" "Task.doing" vv p7 w9)(FTask_doing_at:Fun K "doing_at" "Task.doing_at" yS i9 o0): ∃ fd:FuncData,(∀(s:Shared)(v:Value),BindsTo s fd ⟨[v],[]⟩ [(sA2,v)])/\∀ base:Heap,K.In base->base.Ns mainGlobals mg->FnOk l.prog w K mg base CX0 37 fa fd [sA2] (qir K):=by
 have e:=hfa.symm.trans (Vu X G a44);cases e
 have T:Txt mg:=⟨Q1 X G z1,Q1 X G z2,Q1 X G z3,Q1 X G z4,Q1 X G z5,Q1 X G z6,Q1 X G z7,Q1 X G z8,Q1 X G z9,Q1 X G z10,Q1 X G z11,Q1 X G z12,Q1 X G z13,Q1 X G z14,Q1 X G z15,Q1 X G z16⟩;have B2:=Q1 X G z17;have V4:=Q1 X G z18;have b1:=F1.binds (ps:=["one","other"]);have b2:=F2.binds (ps:=["one","other"]);have b3:=F3.binds (ps:=["one","other"]);have b4:=F4.binds (ps:=["form"]);have b5:=F5.binds (ps:=["form"]);have b6:=F6.binds (ps:=["form","row"]);have b7:=F7.binds (ps:=["letters","number"]);have b8:=F8.binds (ps:=["letters"]);have b9:=F9.binds (ps:=["form","letters"]);have b10:=F10.binds (ps:=["letters","table"]);have b11:=F11.binds (ps:=["letters"]);have b12:=F12.binds (ps:=["truths"]);have b13:=F13.binds (ps:=["gaps"]);have b14:=F14.binds (ps:=["task"]);have b15:=F15.binds (ps:=["gaps","doing_there"]);have b16:=F16.binds (ps:=["gaps","letters","gap_rows"]);have b17:=F17.binds (ps:=["text"]);have b18:=F18.binds (ps:=["opened","ended"]);have b19:=F19.binds (ps:=["opened","ended","sign"]);have b20:=F20.binds (ps:=["opened","saying"]);have b21:=F21.binds (ps:=["sign","one","other"]);have b22:=F22.binds (ps:=["sign"]);have b23:=F23.binds (ps:=["text","letters"]);have b24:=F24.binds (ps:=["wish","letters"]);have b25:=F25.binds (ps:=["text","letters"]);have b26:=F26.binds (ps:=["sides"]);have b27:=F27.binds (ps:=[sA2,sC0]);have b28:=F28.binds (ps:=[sB7,sA0]);have b29:=F29.binds (ps:=[sA2,"_law_at",sA9,sA0]);have b30:=F30.binds (ps:=[sA4]);have b31:=F31.binds (ps:=[sA4,sA1]);have b32:=F32.binds (ps:=[sA0,sB4]);have b33:=F33.binds (ps:=[sA0]);have b34:=F34.binds (ps:=[sB8,sA1]);have b35:=F35.binds (ps:=[sA7,sA0]);have b36:=F36.binds (ps:=[sA2]);have b37:=F37.binds (ps:=[sA2,sA0,sD2,sA9]);have b38:=F38.binds (ps:=[sA3]);have b39:=F39.binds (ps:=[sA3,sA1]);have b40:=F40.binds (ps:=[sA8,sB2]);have b41:=F41.binds (ps:=[sA5]);have b42:=F42.binds (ps:=[sA3,sA6,sA5]);have b43:=F43.binds (ps:=[sA7,sA6,sA5]);have lI:=FtA.binds (ps:=["self"]);have lC:=FtN.binds (ps:=["self"]);have lD:=FtL.binds (ps:=["self"]);have lB:=FtO.binds (ps:=["self"]);have lH:=FtD.binds (ps:=["self"]);have lA:=FtR.binds (ps:=["self"]);have lE:=FtE.binds (ps:=["self"]);have wS:=FsA.binds (ps:=["self"]);have wQ:=FsN.binds (ps:=["self"]);have wR:=FsL.binds (ps:=["self"]);have wP:=FsO.binds (ps:=["self"]);have rK:=FsP.binds (ps:=["self"]);have xA:=FfA.binds (ps:=["self"]);have wW:=FfN.binds (ps:=["self"]);have wX:=FfL.binds (ps:=["self"]);have wV:=FfO.binds (ps:=["self"]);have wZ:=FfD.binds (ps:=["self"]);have wU:=FfR.binds (ps:=["self"]);have wY:=FfE.binds (ps:=["self"]);have fK:=FiLetter.binds (ps:=["self","letter"]);have wT:=FiNot.binds (ps:=["self","one"]);have pL:=FiPair.binds (ps:=["self","one","other"]);have aB:=FiTask.binds (ps:=["self","givens","gaps","wishes"]);have x9:=FTask_givens.binds (ps:=["self"]);have u4:=FTask_gaps.binds (ps:=["self"]);have D8:=FTask_does.binds (ps:=["self","given_row","gap_row"]);have B4:=FTask_doing.binds (ps:=["self"]);have u5:=FTask_doing_at.binds (ps:=["self","given_row"]);have m1:=Vu X G a1;have m2:=Vu X G a2;have m3:=Vu X G a3;have m4:=Vu X G a4;have m5:=Vu X G a5;have m6:=Vu X G a6;have m7:=Vu X G a7;have m8:=Vu X G a8;have m9:=Vu X G a9;have m10:=Vu X G a10;have m11:=Vu X G a11;have m12:=Vu X G a12;have m13:=Vu X G a13
 have m14:=Vu X G a14;have m15:=Vu X G a15;have m16:=Vu X G a16;have m17:=Vu X G a17;have m18:=Vu X G a18;have m19:=Vu X G a19;have m20:=Vu X G a20;have m21:=Vu X G a21;have m22:=Vu X G a22;have m23:=Vu X G a23;have m24:=Vu X G a24;have m25:=Vu X G a25;have m26:=Vu X G a26;have m27:=Vu X G a27;have m28:=Vu X G a28;have m29:=Vu X G a29;have m30:=Vu X G a30;have m31:=Vu X G a31;have m32:=Vu X G a32;have m33:=Vu X G a33;have m34:=Vu X G a34;have m35:=Vu X G a35;have m36:=Vu X G a36;have m37:=Vu X G a37;have m38:=Vu X G a38;have m39:=Vu X G a39;have m40:=Vu X G a40;have m41:=Vu X G a41;have m42:=Vu X G a42;have m43:=Vu X G a43;have m44:=Vu X G a44;have cX:=Vu X G gZ;have hJ:=Vu X G nQ;have cV:=Vu X G gV;have sE:=Vu X G nNot;have sF:=Vu X G nAnd;have mCOr:=Vu X G nOr;have cW:=Vu X G gW;have nW:=Vu X G sA;let ca:CA:=⟨A7,E4,A5,aH,aI,pN,A6⟩
 have nc:NotC ca c5:=⟨(λ e=>by have h:=Mt.always.1;rw[<- show c5=A7 from e] at h;rw[D4] at h;cases h),(λ e=>by have h:=Mt.never.1;rw[<- show c5=E4 from e] at h;rw[D4] at h;cases h),(λ e=>by have h:=Mt.letter.1;rw[<- show c5=A5 from e] at h;rw[D4] at h;cases h),(λ e=>by have h:=Mt.not.1;rw[<- show c5=aH from e] at h;rw[D4] at h;cases h),(λ e=>by have h:=Mt.and.1;rw[<- show c5=aI from e] at h;rw[D4] at h;cases h),(λ e=>by have h:=Mt.or.1;rw[<- show c5=pN from e] at h;rw[D4] at h;cases h),(λ e=>by have h:=Mt.either.1;rw[<- show c5=A6 from e] at h;rw[D4] at h;cases h)⟩;obtain⟨oc,od,kV,doc,pm,an,cdv,ct,osl,rfl,lk,R7⟩:=F44.ex;refine⟨W.fnOf "law" "law" (qba qei) (jY qei) (qf qei) .none kV doc pm an cdv ct,λ s v=>.of_eq rfl,λ base _ _=>?_⟩;have N6:=Vu X G W9;have N5:=Vu X G W8;have N7:=Vu X G aA;have cS:=Vu X G bV;have nU:=Vu X G iZ;have M7:=Vu X G L8;have O3:=Vu X G N4;have cR:=Vu X G xD;have eJ:GD K w eK qli:=⟨⟨_,_,sK,.cons ⟨_,_,rfl⟩ (.cons ⟨_,_,rfl⟩ (.cons ⟨_,_,rfl⟩ .nil))⟩,by decide +kernel⟩;have mal:=Vu X G aal;have hal:∀ H,SqT K H al (([[]]:List Pr).map vS):=λ H=>.inr ⟨_,_,_,lal,rfl,rfl,qE (by show 1<=_;decide),.cons ⟨tka,by rw[show("":Str)=qk [] by decide +kernel]⟩ .nil⟩
 have Gp:FnOk l.prog w K mg base CX0 1 f11 _ ["letters"] qct:=qkn F11 T;have aW:=qej (P:=l.prog) (w:=w) (base:=base) F12 T b12 m12 10;have Gle:FnOk l.prog w K mg base CX0 1 f5 _ ["form"] (qbY K):=qhb F5 T;have Gt:=qkp F9 T ⟨Gp,b11,F11.kp,m11⟩ ⟨aW,b12,F12.kp,m12⟩;have Gfo:=ql8 F10 T ⟨Gp,b11,F11.kp,m11⟩ ⟨aW,b12,F12.kp,m12⟩;have GA:FnOk l.prog w K mg base CX0 1 f1 _ ["one","other"] (qhd K added):=qks F1 T;have GM:=ql9 F2 T ⟨Gle,b5,F5.kp,m5⟩ ⟨Gt,b9,F9.kp,m9⟩ ⟨Gfo,b10,F10.kp,m10⟩;have GJ:=qi8 F3 ⟨GA,b1,F1.kp,m1⟩ ⟨GM,b2,F2.kp,m2⟩;have GOp:=qnx F4 mal hal ⟨GA,b1,F1.kp,m1⟩;have NN:FFn l.prog w K mg base f1 f2 f3 f4 _ _ _ _:=⟨GA,b1,F1.kp,m1,GM,b2,F2.kp,m2,GJ,b3,F3.kp,m3,GOp,b4,F4.kp,m4⟩;have GiL:FnOk l.prog w K mg base CX0 1 L4 _ ["self","letter"] (qak K "letter"):=qkA FiLetter;have GiN:FnOk l.prog w K mg base CX0 1 eS _ ["self","one"] (qak K "one"):=qkB FiNot;have GiP:FnOk l.prog w K mg base CX0 1 W5 _ ["self","one","other"] (qe5 K "one" "other"):=qkC FiPair;have Gsn:=qoG F22 C cX hJ cV GiL fK;have Gpr:=qoH F21 C sF mCOr cW GiP pL;have Gwn:=qoJ F20 T C sE GiN wT;have Gsb:=qoL (P:=l.prog) (w:=w) (mg:=mg) (base:=base) (c:=ca) F18 T N6 N5 N7;have Gtk:=qoN F19 N5 N7 ⟨Gwn,b20,F20.kp,m20⟩ ⟨Gpr,b21,F21.kp,m21⟩ ⟨Gsn,b22,F22.kp,m22⟩;have Grd:=qoP F17 T ⟨Gsb,b18,F18.kp,m18⟩ ⟨Gtk,b19,F19.kp,m19⟩;have Vt:=qgj (P:=l.prog) (w:=w) (mg:=mg) (base:=base) C Mt lI lC lD lB lH lA lE FtA FtN FtL FtO FtD FtR FtE 21;have Vs:=qgk (P:=l.prog) (w:=w) (mg:=mg) (base:=base) C Ms wS wQ wR wP rK FsA FsN FsL FsO FsP 21;have GF:=qkK (P:=l.prog) (w:=w) (mg:=mg) (base:=base) C Mf NN xA wW wX wV wZ wU wY FfA FfN FfL FfO FfD FfR FfE 21;have Gir:=qkS (P:=l.prog) (w:=w) (mg:=mg) (base:=base) F23 T;have Gref:=qnE (P:=l.prog) (w:=w) (mg:=mg) (base:=base) F25 N6;have Gwr:=qoR F24 C O3 Mt Vt Ms Vs lI lC lD lB lH lA lE wS wQ wR wP rK ⟨Grd,b17,F17.kp,m17⟩ ⟨Gref,b25,F25.kp,m25⟩;have Gfa:=qoT F26 ⟨GA,b1,F1.kp,m1⟩ ⟨GJ,b3,F3.kp,m3⟩;have cU:=nW;have aG:=qmk FiTask T C c6.cls nc c6.n1 c6.n2 c6.n3 c6.n4 c6.n5 cS nU M7 Mt Vt Mf GF lI lC lD lB lH lA lE xA wW wX wV wZ wU wY ⟨Gir,b23,F23.kp,m23⟩ ⟨Gwr,b24,F24.kp,m24⟩ ⟨Gfa,b26,F26.kp,m26⟩;have fQ:=Gp;have nG:=Gle;have rM:=Gt;have M2:=Gfo;have aA1:=GA;have nF:=GM;have aA0:=GJ;have rN:=GOp;have A4:=qnJ (P:=l.prog) (w:=w) (mg:=mg) (base:=base) FTask_givens T c6;have u8:=qnL (P:=l.prog) (w:=w) (mg:=mg) (base:=base) FTask_gaps T c6;have A3:FnOk l.prog w K mg base CX0 1 f7 _ ["letters","number"] (qfe):=qmu F7 T;have aE:FnOk l.prog w K mg base CX0 1 f6 _ ["form","row"] (qdE K):=qjm F6 T;have E3:=qmv FTask_does T ⟨A3,b7,F7.kp,m7⟩ ⟨aE,b6,F6.kp,m6⟩ c6;have i8:FnOk l.prog w K mg base CX0 1 f8 _ ["letters"] (qbE):=qk9 F8 T;have w4:=qhF FTask_doing_at T ⟨i8,b8,F8.kp,m8⟩ c6 D9 E3 D8;have B9:=qld FTask_doing T ⟨i8,b8,F8.kp,m8⟩ c6 u7 w4 u5
 have M1:FnOk l.prog w K mg base CX0 1 f13 _ ["gaps"] (vB):=qjp F13 T cR eJ;have x0:FnOk l.prog w K mg base CX0 2 f15 _ ["gaps","doing_there"] (qhJ):=qmz F15 T ⟨i8,b8,F8.kp,m8⟩;have B8:FnOk l.prog w K mg base CX0 12 f16 _ ["gaps","letters","gap_rows"] (qdF K):=qjq F16 T ⟨A3,b7,F7.kp,m7⟩ ⟨M2,b10,F10.kp,m10⟩;have l8:FnOk l.prog w K mg base CX0 13 f14 _ ["task"] (qdG c5):=qjr F14 T ⟨x0,b15,F15.kp,m15⟩ ⟨M1,b13,F13.kp,m13⟩ ⟨B8,b16,F16.kp,m16⟩ c6 B6 B9 B4 u6 u8 u4 A0 A4 x9;have o4:FnOk l.prog w K mg base CX0 1 f27 _ [sA2,sC0] (kW K):=qkT F27 T;have lP:FnOk l.prog w K mg base CX0 1 f28 _ [sB7,sA0] (qfc):=qmn F28 T;have K5:FnOk l.prog w K mg base CX0 2 f29 _ [sA2,"_law_at",sA9,sA0] (qhv K):=qmo F29 T ⟨o4,b27,F27.kp,m27⟩ ⟨lP,b28,F28.kp,m28⟩;have lO:=qgp (P:=l.prog) (w:=w) (base:=base) F30 T B2 b30 m30 20;have fM:=qem (P:=l.prog) (w:=w) (base:=base) F31 T b31 m31 20;have aF:FnOk l.prog w K mg base CX0 1 f32 _ [sA0,sB4] (qhx):=qmr F32 T;have A1:FnOk l.prog w K mg base CX0 2 f33 _ [sA0] (qcx):=qk3 F33 T ⟨aF,b32,F32.kp,m32⟩;have L9:FnOk l.prog w K mg base CX0 1 f34 _ [sB8,sA1] (qfg K):=qle F34 T;have A2:FnOk l.prog w K mg base CX0 1 f35 _ [sA7,sA0] (qfd):=qk6 F35 T;have E2:FnOk l.prog w K mg base CX0 2 f36 _ [sA2] (qhs K):=qml F36 T ⟨o4,b27,F27.kp,m27⟩;have G3:FnOk l.prog w K mg base CX0 3 f37 _ [sA2,sA0,sD2,sA9] (qdC K):=qjj F37 T ⟨o4,b27,F27.kp,m27⟩ ⟨K5,b29,F29.kp,m29⟩;have E1:FnOk l.prog w K mg base CX0 21 f38 _ [sA3] (qb3):=qhz F38 ⟨lO,b30,F30.kp,m30⟩;have p5:FnOk l.prog w K mg base CX0 21 f39 _ [sA3,sA1] (qan K):=qhB F39 T ⟨fM,b31,F31.kp,m31⟩;have C4:FnOk l.prog w K mg base CX0 1 f40 _ [sA8,sB2] (qff):=qmw F40 T;have x4:FnOk l.prog w K mg base CX0 1 f41 _ [sA5] (vB):=qlh F41 T;have M0:FnOk l.prog w K mg base CX0 22 f42 _ [sA3,sA6,sA5] (qdI K):=qjs F42 T ⟨A1,b33,F33.kp,m33⟩ ⟨C4,b40,F40.kp,m40⟩ ⟨p5,b39,F39.kp,m39⟩;have p8:FnOk l.prog w K mg base CX0 2 f43 _ [sA7,sA6,sA5] (qa2):=qgv F43 T ⟨x4,b41,F41.kp,m41⟩ ⟨A2,b35,F35.kp,m35⟩;exact qnP F44 T B2 V4 ⟨E2,b36,F36.kp,m36⟩ ⟨G3,b37,F37.kp,m37⟩ ⟨E1,b38,F38.kp,m38⟩ ⟨l8,b14,F14.kp,m14⟩ ⟨M0,b42,F42.kp,m42⟩ ⟨p8,b43,F43.kp,m43⟩ ⟨x4,b41,F41.kp,m41⟩ ⟨A1,b33,F33.kp,m33⟩ ⟨L9,b34,F34.kp,m34⟩ ⟨C4,b40,F40.kp,m40⟩ ⟨p5,b39,F39.kp,m39⟩ c6 aD aG aB cU
theorem walk{l:W.OpenLaw}{K:Params->W.Frag}(hn:l.most=some 63)(tZ:d.params.defaults=[])(hY:∀(w:World)(h:Heap),YP w h->(K w.params).In h)(F:∀(w:World)(mg:Str->Option Value)(fa:Addr)(h:Heap),(K w.params).In h->h.Ns mainGlobals mg->mg d.name=some (.ref fa) ->
   ∃ fd:FuncData,(∀(s:Shared)(u:Value),BindsTo s fd ⟨[u],[]⟩ [(sA2,u)])/\∀ base:Heap,(K w.params).In base->base.Ns mainGlobals mg->FnOk l.prog w (K w.params) mg base CX0 37 fa fd [sA2] (qir (K w.params))):
  PySem.W.WalkO q N8 XP YP l.row.toRowW d [] (λ f vs=>PySem.call f vs):=
 L2.walk_of (n:=63) (k:=37) (x:=sA2) (CX:=λ _=>CX0) (sp:=λ w=>qir (K w.params)) hn (by decide) tZ ⟨rfl,by decide,by decide⟩ hY F (λ _ _ a ns hl _ hS=>⟨a,ns,rfl,hS,hl,λ _=>rfl⟩) λ _ _ _ _ _ z=>z
end Law
open PySem PySem.W PyProof.Rows
structure PySem.W.Fast:Prop where (tw12748756698243276644 tw683751496295247439 tw10918061455330513221 tw6769261363654897260 tw773634767054626566 tw5976171025410227731 tw15989469349035928242 tw5882680137650384839 tw7801609320302593553 tw3817554482083309248 tw16666267605989027458 tw11329220779790244700 tw13402514088248633232 tw1303463350290293471 tw17443420454131601838 tw14547270239772919914 tw2424993497521026938 tw11713140825293966095 tw11434153562650086393 tw11886084112068944097 tw12323745856869921060 tw3094451417259699452 tw18374796680559727582 tw17814366298743320036 tw10156490883789825796 tw5375690112358410059 tw16868286270073995966 tw15059887068135829900 tw3247817786138435823 tw14628283406776638884 tw7761806063442152909 tw3116124117491919460 tw6554361929445850034 tw2932712040668604527 tw10326830982707131007 tw13204593816511212277 tw15676900345621117906 tw2481197391563048927 tw8877132685490893237 tw17941046520217900290 tw8141059676349496284 tw15013646904096947415 tw6127405394492342472 tw3442564535329164900 tw16407025141429464451 tw4632750815042419049 tw9024071151216987824 tw7172298842394439842 tw5953666676531453827 tw10129200103893406396 tw3672983298061536433 tw12192317936010896085 tw6988828407755318343 tw9273794237703274134 tw5556769494636468910 tw9054532270315460258 tw12736386945302622463 tw7277161427144344918 tw15941691935613313219 tw12733832764726425561 tw205058002363032620 tw18050111526442529235 tw13299132251995341494 tw11411130353418335623 tw8231702622519664453 tw12122880460335712211 tw11410614784368949973 tw8642726764746998985 tw10412272341405201802 tw18392018154888847045 tw9791831016506464959 tw16089008683883858601 tw8225974316554237383 tw13885784617579337073 tw4956094018786309328 tw12637155306991544656 tw18365199634664594664 tw4981755919377200592 tw1025363632395120494 tw1393438857969488151 tw18092251322620297451 tw2187766796841921517 tw11015906149442041448 tw9819127483820571191 tw17291595190704961237 tw9624153686293997636 tw2633213460968564952 tw14493911127719098154 tw10810116811062644988 tw3985678692379287681 tw12557191971358755455 tw1864059598586121037 tw6566791510384752338 tw2426686224777919811 tw14891804003657435053 tw9669772535388993432 tw9638657679527343319 tw14546137222755762216 tw6423021598950737621 tw3027123827909686316 tw11677148392544770128 tw15078308343557958151 tw15886435915147463936 tw9216334962197748129 tw920569624462749318 tw4397144769644520857 tw13608881296436910309 tw9840136835853177737 tw12771257091338900120 tw1186565437046866648 tw8439635025034670357 tw3103904727316470901 tw2460112077048390780 tw14985865752986141420 tw17262437888505617584 tw15009297463803007513 tw14464240911953273514 tw9907202476856885100 tw11627455846677863549 tw3531023665051749792 tw9965806964576915253 tw2282726492841789436 tw15033071926363393067 tw9363044819343472080 tw7310183456875886600 tw13901382480576760106 tw2685146076342250904 tw13608659326992677966 tw10161216939329065409 tw15613693536789127279 tw16486654327806562903 tw8186268408836955616 tw17358007858616465687 tw14645075293104310839 tw13297792689643271409 tw18381696495241087825 tw452230492270611396 tw9129794832987354121 tw1240370196805859258 tw3238206860222404425 tw4656832649907398549 tw1782881594661940936 tw6290777443488044270 tw359472376712610215 tw16120916661499413330 tw4557316841926697524 tw17065758352776775531 tw13184070023393532314 tw12890507231444661356 tw4260739610510704817 tw779668171597546066 tw12713785393692640668 tw5885209008125794265 tw4739351644855643511 tw1359821141153653851 tw13983867324124270966 tw13740562410878616642 tw15561173080072410832 tw6059371312075757185 tw15553975887405201781 tw9077807520099402692 tw15658078284085856079 tw1823243249779893533 tw12588379182344847705 tw11535176539844054268 tw10701675669262519547 tw6987944448653355283 tw5743791912178857118 tw1523172577725915345 tw6708790033984124048 tw9304907879725785439 tw7338748133624630127 tw4529414778078613189 tw16680640992406876997 tw11799959483979143518 tw15357693255296808556 tw925995116417096359 tw18140537121372499116 tw3694767447038843706 tw16967356915817675303 tw9612481841859557612 tw15363791520741960977 tw9680060556765216233 tw13435854107298905911 tw11608392371654624633 tw15753107200258863429 tw10322688935035409507 tw14290044395410925043 tw5456024708742241834 tw8152319984793221797 tw7344064736907633543 tw18189707584401307662 tw6501310987683290527 tw5880893983336827378 tw16975682005859195003 tw12530692168870239199 tw8440736445442423359 tw12986184114230000315 tw9850421630673907530 tw2244131329107310772 tw13629907883138319565 tw8418708617995653466 tw2488804905587921253 tw9731749527478746676 tw6806554076085476177 tw7670427366240265551 tw16753563540024708306 tw8131315497051200006 tw9069224481508772381 tw11140859775301280960 tw8257721544045400990 tw11283332297467449679 tw4595325855474024727 tw15277498259666910909 tw12615836446882424177 tw10434515192913515918 tw12588867653697019814 tw7228029038134280357 tw12117454877590118178 tw2793115678073842630 tw4984805960254331234 tw493979786246548025 tw11304858677570140205 tw11125386475813448710 tw16152139840768188472 tw2706659491450377264 tw12614821182030548492 tw15803469218307549114 tw1896614161595751161 tw13038627491599506001 tw6663335308565180964 tw9295921152989877897 tw12008567850035571497 tw5517048805364163235 tw3226312436226762193 tw16863816790497266628 tw13031809935266075518 tw136367948404865837 tw15870399626115119411 tw13756585973809775462 tw16892064783461655582 tw17065833058101796122 tw12411647780198390905 tw16125174439335673796 tw13873287729053016137 tw4227965340328970912 tw1484745496937442761 tw6516919256630003316 tw16437904714005949324 tw4841575046088353926 tw7874777538341893031 tw1593095480629293063 tw16950082118365458366 tw13679591310055436142 tw7519191177200162643 tw12735783763149580883 tw2244914116510379425 tw8957415850446693434 tw4554624695478060533 tw7334811433684516199 tw6201341085320062239 tw16099044752831957705 tw16908387383699152112 tw6818943339821769795 tw9727378908797118243 tw17207225226922328286 tw8399462889888347915 tw17344265402683031510 tw15003368939027497024 tw18120136731876940138 tw9613626882530665178 tw5482183411482730537 tw2142731210273560778 tw1192023491658476821 tw7037647655434992348 tw11547917334879859528 tw7068792310388348755 tw3017209362156771462 tw10112822588063874635 tw17031736958788386528 tw16306155847513729636 tw17511704093973633650 tw17098332018959640928 tw13943784935476806855 tw128051674922199471 tw8531814284662177922 tw2865177260115015295 tw16837263189233764982 tw17616936233452657431 tw17933623554373481045 tw17689643933462271101 tw11263223530438258355 tw496527639673701538 tw10292702664939990053 tw7979076398039417169 tw11011894381802783064 tw15985386645416624362 tw4497895630939220722 tw4088793821588375878 tw18081610297768274856 tw8665644257887056501 tw7095261964619283759 tw485240988240096668 tw3497688984499102958 tw3202461853075316155 tw14350465419984187166 tw119906611261112498 tw10584558491973982022 tw8532233094503686993 tw8087244013344737101 tw6342267490719985349 tw5792413429052959663 tw3234396406018571831 tw14137146522494754459 tw12644804969855667745 tw2273637928646215544 tw2177338893447895772 tw11589813403971076524 tw8785028608906173102 tw6620254125684908061 tw5663205442682052666 tw5202208223915512048 tw14355398718552151002 tw10832317639906013917 tw5155100943109270208 tw10649630845171886834 tw8344496396522878647 tw4043001855111654852 tw2276301403980780866 tw14915672715695912789 tw7820936901957944646 tw6803630430396718117 tw3373917019599832653 tw4460107255198992662 tw3085068543646592165 tw11598316284917794898 tw2921069346797882522 tw6040582078782556785 tw2724550842903245902 tw5483030095420551105 tw3471141442643713573 tw512133363208964823 tw242368061073699758 tw808074307950315488 tw13678835073295929700 tw9103776134864129544 tw6517354891199887666 tw17836926014565580633 tw10749297842037210803 tw5954455266130790011 tw13417475961138846009 tw8980187369354408159 tw13887408376040323419 tw132021999454217842 tw11016374015931242343 tw8956477967918378932 tw16001932611008141789 tw15795624207022606113 tw1174090492746795418 tw7571960062995925611 tw13878633635741507720 tw8694870199402297342 tw7559771985299683273 tw540473825877821518 tw12876539902335662206 tw16075276356859018771 tw10315667767368887620 tw489778387805500116 tw11181048975544804218 tw15815891881175083417 tw15955337899296776819 tw1125465410340161961 tw17596246700830766366 tw1030059685692602755 tw11644128973853079955 tw9311471708951783397 tw3759417220011880408 tw6829887153065376440 tw11987712970214377175 tw11111680504072149973 tw9353144190582598107 tw1757602115169712094 tw3749156000522989842 tw2457163237653816067 tw12006078571913377123 tw15133028947549974815 tw1684682023294662716 tw16676039636276163293 tw2226886804173747474 tw13826712231715079268 tw3372206236624949000 tw2333612326371619120 tw11695309972804865409 tw7570233443470539184 tw7427840276435745930 tw1846546421492649171 tw10351787120174235907 tw14176334281215702723 tw5357940583777091773 tw15885987648110903817 tw12919931000025855570 tw4940534787692274665 tw12413495251891027325 tw5029539170696919805 tw9393023606428926759 tw10369362355372557970 tw10281784917363562711 tw832107740838990814 tw5859619807895415920 tw3654755424825066925 tw11393739986619062901 tw10260972279774710015 tw11748699063944653604 tw3727543513960982771 tw9754203332932266076 tw13149538078530422555 tw4943266287636640041 tw4553938510461300328 tw5004260149066650454 tw10959632511894658292 tw2918448310800520645 tw8339748719833848308 tw10145466458895840632 tw2438231924427151354 tw1530750197503955559 tw17639015358193495567 tw6738225343160085043 tw10491978322734795813 tw4199181115048141747 tw17418597441789772685 tw18423826813803875957 tw2028493636883505434 tw13073207196312816989 tw16929889724123160553 tw6520530212150719841 tw12800847697835633928 tw14264812260862841130 tw9773294688200694277 tw7401156713398421305 tw5298480706811733325 tw17609593519289518640 tw13543073614150783396 tw12328870062440362382 tw1161552749094294375 tw10084215569482233808 tw9251361846551924164 tw8251981107900791269 tw4754249519331461630 tw3762902429963248156 tw3647325961698024324 tw1845029297031775413 tw182987137612491423 tw15419693676054059456 tw1519964109769456077 tw1429297176489659755 tw9635349252203248687 tw11607763999364769339 tw13378544381466806309 tw17873857808025764321 tw15237643194101377561 tw10372479295669834752 tw13031608460671471636 tw1204054491626860003 tw11573023880115895854 tw9875582597338485424 tw7509565928808189155 tw6877012117954235615 tw572605304350817520 tw2656641037237786045 tw11374757188174510955 tw10481322097179789275 tw610777237451608883 tw456376386290637015 tw10080186974247850629 tw17179073776669901318 tw1153570137803384711 tw13924530972160206058 tw4681113926210101061 tw7581206984846067584 tw5538649684998487567 tw18308759349656461217 tw1578258201157551053 tw14731004483878125688 tw9900822661248308288 tw9810638767467829994 tw8977715289131765580 tw8360876779594561 tw7354436623509159214 tw6517138047796406702 tw5841714394010875320 tw5167896921459699225 tw479398823963558661 tw4665177873680733416 tw4452128581703338571 tw3866164550652671137 tw3496817258001781633 tw3266274528751509380 tw1887810419521144589 tw18002047919067874965 tw17269986767284851609 tw16971426783541660308 tw16534878164303375706 tw16477372682793633068 tw15382597590450557459 tw14340436065273787705 tw13354762480318814252 tw13244411393005783280 tw13172362716814253380 tw12213324207986986742 tw12050170636438624203 tw12040811592403196407 tw11950660397128539698 tw11525099424675538989 tw11132218077295868054 tw10705889970017058593 tw1856551037508322320 tw14846284670095786009 tw14802203575835853771 tw16565211065374136261 tw8295834675438573759 tw7523032897669717934 tw7003624015602394305 tw5589255918167410613 tw4659848563482364555 tw4568607276563880252 tw2698999908601929501 tw2461109445349215662 tw14054184314574791860 tw13853854426158301972 tw12722469949977327532 tw11041372556125854846 tw10798980434982720591 tw10734820338588581493 tw10474167423235024780 tw10155276110866137372 tw98875307802022360 tw9452214892733849781 tw9188205363311138140 tw8920982716023531066 tw7912842741695541881 tw6553815211207981315 tw4925152214464569530 tw3778592783274083743 tw18040237389262988339 tw17932776106548142007 tw16941956792836679713 tw15829105153196429134 tw15371528977474555529 tw14592392977584196565 tw13970020254182178591 tw10265839163087705015 tw3866236423507812456 tw7246981420980780464 tw7222294176064105614 tw6977359564030370822 tw5486869708808962203 tw5042900102698678986 tw4055977581947407050 tw330485947011774065 tw252986869222028030 tw16921527931607503024 tw13363370323617206117 tw13083145715468496423 tw11923386860843670993 tw11742360625466430720 tw904254804013878915 tw9004481010335844322 tw7946985082465904921 tw5920966991023802262 tw4846095216542714390 tw4289631840852568496 tw4068987670436289010 tw2986523448791142705 tw2797568457643851997 tw2481832873020821874 tw17167029663456308396 tw17042943407204042590 tw16410685398624346150 tw14343792923465119817 tw14046030120596888611 tw12761564529799885314 tw9657100704410702877 tw9507323942085527796 tw94035286133018411 tw9370038316654653570 tw9351391259989533096 tw9159096242093032781 tw9094075155740746469 tw9075366462763073434 tw9020480058595279790 tw8983359036763000366 tw8965763353798352763 tw8945606934631181908 tw8779747658632348768 tw8642647993324130742 tw8547354590331943386 tw8488272133857946047 tw8485024438284063184 tw8482526026595773175 tw8399491346202202734 tw8301743967996491033 tw7952823209691394810 tw7899264397220054726 tw7897735994376941845 tw7844011566337415479 tw7834674054572288269 tw7655523560340361037 tw740609668761579377 tw7327868386579279394 tw7182419675906152827 tw7058353474166110094 tw7037447005038083642 tw6980774284237832989 tw6937961975844362555 tw6924599060962216356 tw6781081123192550262 tw6776409471408452287 tw6711671707816326583 tw6654098272140487716 tw6592998702467708283 tw647977242475561914 tw6377524658916407551 tw6355152410387901971 tw6059717604079119502 tw6023779337132982271 tw5959158368984895112 tw5739993998495034048 tw570698698606709859 tw5693565096269599796 tw5645651529505156656 tw5442457730625711210 tw5426091209941169773 tw5357039923224440721 tw5350703259629920163 tw531087233542290645 tw5255694788671187015 tw5240708638129390896 tw5175061950264005395 tw5097370820970777973 tw5086325207638670439 tw5075330873495836168 tw5044185355374828781 tw4981074075122827600 tw4770098154139596208 tw4696631529240224133 tw4685031472217153296 tw4619692911687140656 tw460226599282367594 tw4316921993430078821 tw4244792090920017161 tw3968257319954538632 tw3858548886081326182 tw3854327259104513494 tw3700227479026801436 tw3585656955924460359 tw3500244419010826569 tw3484636551951138400 tw3360594959591569731 tw3151336752715006520 tw3077685492376433794 tw3032568590929449264 tw2999185332399279998 tw2946265400803455199 tw2945430595152445393 tw2817483929296253637 tw2678782132431542517 tw2618771475339577297 tw2518502507320390294 tw225336159684106551 tw2096744837911021663 tw2024326001906265575 tw1995562817174018999 tw1984416496297745222 tw1926827246170162510 tw1863601389281976869 tw1842434770396494800 tw18411962357069259898 tw18395663096578854284 tw18391951103516329941 tw18313165016595517398 tw18214265714953940690 tw18206144079851035970 tw18184281200054896483 tw17957276444563734859 tw17939029562777987970 tw179178950703686097 tw1791138827948770642 tw17868775029422490151 tw17760000556888763695 tw17740388723909273741 tw17624592116590310900 tw17617413821293994803 tw17449716920189257221 tw17439436491970701752 tw17408443865028063176 tw17399819167477466561 tw17360688911803702776 tw17350623082887189174 tw17307791153945362053 tw17173008267888391556 tw17045398522903459137 tw17034702418126236187 tw17030355767949545409 tw16893442092347457296 tw16776670934370835895 tw16671671056370483998 tw16565796074129195560 tw16500933194885101346 tw16448784110327242266 tw16411540130836335016 tw16336362946897974151 tw163291468414969234 tw16274931031456330203 tw16110561912312342302 tw15974529590957521056 tw15943693580806000680 tw15802941439850770800 tw15772345619270467323 tw15713309442265871019 tw1555042233269662440 tw1522056507950498381 tw14981869859632748844 tw14978391762056689382 tw14932693423291781169 tw1461551472396439344 tw14280121698459924937 tw14264804882172931349 tw14175919296175488950 tw14142315513341680288 tw14106331137797211812 tw14030023620194117712 tw14005386153335937203 tw13908317724964657798 tw13692341777059308212 tw13613071943206154431 tw13546603841985253266 tw13531207863441773087 tw13495264019665791182 tw13285974013496056539 tw13211402450980319761 tw13011714669001116096 tw12993443076139303707 tw12930714704143501508 tw12810789901835304978 tw12802812893069699817 tw12765284968899864991 tw12754771827682044922 tw12750655987598851488 tw12742622153716867269 tw12738730811011810793 tw12571910872174935865 tw12461692918495070567 tw12396100150170605448 tw12294803836840952284 tw12260218066166683062 tw122506198265546753 tw12149724718886785063 tw12059428799342813508 tw1195172564816337924 tw11923624584886666495 tw11851809029763607747 tw1169553252974858817 tw11682857625476721487 tw11270429686215426072 tw11056567523395266456 tw10948367654371339992 tw10757595624612636848 tw10544514221222686739 tw10278085969927614152 tw1010877179637110430 tw10097593935104637257:True)
set_option maxRecDepth 100000 in
set_option maxHeartbeats 0 in
theorem PySem.Challenge.cw_fillsay_k52_whole_widest_or_none_holds : PySem.Challenge.rw_fillsay_k52_whole_widest_or_none.Holds := by
 w_on;o_law;k_head;(case hw=>w_witness2)
 k_fill
 refine Law.walk (l:=PySem.Challenge.rw_fillsay_k52_whole_widest_or_none) rfl rfl (λ w h Y=>W.kIn_of Y) ?F
 case F =>
  intro w mg fa h KX G tO;refine' Law.all_mk KX G tO ..
  any_goals first|k_is|(unfold Law.NI;k_is)
  any_goals first|(refine' ⟨⟨?_,?_,?_,?_⟩,⟨?_,?_,?_,?_⟩,⟨?_,?_,?_,?_⟩,⟨?_,?_,?_,?_⟩,⟨?_,?_,?_,?_⟩,⟨?_,?_,?_,?_⟩,⟨?_,?_,?_,?_⟩,⟨?_,?_,?_⟩,⟨?_,?_,?_⟩,⟨?_,?_,?_,?_⟩,⟨?_,?_,?_,?_⟩,⟨?_,?_,?_,?_⟩,⟨?_,?_,?_,?_⟩,⟨?_,?_,?_,?_⟩,?_,?_,⟨?_,?_⟩,⟨?_,?_⟩,⟨?_,?_⟩⟩ <;> (try dsimp only[L2.NoAttr]) <;> try k_is)|(refine' ⟨⟨?_,?_,?_⟩,⟨?_,?_,?_⟩,⟨?_,?_,?_⟩,⟨?_,?_,?_⟩,⟨?_,?_,?_⟩,⟨?_,?_,?_⟩,⟨?_,?_,?_⟩⟩ <;> (try dsimp only[L2.NoAttr]) <;> try k_is)|(refine' ⟨⟨?_,?_,?_,?_⟩,?_,?_,?_,?_,?_⟩ <;> (try dsimp only[L2.NoAttr]) <;> try k_is)|(refine' ⟨?_,?_,?_,?_⟩ <;> try k_is)|(refine' ⟨?_,?_,?_⟩ <;> try k_is)|skip
  any_goals first|(refine' L2.fun_mk ?_ ?_ ?_ <;> try k_is)|skip
