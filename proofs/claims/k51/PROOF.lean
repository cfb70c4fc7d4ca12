import PyProof.Rows.All
import Wide.All
import OpenK.AllK
import Wide.FinOn
import Lean
import PyProof.EqAt
import PyProof.EqKinds
import PyProof.TupleCall
import PyProof.FactsAll.set_1
import PyProof.FactsAll.set_2
import PyProof.Rows.Range3
import PyProof.AttrMissSeq
import KE.KDictOf
import PyProof.CompUse
import PyProof.Rows.RegReprOcc
import PyProof.FactsAll.list_4
import KE.KItemsList
import KE.KEqDict
import PyProof.Rows.SortRunsK
import PyProof.Rows.SortStr
import PyProof.Draws
import PyProof.EnumMake
import PyProof.SliceStr2
import PyProof.SliceList
import PyProof.DictWalks
import PyProof.SumWalkG
import PyProof.SeqI3
import PyProof.FactsAll.str_6
import PyProof.FactsAll.str_7
import PyProof.StrCalls
import PyProof.MeetsStr
import PyProof.DictItems
import PyProof.DictItemsLoops
import PyProof.DictUpdate
import KE.KPairComp
import PyProof.ZipIter
import PyProof.StrLoop
import PyProof.AttrMissHeap
import PySem.Challenge.RW_fillsay_k51_free_letters_and_fillers
set_option Elab.async false
set_option linter.all false
set_option maxRecDepth 100000
set_option maxHeartbeats 4000000
abbrev Xa:=@List.take_succ_eq_append_getElem
abbrev Xb:=@List.take_append_of_le_length
abbrev Xc:=@List.drop_append_of_le_length
abbrev Xd:=@PyProof.Rows.callWith_type1
abbrev Xe:=@Array.getD_eq_getD_getElem?
abbrev Xf:=@List.perm_append_comm_assoc
abbrev Xg:=@List.getElem?_append_right
abbrev Xh:=@List.perm_ext_iff_of_nodup
abbrev Xi:=@List.getD_eq_getElem?_getD
abbrev Xj:=@Nat.testBit_two_pow_add_gt
abbrev Xk:=@Nat.testBit_two_pow_add_eq
abbrev Xl:=@List.getElem?_eq_some_iff
abbrev Xm:=@List.getElem?_append_left
abbrev Xn:=@Classical.byContradiction
abbrev Xo:=@Array.getElem?_eq_getElem
abbrev Xp:=@PySem.Calls.call_function_entry
abbrev Xq:=@List.drop_eq_getElem_cons
abbrev Xr:=@List.pairwise_iff_getElem
abbrev Xs:=@List.extract_eq_take_drop
abbrev Xt:=@Option.isSome_iff_exists
abbrev Xu:=@List.getElem?_take_of_lt
abbrev Xv:=@List.getElem?_eq_getElem
abbrev Xw:=@PySem.F.slot_list_append
abbrev Xx:=@PySem.F.type_list_append
abbrev Xy:=@PySem.wpAny_comprehension_free
abbrev Xz:=@List.getElem?_replicate
abbrev X0:=@List.filter_cons_of_pos
abbrev X1:=@List.filter_cons_of_neg
abbrev X2:=@PyProof.Rows.F.plain_set_update_loop
abbrev X3:=@Nat.add_sub_cancel_left
abbrev X4:=@List.length_eq_zero_iff
abbrev X5:=@PySem.F.args_zip_next_1
abbrev X6:=@PySem.F.plainAttrs_list
abbrev X7:=@PySem.wpAny_callSpecial?_slot
abbrev X8:=@List.getElem?_set_self
abbrev X9:=@PySem.Heap.get?_push_of_some
abbrev XA:=@PySem.Calls.callWith_builtin
abbrev XB:=@PySem.Heap.get?_update_other
abbrev XC:=@List.take_of_length_le
abbrev XD:=@List.drop_of_length_le
abbrev XE:=@Nat.testBit_lt_two_pow
abbrev XF:=@PySem.F.entry_zip_next
abbrev XG:=@PySem.F.plainAttrs_str
abbrev XH:=@List.mem_append_right
abbrev XI:=@List.length_replicate
abbrev XJ:=@PySem.F.slot_dict_get
abbrev XL:=@List.length_singleton
abbrev XM:=@List.contains_iff_mem
abbrev XN:=@List.take_append_drop
abbrev XO:=@List.filterMap_append
abbrev XQ:=@List.getElem?_eq_none
abbrev XR:=@PySem.Heap.get?_update_self
abbrev XS:=@Array.getElem?_toList
abbrev XT:=@List.getElem?_zipWith
abbrev XU:=@PySem.F.slot_zip_next
abbrev XV:=@PySem.F.slot_str_join
abbrev XW:=@PySem.F.type_str_join
abbrev XX:=@List.length_filter_le
abbrev XY:=@PySem.codeAny_call_function
abbrev XZ:=@PySem.builtinLookup_eq_fast
abbrev Ya:=@List.mem_cons_of_mem
abbrev Yb:=@List.mem_append_left
abbrev Yc:=@List.getElem?_set_ne
abbrev Yd:=@List.mem_of_getElem?
abbrev Ye:=@PySem.Around.under_plainId
abbrev Yf:=@List.pairwise_append
abbrev Yg:=@List.mem_of_mem_drop
abbrev Yh:=@Array.toList_extract
abbrev Yi:=@List.mem_of_mem_take
abbrev Yj:=@Array.toList_reverse
abbrev Yk:=@Nat.pow_le_pow_right
abbrev Yl:=@List.filterMap_cons
abbrev Ym:=@Array.length_toList
abbrev Yn:=@PySem.Heap.get?_push_size
abbrev Yo:=@PySem.mem_of_lookup
abbrev Yp:=@List.replicate_succ
abbrev Yq:=@List.length_zipWith
abbrev Yr:=@List.getElem_of_mem
abbrev Ys:=@PySem.Heap.SameBut.update
abbrev Yt:=@Array.toList_append
abbrev Yu:=@List.length_reverse
abbrev Yv:=@PySem.Paired.length
abbrev Yw:=@List.map_congr_left
abbrev Yx:=@List.getElem?_range
abbrev Yy:=@beq_eq_false_iff_ne
abbrev Yz:=@PySem.wpAny_setEntries_of
abbrev Y0:=@Nat.lt_of_lt_of_le
abbrev Y1:=@List.mem_cons_self
abbrev Y2:=@Bool.false_ne_true
abbrev Y3:=@PySem.Calls.spliced_cons
abbrev Y4:=@List.length_append
abbrev Y5:=@List.pairwise_cons
abbrev Y6:=@List.zip_cons_cons
abbrev Y7:=@Bool.false_eq_true
abbrev Y8:=@List.getElem?_drop
abbrev Y9:=@List.mem_singleton
abbrev Za:=@Int.emod_lt_of_pos
abbrev Zb:=@PySem.wpAny_Call_Name_kw
abbrev Zc:=@PySem.tupleKind_room_in1
abbrev Zd:=@PySem.wpAny_setField_rec
abbrev Ze:=@List.getElem?_map
abbrev Zf:=@Int.toNat_natCast
abbrev Zg:=@List.size_toArray
abbrev Zh:=@List.flatten_cons
abbrev Zi:=@List.append_assoc
abbrev Zj:=@List.nodup_append
abbrev Zk:=@List.pairwise_map
abbrev Zl:=@Nat.lt_succ_of_lt
abbrev Zm:=@List.ext_getElem?
abbrev Zn:=@Array.toList_push
abbrev Zo:=@List.length_range
abbrev Zp:=@List.foldl_append
abbrev Zq:=@PyProof.Rows.KeyOrd.kle_of_klt
abbrev Zr:=@List.getElem_take
abbrev Zs:=@PySem.wpAny_truthy_bool
abbrev Zt:=@PySem.wpAny_pyIter_list
abbrev Zu:=@PySem.wpAny_newObj_type
abbrev Zv:=@PySem.wpAny_setState_of
abbrev Zw:=@bne_self_eq_false
abbrev Zx:=@of_decide_eq_true
abbrev Zy:=@List.length_take
abbrev Zz:=@List.length_cons
abbrev Z0:=@List.length_drop
abbrev Z1:=@List.all_eq_true
abbrev Z2:=@List.lookup_cons
abbrev Z3:=@Bool.and_eq_true
abbrev Z4:=@Nat.succ_ne_self
abbrev Z5:=@Nat.lt_succ_self
abbrev Z6:=@List.getElem_mem
abbrev Z7:=@List.not_mem_nil
abbrev Z8:=@List.take_length
abbrev Z9:=@PyProof.Rows.KeyOrd.kle_trans
abbrev Ua:=@PySem.wpAny_execs_cons
abbrev Ub:=@PySem.wpAny_pyIter_zip
abbrev Uc:=@PySem.wpAny_askSetting
abbrev Ud:=@PySem.wpAny_isInstance
abbrev Ue:=@PySem.wpAny_call_entry
abbrev Uf:=@List.mem_filter
abbrev Ug:=@List.mem_append
abbrev Uh:=@Bool.eq_iff_iff
abbrev Ui:=@List.append_nil
abbrev Uj:=@List.nodup_cons
abbrev Uk:=@List.of_mem_zip
abbrev Ul:=@List.length_map
abbrev Um:=@List.find?_cons
abbrev Uo:=@Option.map_some
abbrev Up:=@List.foldl_cons
abbrev Uq:=@List.nil_append
abbrev Ur:=@List.map_append
abbrev Us:=@List.forIn_cons
abbrev Ut:=@PyProof.Rows.KeyOrd.kle_refl
abbrev Uu:=@Nat.min_eq_left
abbrev Uv:=@Nat.testBit_and
abbrev Uw:=@List.length_zip
abbrev Ux:=@PySem.PassesOwn.never
abbrev Uy:=@Int.emod_nonneg
abbrev Uz:=@decide_eq_false
abbrev U0:=@PySem.wpAny_execs_nil
abbrev U1:=@PySem.wpAny_passesOwn
abbrev U2:=@PySem.wpAny_specialOf
abbrev U3:=@PySem.codeAny_builtin
abbrev U4:=@PySem.typeLookup_type
abbrev U5:=@PySem.wpAny_ite_split
abbrev U6:=@List.mem_range
abbrev U7:=@Bool.false_and
abbrev U8:=@Bool.xor_assoc
abbrev U9:=@List.Perm.refl
abbrev Ja:=@List.forIn_nil
abbrev Jb:=@PySem.Heap.size_push
abbrev Jc:=@List.take_succ
abbrev Jd:=@List.take_zero
abbrev Je:=@List.drop_drop
abbrev Jf:=@List.drop_zero
abbrev Jg:=@List.take_left
abbrev Jh:=@PySem.Draws.strAscii
abbrev Ji:=@PySem.boot_len
abbrev Jj:=@decide_eq_true
abbrev Jk:=@PySem.isSubtype_type
abbrev Jl:=@PySem.entryFor_alias
abbrev Jm:=@PySem.wpAny_fieldsOf
abbrev Jn:=@PySem.isSubtype_stop
abbrev Jo:=@PySem.wpAny_seqItems
abbrev Jp:=@PySem.wpAny_newTuple
abbrev Jq:=@PySem.Paired.length
abbrev Jr:=@Nat.lt_irrefl
abbrev Js:=@List.mem_cons
abbrev Jt:=@List.any_cons
abbrev Ju:=@Bool.false_or
abbrev Jv:=@List.map_cons
abbrev Jw:=@Bool.not_true
abbrev Jx:=@Nat.add_assoc
abbrev Jy:=@PySem.wpAny_holding
abbrev Jz:=@PySem.plainId_quiet
abbrev J0:=@PySem.wpAny_attempt
abbrev J4:=@PySem.wpAny_newList
abbrev J5:=@PySem.Heap.lt_size
abbrev J6:=@Nat.ne_of_lt
abbrev J7:=@Nat.le_trans
abbrev J8:=@Nat.le_of_lt
abbrev J9:=@Nat.ne_of_gt
abbrev Qa:=@List.map_nil
abbrev Qb:=@Nat.mul_comm
abbrev Qc:=@Nat.pow_succ
abbrev Qd:=@List.mem_map
abbrev Qe:=@List.map_map
abbrev Qf:=@Nat.lt_or_ge
abbrev Qg:=@Int.zero_add
abbrev Qh:=@PySem.W.mg_none_of
abbrev Qi:=@PySem.codeAny_mono
abbrev Qj:=@PySem.wpAny_typeOf
abbrev Qk:=@PyProof.Rows.wpS_forRange
abbrev Ql:=@Nat.le_refl
abbrev Qm:=@Nat.zero_le
abbrev Qn:=@Nat.le_succ
abbrev Qo:=@PySem.wpAny_of_eq
abbrev Qp:=@PySem.wpAny_field
abbrev Qq:=@PySem.wpAny_mono
abbrev Qr:=@PySem.wpAny_pure
abbrev Qs:=@PySem.wpAny_bind
abbrev Qt:=@PySem.typeIs_str
abbrev Qu:=@PySem.call_meets
abbrev Qv:=@PySem.wpAny_rule
abbrev Qw:=@PyProof.Rows.wpS_modify
abbrev Qx:=@PySem.W.kia_one
abbrev Qy:=@if_false
abbrev Qz:=@PyProof.Rows.wpS_pure
abbrev Q0:=@PyProof.Rows.wpS_bind
abbrev Q1:=@PyProof.Rows.wpS_mono
abbrev Q2:=@Ne.symm
abbrev Q3:=@PySem.W.mg_of
abbrev Q4:=@if_true
abbrev Q5:=@PyProof.Rows.wpS_get
abbrev Q6:=@dif_pos
abbrev Q7:=@if_pos
abbrev Q8:=@if_neg
namespace L2
open PySem PySem.Spec PyProof.Rows
abbrev sA0:Str:="_law_letters_here"
abbrev sA1:Str:="_law_script"
abbrev sA2:Str:="_law_row_here"
abbrev sA3:Str:="_law_number"
abbrev sA4:Str:="_law_drawn_form"
abbrev sA5:Str:="_law_frees_here"
abbrev sA6:Str:="_law_form_here"
abbrev sA7:Str:="_law_mixed"
abbrev sA8:Str:="_law_table"
abbrev sA9:Str:="_law_other"
abbrev sB0:Str:="_law_letter"
abbrev sB1:Str:="_law_k"
abbrev sB2:Str:="_law_letters"
abbrev sB3:Str:="_law_filling"
abbrev sB4:Str:="_law_row"
abbrev sB5:Str:="_law_form"
abbrev sB6:Str:="_law_worth"
abbrev sB7:Str:="_law_frees"
abbrev sB8:Str:="_law_forms"
abbrev sB9:Str:="_law_rows"
abbrev sC0:Str:="_law_both"
abbrev sC1:Str:="_law_gaps"
abbrev sC2:Str:="_law_one"
abbrev sC3:Str:="_law_due"
abbrev sC4:Str:="_law_gap"
abbrev Key:=Sum Int Str
def ku:Key->Value->Bool
 |.inl k,v=>Value.isInt k v
 |.inr x,v=>Value.isStrOf x v
def qiw(w:World):Key->Int
 |.inl k=>hashInt k
 |.inr x=>hashStr w x
theorem qU:∀{k:Key}{v:Value},ku k v=true->(∃ i t,k=Sum.inl i/\v=Value.int i t)∨(∃ x t,k=Sum.inr x/\v=Value.str x t)
 |.inl i,v,h=>by
  obtain⟨t,e⟩:=Value.isInt_shape (k:=i) (v:=v) h;exact .inl ⟨i,t,rfl,e⟩
 |.inr x,v,h=>by
  obtain⟨t,e⟩:=Value.isStrOf_shape (x:=x) (v:=v) h;exact .inr ⟨x,t,rfl,e⟩
theorem qdO(i:Int)(t:Tok):ku (.inl i) (.int i t)=true:=by simp[ku,Value.isInt]
theorem qdP(x:Str)(t:Tok):ku (.inr x) (.str x t)=true:=by simp[ku,Value.isStrOf]
theorem qgW(a b:Int):decide ((Sum.inl a:Key)=Sum.inl b)=(a == b):=by
 by_cases e:a=b
 ·subst e;simp
 ·have h:¬ (Sum.inl a:Key)=Sum.inl b:=λ q=>e (Sum.inl.inj q)
  rw[Uz h];exact(Yy.mpr e).symm
theorem qgX(a b:Str):decide ((Sum.inr a:Key)=Sum.inr b)=decide (a=b):=by
 by_cases e:a=b
 ·subst e;simp
 ·have h:¬ (Sum.inr a:Key)=Sum.inr b:=λ q=>e (Sum.inr.inj q)
  rw[Uz h,Uz e]
theorem qgY(a:Int)(b:Str):decide ((Sum.inl a:Key)=Sum.inr b)=false:=Uz (λ q=>nomatch q)
theorem qgZ(a:Str)(b:Int):decide ((Sum.inr a:Key)=Sum.inl b)=false:=Uz (λ q=>nomatch q)
def qk(prog:Program)(w:World):PySem.KeyKind prog w Key where
 is:=ku
 hash:=qiw w
 inj:=λ v a b ha hb=>by
  rcases qU ha with⟨i,t,rfl,rfl⟩|⟨x,t,rfl,rfl⟩
  ·rcases qU hb with⟨j,u,rfl,e⟩ | ⟨y,u,rfl,e⟩
   ·injection e with e1 _;rw[e1]
   ·exact nomatch e
  ·rcases qU hb with⟨j,u,rfl,e⟩ | ⟨y,u,rfl,e⟩
   ·exact nomatch e
   ·injection e with e1 _;rw[e1]
 byValue:=λ k v h=>by
  rcases qU h with⟨i,t,rfl,rfl⟩|⟨x,t,rfl,rfl⟩ <;> rfl
 pyHash:=λ hv h=>by
  rcases qU hv with⟨i,t,rfl,rfl⟩|⟨x,t,rfl,rfl⟩
  ·exact wpAny_pyHash_int h
  ·exact wpAny_pyHash_str h
 eqBool:=λ hu hv h=>by
  rcases qU hu with⟨i,t,rfl,rfl⟩|⟨x,t,rfl,rfl⟩
  ·rcases qU hv with⟨j,u,rfl,rfl⟩ | ⟨y,u,rfl,rfl⟩
   ·rw[qgW] at h;exact wpAny_eqBool_int h
   ·rw[qgY] at h;exact SeqAt.EqAt.int_str i t y u _ _ _ _ h
  ·rcases qU hv with⟨j,u,rfl,rfl⟩ | ⟨y,u,rfl,rfl⟩
   ·rw[qgZ] at h;exact SeqAt.EqAt.str_int x t j u _ _ _ _ h
   ·rw[qgX] at h;exact wpAny_eqBool_str h
 «strs»:=λ k x t v h=>by
  rcases qU h with⟨i,u,rfl,e⟩|⟨y,u,rfl,e⟩
  ·exact nomatch e
  ·injection e with e1 _
   subst e1;cases v <;> rfl
theorem qbT(prog:Program)(w:World)(i:Int)(t:Tok):(qk prog w).is (.inl i) (.int i t)=true:=qdO i t
theorem qV(prog:Program)(w:World)(x:Str)(t:Tok):(qk prog w).is (.inr x) (.str x t)=true:=qdP x t
inductive V where 
 |non|bl (b:Bool)|int (i:Int)|str (x:Str)|byt (b:Array UInt8)|flt (b:UInt64)|ref (a:Addr)|ty (n:String) deriving DecidableEq
def qF:V->Value->Prop
 |.non,u=>u=Value.none
 |.bl b,u=>u=Value.bool b
 |.int i,u=>∃ t,u=Value.int i t
 |.str x,u=>∃ t,u=Value.str x t
 |.byt b,u=>∃ t,u=Value.bytes b t
 |.flt b,u=>∃ t,u=Value.float b t
 |.ref a,u=>u=Value.ref a
 |.ty n,u=>u=Value.type n
abbrev qI:List V->List Value->Prop:=Paired qF
theorem qI.length{xs:List V}{us:List Value}(r:qI xs us):xs.length=us.length:=Jq r
theorem qI.get:∀{xs:List V}{us:List Value}{i:Nat}{x:V},qI xs us->xs[i]?=some x->∃ u,us[i]?=some u/\qF x u
 |_,_,_,_,.nil,e=>by simp at e
 |_,_,0,_,.cons r _,e=>by simp at e;subst e;exact⟨_,rfl,r⟩
 |_,_,i+1,x,.cons _ t,e=>by
  obtain⟨u,h1,h2⟩:=qI.get (i:=i) (x:=x) t (by simpa using e);exact⟨u,by simpa using h1,h2⟩
theorem qI.append:∀{xs ys:List V}{us ws:List Value},qI xs us->qI ys ws->qI (xs++ys) (us++ws)
 |_,_,_,_,.nil,s=>s
 |_,_,_,_,.cons r t,s=>.cons r (qI.append t s)
theorem qI.take:∀{xs:List V}{us:List Value}(n:Nat),qI xs us->qI (xs.take n) (us.take n)
 |_,_,0,_=>.nil
 |_,_,_+1,.nil=>.nil
 |_,_,n+1,.cons r t=>.cons r (qI.take n t)
theorem qI.drop:∀{xs:List V}{us:List Value}(n:Nat),qI xs us->qI (xs.drop n) (us.drop n)
 |_,_,0,r=>r
 |_,_,_+1,.nil=>.nil
 |_,_,n+1,.cons _ t=>qI.drop n t
def vE:Option V->Option Value->Prop
 |some v,some u=>qF v u
 |none,none=>True
 |_,_=>False
def KV{κ:Type}:List (κ×V)->List (κ×Value)->Prop:=Paired λ(p:κ×V)(q:κ×Value)=>p.1=q.1/\qF p.2 q.2
def kV:Key->V
 |.inl i=>.int i
 |.inr x=>.str x
inductive HO where 
 
 |lst (xs:List V) 
 |tup (xs:List V) 
 |dK (kvs:List (Key×V))|dT (kvs:List (List Key×V)) 
 |set (S:Int->Bool) (n:Nat)
 
 |ins (C dx:Addr) (fs:List (Str×V))
 
 |own (x:Addr)
 
 |xd (fs:List (Str×V))
 
 |met (f x:Addr)
 
 |rng (lo hi:Int)
 
 |frz (o:Obj) (u:HO)
 
 |tbl (ps:Array Value)
 
 |ext (φ:Heap->Prop)
abbrev Hp:=Addr->Option HO
def upd(H:Hp)(a:Addr)(o:HO):Hp:=λ b=>if b=a then some o else H b
theorem qe{H:Hp}{a:Addr}{o:HO}:upd H a o a=some o:=by unfold upd;rw[Q7 rfl]
theorem qg{H:Hp}{a b:Addr}{o:HO}(h:b≠a):upd H a o b=H b:=by unfold upd;rw[Q8 h]
theorem qey{H:Hp}{a b:Addr}{o u:HO}(h:H a=some o)(h':H b=some u)(d:o≠u):a≠b:=by
 intro e;subst e;rw[h] at h';exact d (Option.some.inj h')
theorem qr{H:Hp}{a b:Addr}{o:HO}(h:H a=some o)(h':H b=none):a≠b:=by
 intro e;subst e;rw[h] at h';cases h'
section
variable (P:Program)(w:World)
def qQ(H:Hp)(h:Heap)(a:Addr):HO->Prop
 | .lst xs=>xs.length<=sizeLine/\∃(its:List Value)(n:Nat),qI xs its/\h.get? a=some { cls:=.type "list",data:=.seq its.toArray n }
 |.tup xs=>xs.length<=sizeLine/\∃ its:List Value,qI xs its/\IsTup h a its.toArray
 |.dK kvs=>kvs.length<=sizeLine/\(a == sysModules)=false/\∃ vs,KV kvs vs/\h.DictOf (qk P w) a vs
 | .dT kvs=>kvs.length<=sizeLine/\(a == sysModules)=false/\∃ xs:List (List Key×Addr×Value),
   Paired (λ(p:List Key×V)(q:List Key×Addr×Value)=>p.1=q.1/\H q.2.1=some (.tup (p.1.map kV))/\qF p.2 q.2.2) kvs xs /\
   ∃ o es ep,h.get? a=some o/\o.ExactDict/\o.data=.dict es ep/\es.toList=xs.map (entryOfKey (tupleKind (qk P w)))/\(xs.map (·.1)).Nodup
 |.set S n=>h.SetOf (intKind P w) a S n
 | .ins C dx fs=>H dx=some (.own a)/\fs.length<=1000/\dx≠a/\h.get? a=some (W.instObj C dx) /\
   ∃ mA,h.Ns1 dx mA/\(∀ f,vE (fs.lookup f) (mA f))/\PySem.Within mA (fs.map (·.1))
 |.own _=>∃ o,h.get? a=some o
 |.xd fs=>∃ mA,h.Ns1 a mA/\∀ f,vE (fs.lookup f) (mA f)
 | .rng lo hi=>∃ t u v,h.get? a=some { cls:=.type "range",data:=.fields #[.int lo t,.int hi u,.int 1 v] }
 |.frz o u=>h.get? a=some o/\qQ H h a u
 |.tbl ps=>h.get? a=some { cls:=.none,data:=.fields ps }
 |.met f x=>h.get? a=some (W.methodObj (.ref f) (.ref x))
 |.ext φ=>φ h/\(∃ o,h.get? a=some o)/\∀ h1 h2:Heap,φ h1->(∀ o,h1.get? a=some o->h2.get? a=some o)->φ h2
def HOk(H:Hp)(h:Heap):Prop:=∀ a o,H a=some o->qQ P w H h a o
end
section
variable {P:Program}{w:World}{H H':Hp}{h h':Heap}{a:Addr}{o:HO}
theorem qQ.lt(x:qQ P w H h a o):a<h.objs.size:=by
 cases o with
 |lst xs=>obtain⟨_,_,_,_,e⟩:=x;exact J5 e
 |tup xs=>obtain⟨_,_,_,p⟩:=x;exact p.lt
 |dK kvs=>obtain⟨_,_,_,_,o,_,_,e,_⟩:=x;exact J5 e
 |dT kvs=>obtain⟨_,_,_,_,o,_,_,e,_⟩:=x;exact J5 e
 |set S n=>obtain⟨o,_,_,_,e,_⟩:=x;exact J5 e
 |ins C dx fs=>obtain⟨_,_,_,e,_⟩:=x;exact J5 e
 |own y=>obtain⟨_,e⟩:=x;exact J5 e
 |xd fs=>obtain⟨_,⟨_,_,_,e,_⟩,_⟩:=x;exact J5 e
 |rng lo hi=>obtain⟨_,_,_,e⟩:=x;exact J5 e
 |frz ob u=>obtain⟨e,_⟩:=x;exact J5 e
 |tbl ps=>exact J5 (show h.get? a=some _ from x)
 |met f y=>exact J5 (show h.get? a=some _ from x)
 |ext φ=>obtain⟨_,⟨_,e⟩,_⟩:=x;exact J5 e
theorem Paired.mapP{α β:Type}{F G:α->β->Prop}:∀{l₁:List α}{l₂:List β},Paired F l₁ l₂->(∀ a b,F a b->G a b)->Paired G l₁ l₂
 |_,_,.nil,_=>.nil
 |_,_,.cons r t,f=>.cons (f _ _ r) (Paired.mapP t f)
theorem qQ.stay(x:qQ P w H h a o)(k:∀ b u,(b=a∨H b=some (.own a))->h.get? b=some u->h'.get? b=some u)(ho:∀ b,H b=some (.own a)->H' b=some (.own a))(ht:∀ b xs,H b=some (.tup xs)->H' b=some (.tup xs)):qQ P w H' h' a o:=by
 induction o with
 |lst xs=>obtain⟨z,its,n,r,e⟩:=x;exact⟨z,its,n,r,k _ _ (.inl rfl) e⟩
 |tup xs=>obtain⟨z,its,r,ob,e,c⟩:=x;exact⟨z,its,r,ob,k _ _ (.inl rfl) e,c⟩
 |dK kvs=>obtain⟨z,y,vs,r,ob,es,ep,e,c⟩:=x;exact⟨z,y,vs,r,ob,es,ep,k _ _ (.inl rfl) e,c⟩
 |dT kvs =>
  obtain⟨z,y,xs,r,ob,es,ep,e,c⟩:=x;exact⟨z,y,xs,Paired.mapP r λ p q z=>⟨z.1,ht _ _ z.2.1,z.2.2⟩,ob,es,ep,k _ _ (.inl rfl) e,c⟩
 |set S n=>obtain⟨ob,es,ep,t,e,c⟩:=x;exact⟨ob,es,ep,t,k _ _ (.inl rfl) e,c⟩
 |ins C dx fs =>
  obtain⟨d,z,ne,e,mA,⟨od,es,ep,e2,c⟩,r⟩:=x;exact⟨ho _ d,z,ne,k _ _ (.inl rfl) e,mA,⟨od,es,ep,k _ _ (.inr d) e2,c⟩,r⟩
 |own y=>obtain⟨ob,e⟩:=x;exact⟨ob,k _ _ (.inl rfl) e⟩
 |xd fs=>obtain⟨mA,⟨od,es,ep,e,c⟩,r⟩:=x;exact⟨mA,⟨od,es,ep,k _ _ (.inl rfl) e,c⟩,r⟩
 |rng lo hi=>obtain⟨t,u,v,e⟩:=x;exact⟨t,u,v,k _ _ (.inl rfl) e⟩
 |frz ob u ih=>obtain⟨e,q⟩:=x;exact⟨k _ _ (.inl rfl) e,ih q⟩
 |tbl ps =>
  have e:h.get? a=some { cls:=.none,data:=.fields ps }:=x;show h'.get? a=some { cls:=.none,data:=.fields ps }
  exact k a _ (.inl rfl) e
 |met f y =>
  have e:h.get? a=some (W.methodObj (.ref f) (.ref y)):=x;show h'.get? a=some (W.methodObj (.ref f) (.ref y))
  exact k a _ (.inl rfl) e
 |ext φ=>obtain⟨p,⟨o,e⟩,st⟩:=x;exact⟨st _ _ p λ o q=>k _ _ (.inl rfl) q,⟨o,k _ _ (.inl rfl) e⟩,st⟩
theorem HOk.lt(x:HOk P w H h)(e:H a=some o):a<h.objs.size:=(x a o e).lt
theorem HOk.fresh(x:HOk P w H h)(e:h.objs.size<=a):H a=none:=by
 cases q:H a with
 |none=>rfl
 |some u=>exact absurd (Y0 (x.lt q) e) (Jr _)
theorem HOk.kept(x:HOk P w H h)(k:∀ b u,h.get? b=some u->h'.get? b=some u):HOk P w H h':=λ a o e =>
 (x a o e).stay (λ b u _ q=>k b u q) (λ _ q=>q) λ _ _ q=>q
theorem HOk.laid(x:HOk P w H h)(k:∀ b u,h.get? b=some u->h'.get? b=some u)(hp:h.objs.size<=a)(new:qQ P w (upd H a o) h' a o):HOk P w (upd H a o) h':=λ b u e=>by
 have hn:=x.fresh hp;by_cases hb:b=a
 ·subst hb;rw[qe] at e;cases e;exact new
 ·rw[qg hb] at e;exact(x b u e).stay (λ c v _ q=>k c v q) (λ c q=>by rw[qg (qr q hn)];exact q) λ c xs q=>by rw[qg (qr q hn)];exact q
end
def Rd(H:Hp)(a:Addr)(u:HO):Prop:=H a=some u∨∃ o,H a=some (.frz o u)
theorem Rd.ok{P:Program}{w:World}{H:Hp}{h:Heap}{a:Addr}{u:HO}(r:Rd H a u)(x:HOk P w H h):qQ P w H h a u:=by
 rcases r with r|⟨o,r⟩
 ·exact x a u r
 ·obtain⟨_,q⟩:=x a _ r;exact q
def Mut:Option HO->Prop
 |some (.lst _)=>True
 |some (.dK _)=>True
 |some (.dT _)=>True
 |some (.set _ _)=>True
 |some (.ins _ _ _)=>True
 |some (.ext _)=>True
 |_=>False
section
variable {P:Program}{w:World}{H:Hp}{h h':Heap}{x e:Addr}{o':HO}
theorem HOk.write(ok:HOk P w H h)(mu:Mut (H x))(he:e=x∨H e=some (.own x))(k:∀ b u,b≠e->h.get? b=some u->h'.get? b=some u)(R9:∃ u,h'.get? e=some u)(new:qQ P w (upd H x o') h' x o'):HOk P w (upd H x o') h':=λ b u q=>by
 have dS:∀ c y,H c=some (.own y)->c≠x:=λ c y r z=>by subst z;rw[r] at mu;exact mu
 have sK:∀ c xs,H c=some (.tup xs)->c≠x:=λ c xs r z=>by subst z;rw[r] at mu;exact mu
 by_cases hb:b=x
 ·subst hb;rw[qe] at q;cases q;exact new
 ·rw[qg hb] at q;by_cases hbe:b=e
  ·have q':H b=some (.own x):=by
    rcases he with z|z
    ·exact absurd (hbe.trans z) hb
    ·rw[hbe];exact z
   rw[q] at q';cases q';obtain⟨v,hv⟩:=R9;exact⟨v,by rw[hbe];exact hv⟩
  ·refine(ok b u q).stay (λ c v hc r=>k c v ?_ r) (λ c r=>by rw[qg (dS c b r)];exact r) λ c xs r=>by rw[qg (sK c xs r)];exact r
   rcases hc with rfl|hc
   ·exact hbe
   ·rintro rfl;rcases he with z | z
    ·exact dS c b hc z
    ·rw[hc] at z;cases z;exact hb rfl
end
structure Un(fs ex:List Addr)(H H':Hp)(h h':Heap):Prop where
 keep:∀ b o,h.get? b=some o->H b=none->b∉fs->b∉ex->h'.get? b=some o
 slot:∀ b o,h.get? b=some o->H b=none->b∈fs->b∉ex->∃ sl,h'.get? b=some { o with slots:=sl }
 free:∀ b o,h.get? b=some o->H b=none->b∉ex->H' b=none
 there:∀ b o,h.get? b=some o->b∉ex->∃ o',h'.get? b=some o'
 tups:∀ b xs,H b=some (.tup xs)->H' b=some (.tup xs)
 frzs:∀ b o u,H b=some (.frz o u)->H' b=some (.frz o u)
 tbls:∀ b ps,H b=some (.tbl ps)->∃ more,H' b=some (.tbl (ps++more))
section
variable {fs fs' ex ex':List Addr}{H H1 H2:Hp}{h h1 h2 h':Heap}{a x e:Addr}{o:HO}
theorem Un.any(u:Un fs ex H H1 h h1){b:Addr}{ob:Obj}(q:h.get? b=some ob)(n:H b=none)(hx:b∉ex):∃ sl,h1.get? b=some { ob with slots:=sl }:=by
 by_cases hb:b∈fs
 ·exact u.slot b ob q n hb hx
 ·exact⟨ob.slots,u.keep b ob q n hb hx⟩
theorem Un.kept(k:∀ b u,h.get? b=some u->h'.get? b=some u):Un fs ex H H h h':=
 ⟨λ b ob q _ _ _=>k b ob q,λ b ob q _ _ _=>⟨ob.slots,k b ob q⟩,λ _ _ _ n _=>n,λ b ob q _=>⟨ob,k b ob q⟩,λ _ _ q=>q,λ _ _ _ q=>q,λ _ ps q=>⟨#[],by rw[q];simp⟩⟩
theorem Un.refl:Un fs ex H H h h:=Un.kept λ _ _ q=>q
theorem Un.laid(k:∀ b u,h.get? b=some u->h'.get? b=some u)(hp:h.objs.size<=a)(hn:H a=none):Un fs ex H (upd H a o) h h' where
 keep:=λ b u q _ _ _=>k b u q
 slot:=λ b u q _ _ _=>⟨u.slots,k b u q⟩
 free:=λ b u q n _=>by rw[qg (J6 (Y0 (J5 q) hp))];exact n
 there:=λ b u q _=>⟨u,k b u q⟩
 tups:=λ b xs q=>by rw[qg (qr q hn)];exact q
 frzs:=λ b u xs q=>by rw[qg (qr q hn)];exact q
 tbls:=λ b ps q=>⟨#[],by rw[qg (qr q hn),q];simp⟩
theorem Un.write(mu:Mut (H x))(he:e=x∨H e=some (.own x))(k:∀ b u,b≠e->h.get? b=some u->h'.get? b=some u)(R9:∃ u,h'.get? e=some u):Un fs ex H (upd H x o) h h':=by
 have hx:∀ b,H b=none->b≠x:=λ b n z=>by subst z;rw[n] at mu;exact mu
 have hb:∀ b,H b=none->b≠e:=λ b n z=>by
  subst z;rcases he with r|r
  ·exact hx b n r
  ·rw[n] at r;cases r
 have hm:∀ b u,H b=some u->¬ Mut (some u)->b≠x:=λ b u q nm z=>by subst z;rw[q] at mu;exact nm mu
 refine⟨λ b u q n _ _=>k b u (hb b n) q,λ b u q n _ _=>⟨u.slots,k b u (hb b n) q⟩,λ b u q n _=>by rw[qg (hx b n)];exact n,λ b u q _=>?_,
  λ b xs q=>by rw[qg (hm b _ q λ z=>z)];exact q,λ b u xs q=>by rw[qg (hm b _ q λ z=>z)];exact q,λ b ps q=>⟨#[],by rw[qg (hm b _ q λ z=>z),q];simp⟩⟩
 by_cases hbe:b=e
 ·subst hbe;exact R9
 ·exact⟨u,k b u hbe q⟩
end
def trk(h:Heap)(H:Hp):List Addr:=(List.range h.objs.size).filter λ a=>(H a).isSome
def kw(h:Heap)(H:Hp):Heap:=W.hideAll h (trk h H)
theorem qdQ(h:Heap)(H:Hp):(kw h H).objs.size=h.objs.size:=W.hideAll_size _ _
theorem qez{h:Heap}{H:Hp}{b:Addr}{o:Obj}(e:h.get? b=some o)(n:H b=none):(kw h H).get? b=some o:=
 W.hideAll_get _ e λ hm=>by
  have q:(H b).isSome=true:=(Uf.mp hm).2;rw[n] at q;simp at q
theorem qfZ{h:Heap}{H:Hp}{b:Addr}{o:Obj}(e:(kw h H).get? b=some o):h.get? b=some o/\H b=none:=by
 have e':h.get? b=some o:=W.of_hideAll (trk h H) e;refine⟨e',?_⟩;cases q:H b with
 |none=>rfl
 |some x =>
  have hm:b∈trk h H:=Uf.mpr ⟨U6.mpr (J5 e'),by simp[q]⟩;have z:(kw h H).get? b=none:=W.hideAll_none (trk h H) hm;rw[z] at e;cases e
def qf0(g h:Heap)(L:Addr):List (Addr×Obj):=(List.range h.objs.size).filterMap λ a=>if a=L∨(g.get? a).isSome=true then none else(h.get? a).map λ o=>(a,o)
def rest(g h:Heap)(L d:Addr):List (Addr×Obj):=(qf0 g h L).filter λ p=>decide (p.1≠d)
structure Mod(K:W.Frag)(mg:Str->Option Value)(base:Heap):Prop where
 kin:K.In base
 glob:base.Ns mainGlobals mg
 blt:∃ mb,base.Ns builtinsNs mb/\∀ x:Str,x≠"__name__"->mb x=bootBuiltins x
 nolimit:base.NoLimit
structure Cx where 
 prog:Program
 w:World
 K:W.Frag
 mg:Str->Option Value
 base:Heap
 A:Around
 N:List Str
 s₀:Shared
 H₀:Hp
 env:Env
 outer:List Env
 stack:List Env
 ex:List Addr
 fn:Str->Bool
 calm:Bool
 pn:List (Addr×Obj)
 xe:Value->Shared->Prop
def frs(l:List Env):List Addr:=l.filterMap (·.frame)
abbrev Cx.fs(X:Cx):List Addr:=frs X.outer
def Vis(sc:Scope)(x:Str):Prop:=sc.names.lookup x=some .local∨sc.names.lookup x=some .cell∨sc.names.lookup x=some .free
def Loc(sc:Scope)(x:Str):Prop:=sc.names.lookup x=some .local∨sc.names.lookup x=some .cell
def qix(env:Env)(h:Heap)(m:Str->Option Value)(x:Str)(u:Value):Prop:=
 (env.kindOf x=some .local/\m x=some u)∨((env.kindOf x=some .cell∨env.kindOf x=some .free)/\∃ c,env.cells.lookup x=some c/\h.IsCell c (some u))
structure Cx.Ok(X:Cx):Prop where
 mod:Mod X.K X.mg X.base
 kind:X.env.scope.kind=.function
 glob:X.env.globals=mainGlobals
 blt:X.env.builtins=builtinsNs
 above:X.s₀.heap.objs.size<=X.env.locals
 inj:∀ x y c,X.env.cells.lookup x=some c->X.env.cells.lookup y=some c->x=y
 has:∀ x,(X.env.kindOf x=some .cell∨X.env.kindOf x=some .free)->∃ c,X.env.cells.lookup x=some c
 cab:∀ x c,X.fn x=true->X.env.cells.lookup x=some c->X.s₀.heap.objs.size<=c
 hd:X.calm=true->X.A.handled=none
 frames:X.A.frames=some X.stack
 stk:X.stack=X.outer∨(X.stack=X.env::X.outer/\X.env.frame=some X.env.locals)
 exf:∀ b∈X.ex,b≠X.env.locals/\∀ x c,X.env.cells.lookup x=some c->c≠b
 bs:∀ b o,X.base.get? b=some o->X.s₀.heap.get? b=some o/\X.H₀ b=none
 bsz:X.base.objs.size<=X.s₀.heap.objs.size
 noex:∀ b o,X.base.get? b=some o->b∉X.ex
 exfs:∀ b∈X.ex,b∉X.fs
 funs:X.s₀.heap.FunFrames X.base X.outer
 frf:∀ b∈X.fs,X.H₀ b=none
structure Inv(X:Cx)(pins:List (Addr×Obj))(σ:List (Option V))(H:Hp)(s:Shared):Prop where
 ok:X.Ok
 os:s.os=X.s₀.os
 bare:AllBare s.gens
 base:Un X.fs X.ex X.H₀ H X.s₀.heap s.heap
 loc:∃ m,s.heap.Ns X.env.locals m/\∀(i:Nat)(x:Str)(v:V),X.N[i]?=some x->σ[i]?=some (some v)->Vis X.env.scope x->∃ u,qF v u/\qix X.env s.heap m x u
 cell:∀ x c,X.env.cells.lookup x=some c->∃ v,s.heap.IsCell c v
 free:H X.env.locals=none
 freeC:∀ x c,X.env.cells.lookup x=some c->H c=none
 pin:∀ p∈X.pn++pins,s.heap.get? p.1=some p.2/\H p.1=none/\p.1≠X.env.locals/\p.1∉X.fs/\∀ v,p.2.data≠.cell v
 hok:HOk X.prog X.w H s.heap
 len:σ.length=X.N.length
section
variable {X:Cx}{pins:List (Addr×Obj)}{σ:List (Option V)}{H H':Hp}{s:Shared}{h':Heap}
theorem Cx.Ok.nofr(ok:X.Ok){b:Addr}{o:Obj}(e:X.base.get? b=some o):b∉X.fs:=λ hb=>by
 have:=(ok.funs.mem hb).1
 rw[e] at this;cases this
theorem Inv.bs(I:Inv X pins σ H s):∀ b o,X.base.get? b=some o->s.heap.get? b=some o/\H b=none:=λ b o e =>
 ⟨I.base.keep b o (I.ok.bs b o e).1 (I.ok.bs b o e).2 (I.ok.nofr e) (I.ok.noex b o e),I.base.free b o (I.ok.bs b o e).1 (I.ok.bs b o e).2 (I.ok.noex b o e)⟩
theorem Inv.bk(I:Inv X pins σ H s):∀ b o,X.base.get? b=some o->s.heap.get? b=some o:=λ b o e=>(I.bs b o e).1
theorem Inv.mod(I:Inv X pins σ H s):Mod X.K X.mg X.base:=I.ok.mod
theorem Inv.kIn(I:Inv X pins σ H s):X.K.In s.heap:=I.ok.mod.kin.keeps I.bk
theorem Inv.fr(I:Inv X pins σ H s):∃ m,Fr X.base X.env.locals s.heap m:=
 let ⟨m,hn,_⟩:=I.loc
 ⟨m,hn,I.bk,J7 I.ok.bsz I.ok.above⟩
theorem Inv.lt(I:Inv X pins σ H s):X.env.locals<s.heap.objs.size:=let ⟨_,hn,_⟩:=I.loc;hn.lt
theorem Inv.sz(I:Inv X pins σ H s):X.s₀.heap.objs.size<=s.heap.objs.size:=J7 I.ok.above (J8 I.lt)
theorem Inv.nofs(I:Inv X pins σ H s){a:Addr}(h:s.heap.objs.size<=a):a∉X.fs:=λ hb=>by
 obtain⟨_,o,ho,_⟩:=I.ok.funs.mem hb;exact absurd (Y0 (J5 ho) (J7 I.sz h)) (Jr _)
theorem Inv.cne(I:Inv X pins σ H s):∀ x c,X.env.cells.lookup x=some c->c≠X.env.locals:=λ x c e z=>by
 obtain⟨v,o,ho,hd⟩:=I.cell x c e;obtain⟨m,⟨o',es,ep,E3,K2,_⟩,_⟩:=I.loc;rw[z,E3] at ho;cases ho;rw[K2] at hd;cases hd
theorem Inv.funs(I:Inv X pins σ H s):s.heap.FunFrames X.base X.outer:=by
 have all:∀(l:List Env),(∀ b∈frs l,b∈X.fs)->X.s₀.heap.FunFrames X.base l->s.heap.FunFrames X.base l:=by
  intro l;induction l with
  |nil=>intro _ _;trivial
  |cons env r ih =>
   intro hs hl;obtain⟨hk,⟨L,o,hf,hn,ho,hd⟩,hr⟩:=hl;have hL:L∈X.fs:=hs L (by unfold frs;rw[Yl,hf];exact Y1);obtain⟨sl,e⟩:=I.base.slot L o ho (I.ok.frf L hL) hL λ z=>I.ok.exfs L z hL
   exact⟨hk,⟨L,_,hf,hn,e,hd⟩,ih (λ b hb=>hs b (by unfold frs;rw[Yl,hf];exact Ya _ hb)) hr⟩
 exact all X.outer (λ _ hb=>hb) I.ok.funs
theorem Inv.stack(I:Inv X pins σ H s):s.heap.FunFrames X.base X.stack:=by
 rcases I.ok.stk with e|⟨e,hf⟩
 ·rw[e];exact I.funs
 ·rw[e];obtain⟨m,hn,_⟩:=I.loc;refine .cons (by rw[I.ok.kind];decide) hf hn ?_ I.funs;exact Heap.get?_none_of_le (J7 I.ok.bsz I.ok.above)
theorem Inv.stkSub(I:Inv X pins σ H s):∀ b∈frs X.stack,b∈X.env.locals::X.fs:=λ b hb=>by
 rcases I.ok.stk with e|⟨e,hf⟩
 ·rw[e] at hb;exact Ya _ hb
 ·rw[e] at hb;unfold frs at hb;rw[Yl,hf] at hb;exact hb
theorem Inv.stkFree(I:Inv X pins σ H s):∀ b∈frs X.stack,H b=none:=λ b hb=>by
 rcases Js.mp (I.stkSub b hb) with e|hb
 ·rw[e];exact I.free
 ·obtain⟨_,o,ho,_⟩:=I.ok.funs.mem hb;exact I.base.free b o ho (I.ok.frf b hb) λ z=>I.ok.exfs b z hb
theorem Inv.step{g':Array GenState}{t':Nat}{d':Drawn}{ch:List Addr}(I:Inv X pins σ H s)(S0:∀ b∈ch,(b∈X.ex∨X.s₀.heap.objs.size<=b)/\b≠X.env.locals/\(∀ x c,X.env.cells.lookup x=some c->c≠b)/\∀ p∈X.pn++pins,p.1≠b)(keep:∀ b o,b≠X.env.locals->b∉X.fs->b∉ch->s.heap.get? b=some o->H b=none->h'.get? b=some o)(slot:∀ b o,b≠X.env.locals->b∈X.fs->b∉ch->s.heap.get? b=some o->H b=none->∃ sl,h'.get? b=some { o with slots:=sl })(free:∀ b o,b∉ch->s.heap.get? b=some o->H b=none->H' b=none)(there:∀ b o,b∉ch->s.heap.get? b=some o->∃ o',h'.get? b=some o')(tups:∀ b xs,H b=some (.tup xs)->H' b=some (.tup xs))(frzs:∀ b o u,H b=some (.frz o u)->H' b=some (.frz o u))(tbls:∀ b ps,H b=some (.tbl ps)->∃ more,H' b=some (.tbl (ps++more)))(ns:∀ m,s.heap.Ns X.env.locals m->h'.Ns X.env.locals m)(hok:HOk X.prog X.w H' h')(hg:AllBare g'):
  Inv X pins σ H' { s with heap:=h',gens:=g',drawn:=d',toks:=t' }:=by
 have neL:∀ b o,X.s₀.heap.get? b=some o->b≠X.env.locals:=λ b o e=>J6 (Y0 (J5 e) I.ok.above)
 have lI:∀ b o,X.s₀.heap.get? b=some o->b∉X.ex->b∉ch:=λ b o e hx hb=>by
  rcases(S0 b hb).1 with z|z
  ·exact hx z
  ·exact absurd (Y0 (J5 e) z) (Jr _)
 have aR:∀ x c,X.env.cells.lookup x=some c->∀ v,s.heap.IsCell c v->h'.IsCell c v:=λ x c e v ⟨o,ho,hd⟩=>by
  have dU:c∉ch:=λ z=>(S0 c z).2.2.1 x c e rfl
  by_cases hc:c∈X.fs
  ·obtain⟨sl,q⟩:=slot c o (I.cne x c e) hc dU ho (I.freeC x c e);exact⟨_,q,hd⟩
  ·exact⟨o,keep c o (I.cne x c e) hc dU ho (I.freeC x c e),hd⟩
 refine⟨I.ok,I.os,hg,⟨λ b o e n hb hx=>?_,λ b o e n hb hx=>?_,λ b o e n hx=>?_,λ b o e hx=>?_,λ b xs e=>tups b xs (I.base.tups b xs e),λ b o xs e=>frzs b o xs (I.base.frzs b o xs e),λ b ps e=>?_⟩,?_,λ x c e=>?_,?_,λ x c e=>?_,λ p hp=>?_,hok,I.len⟩
 ·exact keep b o (neL b o e) hb (lI b o e hx) (I.base.keep b o e n hb hx) (I.base.free b o e n hx)
 ·obtain⟨sl,e1⟩:=I.base.slot b o e n hb hx;obtain⟨sl',e2⟩:=slot b _ (neL b o e) hb (lI b o e hx) e1 (I.base.free b o e n hx);exact⟨sl',e2⟩
 ·obtain⟨o',e1⟩:=I.base.there b o e hx;exact free b o' (lI b o e hx) e1 (I.base.free b o e n hx)
 ·obtain⟨o',e1⟩:=I.base.there b o e hx;exact there b o' (lI b o e hx) e1
 ·obtain⟨m1,e1⟩:=I.base.tbls b ps e;obtain⟨m2,e2⟩:=tbls b _ e1;exact⟨m1++m2,by rw[e2,Array.append_assoc]⟩
 ·obtain⟨m,hn,hl⟩:=I.loc;refine⟨m,ns m hn,λ i x v e1 e2 e3=>?_⟩;obtain⟨u,r,l⟩:=hl i x v e1 e2 e3;refine⟨u,r,?_⟩;rcases l with l | ⟨k,c,e,z⟩
  ·exact .inl l
  ·exact .inr ⟨k,c,e,aR x c e _ z⟩
 ·obtain⟨v,z⟩:=I.cell x c e;exact⟨v,aR x c e v z⟩
 ·obtain⟨m,⟨o,_,_,ho,_⟩,_⟩:=I.loc;exact free _ o (λ z=>(S0 _ z).2.1 rfl) ho I.free
 ·obtain⟨v,o,ho,hd⟩:=I.cell x c e;exact free c o (λ z=>(S0 c z).2.2.1 x c e rfl) ho (I.freeC x c e)
 ·obtain⟨e,n,ne,nf,d⟩:=I.pin p hp;have dU:p.1∉ch:=λ z=>(S0 p.1 z).2.2.2 p hp rfl
  exact⟨keep p.1 p.2 ne nf dU e n,free p.1 p.2 dU e n,ne,nf,d⟩
theorem Inv.un{t':Nat}(I:Inv X pins σ H s)(u:Un X.fs [] H H' s.heap h')(hok:HOk X.prog X.w H' h'):Inv X pins σ H' { s with heap:=h',toks:=t' }:=by
 obtain⟨m,⟨o,es,ep,ho,r⟩,_⟩:=id I.loc;obtain⟨sl,hL⟩:=u.any ho I.free (by simp);exact I.step (g':=s.gens) (d':=s.drawn) (ch:=[]) (λ _ z=>nomatch z) (λ b o _ hb _ e n=>u.keep b o e n hb (by simp)) (λ b o _ hb _ e n=>u.slot b o e n hb (by simp)) (λ b o _ e n=>u.free b o e n (by simp)) (λ b o _ e=>u.there b o e (by simp)) u.tups u.frzs u.tbls (λ m' hm=>by
  obtain⟨o',t4,xU,E3,r'⟩:=hm;rw[ho] at E3;cases E3;exact⟨_,t4,xU,hL,r'⟩) hok I.bare
theorem Inv.call{g':Array GenState}{t':Nat}{d':Drawn}{ch:List Addr}(I:Inv X pins σ H s)(u:Un (frs X.stack) ch H H' s.heap h')(hok:HOk X.prog X.w H' h')(hg:AllBare g')(S0:∀ b∈ch,(b∈X.ex∨X.s₀.heap.objs.size<=b)/\b≠X.env.locals/\(∀ x c,X.env.cells.lookup x=some c->c≠b)/\∀ p∈X.pn++pins,p.1≠b):
  Inv X pins σ H' { s with heap:=h',gens:=g',drawn:=d',toks:=t' }:=by
 obtain⟨m,⟨o,es,ep,ho,r⟩,_⟩:=id I.loc;obtain⟨sl,hL⟩:=u.any ho I.free λ z=>(S0 _ z).2.1 rfl
 exact I.step (ch:=ch) S0 (λ b o hL hb hc e n=>u.keep b o e n (λ z=>(Js.mp (I.stkSub b z)).elim hL hb) hc) (λ b o _ _ hc e n=>u.any e n hc) (λ b o hc e n=>u.free b o e n hc) (λ b o hc e=>u.there b o e hc) u.tups u.frzs u.tbls (λ m' hm=>by
  obtain⟨o',t4,xU,E3,r'⟩:=hm;rw[ho] at E3;cases E3;exact⟨_,t4,xU,hL,r'⟩) hok hg
theorem Inv.turned{t':Nat}{it:Addr}(I:Inv X pins σ H s)(k:∀ b o,b≠it->s.heap.get? b=some o->h'.get? b=some o)(hn:H it=none)(hL:it≠X.env.locals)(h1:it∈X.ex∨X.s₀.heap.objs.size<=it)(h2:∀ x c,X.env.cells.lookup x=some c->c≠it)(h3:∀ p∈X.pn++pins,p.1≠it):Inv X pins σ H { s with heap:=h',toks:=t' }:=by
 have nit:∀ b u,H b=some u->b≠it:=λ b u e z=>by rw[z,hn] at e;cases e
 refine I.step (g':=s.gens) (d':=s.drawn) (ch:=[it]) (λ b hb=>?_) (λ b o _ _ hc e _=>k b o (λ z=>hc (by simp[z])) e) (λ b o _ _ hc e _=>⟨o.slots,k b o (λ z=>hc (by simp[z])) e⟩) (λ _ _ _ _ n=>n)
  (λ b o hc e=>⟨o,k b o (λ z=>hc (by simp[z])) e⟩) (λ _ _ e=>e) (λ _ _ _ e=>e) (λ b ps e=>⟨#[],by rw[e];simp⟩) (λ m hm=>?_) (λ b u e=>?_) I.bare
 ·have e:b=it:=by simpa using hb
  subst e;exact⟨h1,hL,h2,h3⟩
 ·obtain⟨o,es,ep,ho,r⟩:=hm;exact⟨o,es,ep,k _ o (Q2 hL) ho,r⟩
 ·refine(I.hok b u e).stay (λ c v hc q=>k c v ?_ q) (λ _ q=>q) λ _ _ q=>q
  rcases hc with z|z
  ·rw[z];exact nit b u e
  ·exact nit c _ z
theorem Inv.tok(I:Inv X pins σ H s)(t:Nat):Inv X pins σ H { s with toks:=t }:=I.un (h':=s.heap) (t':=t) Un.refl I.hok
theorem Inv.kept{t':Nat}(I:Inv X pins σ H s)(k:∀ b u,s.heap.get? b=some u->h'.get? b=some u):Inv X pins σ H { s with heap:=h',toks:=t' }:=I.un (Un.kept k) (I.hok.kept k)
theorem Inv.laid{a:Addr}{o:HO}{t':Nat}(I:Inv X pins σ H s)(k:∀ b u,s.heap.get? b=some u->h'.get? b=some u)(hp:s.heap.objs.size<=a)(new:qQ X.prog X.w (upd H a o) h' a o):
  Inv X pins σ (upd H a o) { s with heap:=h',toks:=t' }:=I.un (Un.laid k hp (I.hok.fresh hp)) (I.hok.laid k hp new)
theorem Inv.write{x e:Addr}{o:HO}{t':Nat}(I:Inv X pins σ H s)(mu:Mut (H x))(he:e=x∨H e=some (.own x))(k:∀ b u,b≠e->s.heap.get? b=some u->h'.get? b=some u)(R9:∃ u,h'.get? e=some u)(new:qQ X.prog X.w (upd H x o) h' x o):Inv X pins σ (upd H x o) { s with heap:=h',toks:=t' }:=I.un (Un.write mu he k R9) (I.hok.write mu he k R9 new)
theorem Inv.weak{σ':List (Option V)}(I:Inv X pins σ H s)(hl:σ'.length=σ.length)(w:∀(i:Nat) v,σ'[i]?=some (some v)->σ[i]?=some (some v)):Inv X pins σ' H s:=
 ⟨I.ok,I.os,I.bare,I.base,let ⟨m,hn,G0⟩:=I.loc;⟨m,hn,λ i x v e1 e2 e3=>G0 i x v e1 (w i v e2) e3⟩,I.cell,I.free,I.freeC,I.pin,I.hok,hl.trans I.len⟩
theorem Inv.pins_of{aA:List (Addr×Obj)}(I:Inv X pins σ H s)(h:∀ p∈aA,s.heap.get? p.1=some p.2/\H p.1=none/\p.1≠X.env.locals/\p.1∉X.fs/\∀ v,p.2.data≠.cell v):Inv X aA σ H s:=
 ⟨I.ok,I.os,I.bare,I.base,I.loc,I.cell,I.free,I.freeC,λ p hp=>(Ug.mp hp).elim (λ z=>I.pin p (Yb _ z)) (h p),I.hok,I.len⟩
theorem qbU{N:List Str}(hN:N.Nodup){i j:Nat}{x:Str}(a:N[i]?=some x)(b:N[j]?=some x):i=j:=by
 obtain⟨h1,e1⟩:=Xl.mp a;obtain⟨h2,e2⟩:=Xl.mp b;exact(List.getElem_inj hN).mp (e1.trans e2.symm)
theorem qaO{M:Model}{A:Around}{E:Value->Shared->Prop}{i:Nat}{x:Str}{v:V}{u:Value}{Q:Unit->Shared->Prop}(I:Inv X pins σ H s)(hN:X.N.Nodup)(hi:X.N[i]?=some x)(hx:Loc X.env.scope x)(r:qF v u)(h:∀ s',Inv X pins (σ.set i (some v)) H s'->(∃ a,Heap.SameBut a s.heap s'.heap/\(a=X.env.locals∨X.env.cells.lookup x=some a))->Q () s')(hf:X.fn x=true∨X.env.scope.names.lookup x=some .local:=by first|exact .inl rfl|exact .inr rfl|assumption):wpAny M A (storeName X.env x u) Q E s:=by
 obtain⟨m,hn,hl⟩:=id I.loc;have wH:(X.env.scope.kind == .class || (X.env.scope.kind == .module && X.env.locals != X.env.globals))=false:=by rw[I.ok.kind];rfl
 have hiσ:i < σ.length:=by rw[I.len];exact(Xl.mp hi).1
 have cne:=I.cne;have K8:∀{a:Addr}{h':Heap},(∃ o,s.heap.get? a=some o/\H a=none)->Heap.SameBut a s.heap h'->HOk X.prog X.w H h':=λ{a h'} ha hs b ob e=>by
  obtain⟨_,_,A9⟩:=ha;refine(I.hok b ob e).stay (λ c w' hc q=>(hs.2 c ?_).trans q) (λ _ q=>q) λ _ _ q=>q
  rintro rfl;rcases hc with rfl|hc
  ·rw[A9] at e;cases e
  ·rw[A9] at hc;cases hc
 rcases hx with hk|hk
 ·refine wpAny_storeName_local hk hn (λ h' aI hs=>?_) wH;obtain⟨oL,_,_,V0,_⟩:=id hn;refine h _ ⟨I.ok,I.os,I.bare,⟨λ b o e n hb hx=>?_,λ b o e n hb hx=>?_,I.base.free,λ b o e hx=>?_,I.base.tups,I.base.frzs,I.base.tbls⟩,⟨_,aI,λ j y v' e1 e2 e3=>?_⟩,λ y c e=>?_,I.free,I.freeC,λ p hp=>?_,K8 ⟨oL,V0,I.free⟩ hs,by simpa using I.len⟩ ⟨_,hs,.inl rfl⟩
  ·exact(hs.2 b (J6 (Y0 (J5 e) I.ok.above))).trans (I.base.keep b o e n hb hx)
  ·obtain⟨sl,e1⟩:=I.base.slot b o e n hb hx;exact⟨sl,(hs.2 b (J6 (Y0 (J5 e) I.ok.above))).trans e1⟩
  ·obtain⟨o',e1⟩:=I.base.there b o e hx;exact⟨o',(hs.2 b (J6 (Y0 (J5 e) I.ok.above))).trans e1⟩
  ·by_cases hj:j=i
   ·subst hj;rw[hi] at e1;cases e1;rw[X8 hiσ] at e2;cases e2
    exact⟨u,r,.inl ⟨hk,by simp⟩⟩
   ·rw[Yc (Q2 hj)] at e2;obtain⟨u',r',q⟩:=hl j y v' e1 e2 e3;refine⟨u',r',?_⟩;rcases q with⟨k,e⟩ | ⟨k,c,e,z⟩
    ·refine .inl ⟨k,?_⟩
     have:y≠x:=λ e=>hj (qbU hN e1 (e ▸ hi))
     simp[this,e]
    ·exact .inr ⟨k,c,e,z.sameBut hs (cne y c e)⟩
  ·obtain⟨w',z⟩:=I.cell y c e;exact⟨w',z.sameBut hs (cne y c e)⟩
  ·obtain⟨e,n,ne,nf,d⟩:=I.pin p hp;exact⟨(hs.2 p.1 ne).trans e,n,ne,nf,d⟩
 ·have uX:X.fn x=true:=by
   rcases hf with z|z
   ·exact z
   ·rw[z] at hk;cases hk
  obtain⟨c,hc⟩:=I.ok.has x (.inl hk);obtain⟨w',z⟩:=I.cell x c hc;refine wpAny_storeName_cell I.ok.kind hk hc z (λ h' A0 hs=>?_);obtain⟨oc,cM,uG⟩:=id z;refine h { s with heap:=h' } ⟨I.ok,I.os,I.bare,⟨λ b o e n hb hx=>?_,λ b o e n hb hx=>?_,I.base.free,λ b o e hx=>?_,I.base.tups,I.base.frzs,I.base.tbls⟩,⟨m,hn.sameBut hs (Q2 (cne x c hc)),λ j y v' e1 e2 e3=>?_⟩,λ y c' e=>?_,I.free,I.freeC,λ p hp=>?_,K8 ⟨oc,cM,I.freeC x c hc⟩ hs,by simpa using I.len⟩ ⟨c,hs,.inr hc⟩
  ·exact(hs.2 b (J6 (Y0 (J5 e) (I.ok.cab x c uX hc)))).trans (I.base.keep b o e n hb hx)
  ·obtain⟨sl,e1⟩:=I.base.slot b o e n hb hx;exact⟨sl,(hs.2 b (J6 (Y0 (J5 e) (I.ok.cab x c uX hc)))).trans e1⟩
  ·obtain⟨o',e1⟩:=I.base.there b o e hx;exact⟨o',(hs.2 b (J6 (Y0 (J5 e) (I.ok.cab x c uX hc)))).trans e1⟩
  ·by_cases hj:j=i
   ·subst hj;rw[hi] at e1;cases e1;rw[X8 hiσ] at e2;cases e2
    exact⟨u,r,.inr ⟨.inl hk,c,hc,A0⟩⟩
   ·rw[Yc (Q2 hj)] at e2;obtain⟨u',r',q⟩:=hl j y v' e1 e2 e3;refine⟨u',r',?_⟩;rcases q with q | ⟨k,c',e,z'⟩
    ·exact .inl q
    ·refine .inr ⟨k,c',e,z'.sameBut hs ?_⟩;rintro rfl;exact hj (qbU hN e1 (I.ok.inj _ _ _ e hc ▸ hi))
  ·by_cases d3:c'=c
   ·subst d3;exact⟨_,A0⟩
   ·obtain⟨w2,z2⟩:=I.cell y c' e;exact⟨w2,z2.sameBut hs d3⟩
  ·obtain⟨e,n,ne,nf,d⟩:=I.pin p hp;refine⟨(hs.2 p.1 ?_).trans e,n,ne,nf,d⟩;intro q;rw[q,cM] at e;have q':oc=p.2:=Option.some.inj e;exact d w' (by rw[<- q'];exact uG)
theorem kz{M:Model}{A:Around}{E:Value->Shared->Prop}{i:Nat}{x:Str}{v:V}{u:Value}{Q:Unit->Shared->Prop}(I:Inv X pins σ H s)(hN:X.N.Nodup)(hi:X.N[i]?=some x)(hx:Loc X.env.scope x)(r:qF v u)(h:∀ s',Inv X pins (σ.set i (some v)) H s'->Q () s')(hf:X.fn x=true∨X.env.scope.names.lookup x=some .local:=by first | exact .inl rfl | exact .inr rfl | assumption):wpAny M A (storeName X.env x u) Q E s:=
 qaO I hN hi hx r (λ s' I' _=>h s' I') hf
theorem Inv.call'{s':Shared}{ch:List Addr}(I:Inv X pins σ H s)(ho:s'.os=s.os)(u:Un (frs X.stack) ch H H' s.heap s'.heap)(hok:HOk X.prog X.w H' s'.heap)(hg:AllBare s'.gens)(S0:∀ b∈ch,(b∈X.ex∨X.s₀.heap.objs.size<=b)/\b≠X.env.locals/\(∀ x c,X.env.cells.lookup x=some c->c≠b)/\∀ p∈X.pn++pins,p.1≠b):Inv X pins σ H' s':=by
 obtain⟨h',g',d',t',o'⟩:=s';have e:o'=s.os:=ho;subst e;exact I.call (g':=g') (t':=t') (d':=d') u hok hg S0
end
abbrev XK:=Value->Option Addr->Hp->Prop
abbrev St:=List (Option V)
abbrev VK:=V->Hp->Prop
abbrev TE:=St->Hp->VK->Prop
abbrev TT:=St->Hp->(Bool->Hp->Prop)->Prop
abbrev TA:=St->Hp->(List V->Hp->Prop)->Prop
structure Ends where 
 nx:St->Hp->Prop
 rt:VK
 bk:St->Hp->Prop:=λ _ _=>False
 ct:St->Hp->Prop:=λ _ _=>False
abbrev TS:=Ends->St->Hp->Prop
def EP(X:Cx)(pins:List (Addr×Obj))(σ:St)(Q:VK)(u:Value)(s':Shared):Prop:=∃ v H',Inv X pins σ H' s'/\qF v u/\Q v H'
def TP(X:Cx)(pins:List (Addr×Obj))(σ:St)(Q:Bool->Hp->Prop)(b:Bool)(s':Shared):Prop:=∃ H',Inv X pins σ H' s'/\Q b H'
def AP(X:Cx)(pins:List (Addr×Obj))(σ:St)(Q:List V->Hp->Prop)(us:List Value)(s':Shared):Prop:=∃ vs H',Inv X pins σ H' s'/\qI vs us/\Q vs H'
def SP(X:Cx)(pins:List (Addr×Obj))(D:Ends)(f:Flow)(s':Shared):Prop:=
 match f with
 |.next=>∃ σ' H',Inv X pins σ' H' s'/\D.nx σ' H'
 |.brk=>∃ σ' H',Inv X pins σ' H' s'/\D.bk σ' H'
 |.cont=>∃ σ' H',Inv X pins σ' H' s'/\D.ct σ' H'
 |.ret u=>∃ v σ' H',Inv X pins σ' H' s'/\qF v u/\D.rt v H'
def PE(X:Cx)(e:Expr)(t:TE):Prop:=
 ∀(pins:List (Addr×Obj))(s:Shared)(σ:St)(H:Hp)(Q:VK),Inv X pins σ H s->t σ H Q->wpAny (model X.prog X.w) X.A (eval e X.env) (EP X pins σ Q) X.xe s
def PT(X:Cx)(e:Expr)(t:TT):Prop:=
 ∀(pins:List (Addr×Obj))(s:Shared)(σ:St)(H:Hp)(Q:Bool->Hp->Prop),Inv X pins σ H s->t σ H Q->wpAny (model X.prog X.w) X.A (isTrue e X.env (eval e X.env)) (TP X pins σ Q) X.xe s
def PW(X:Cx)(e:Expr)(t:TT):Prop:=
 ∀(K7:Sem Value)(pins:List (Addr×Obj))(s:Shared)(σ:St)(H:Hp)(Q:Bool->Hp->Prop),Inv X pins σ H s->t σ H Q->wpAny (model X.prog X.w) X.A (isTrue e X.env K7) (TP X pins σ Q) X.xe s
theorem PW.pt{X:Cx}{e:Expr}{t:TT}(h:PW X e t):PT X e t:=h _
def PA(X:Cx)(es:List Expr)(t:TA):Prop:=
 ∀(pos:Pos)(pins:List (Addr×Obj))(s:Shared)(σ:St)(H:Hp)(Q:List V->Hp->Prop),Inv X pins σ H s->t σ H Q->wpAny (model X.prog X.w) X.A (spliced (backTo pos (starEach es X.env))) (AP X pins σ Q) X.xe s
def PS(X:Cx)(st:Stmt)(t:TS):Prop:=
 ∀(pins:List (Addr×Obj))(s:Shared)(σ:St)(H:Hp)(D:Ends),Inv X pins σ H s->t D σ H->wpAny (model X.prog X.w) X.A (exec st X.env) (SP X pins D) X.xe s
def PSs(X:Cx)(st:List Stmt)(t:TS):Prop:=
 ∀(pins:List (Addr×Obj))(s:Shared)(σ:St)(H:Hp)(D:Ends),Inv X pins σ H s->t D σ H->wpAny (model X.prog X.w) X.A (execs st X.env) (SP X pins D) X.xe s
theorem thn{α:Type}{t:Sem α}{Q Q':α->Shared->Prop}{M:Model}{A:Around}{E:Value->Shared->Prop}{s:Shared}(h:wpAny M A t Q E s)(hQ:∀ a s,Q a s->Q' a s):wpAny M A t Q' E s:=Qq h hQ λ _ _ x=>x
section
variable {X:Cx}
def qhU(i:Nat):TE:=λ σ H Q=>∃ v,σ[i]?=some (some v)/\Q v H
def tC(v:V):TE:=λ _ H Q=>Q v H
theorem qcF{i:Nat}{x:Str}{pos:Pos}(hN:X.N[i]?=some x)(hv:Vis X.env.scope x)(hd:(x == ("__debug__":Str))=false:=by decide)(A4:(x == ("__classdict__":Str))=false:=by decide):PE X (.Name x pos) (qhU i):=by
 intro pins s σ H Q I h;obtain⟨v,e,h⟩:=h;obtain⟨m,hn,hl⟩:=I.loc;obtain⟨u,r,l⟩:=hl i x v hN e hv;have fin:EP X pins σ Q u s:=⟨v,H,I,r,h⟩;rcases l with⟨hk,hm⟩|⟨hk,c,hc,E5⟩
 ·exact wpAny_Name (wpAny_loadName_local I.ok.kind hk hn hm fin) hd
 ·rcases hk with hk | hk
  ·exact wpAny_Name (wpAny_loadName_cell I.ok.kind hk hc E5 fin) hd
  ·exact wpAny_Name (wpAny_loadName_free I.ok.kind hk hc E5 fin A4) hd
theorem qh{i j pos}:PE X (.Constant (.int i) j pos) (tC (.int i)):=λ _ _ _ H _ I h=>wpAny_Constant_int ⟨.int i,H,I.tok _,⟨_,rfl⟩,h⟩
theorem qaP{b j pos}:PE X (.Constant (.bool b) j pos) (tC (.bl b)):=λ _ _ _ H _ I h=>Constant_bool ⟨.bl b,H,I,rfl,h⟩
theorem qH{x j pos}:PE X (.Constant (.str x) j pos) (tC (.str x)):=λ _ _ _ H _ I h=>Calls.Constant_str ⟨.str x,H,I.tok _,⟨_,rfl⟩,h⟩
def Gl(X:Cx)(x:Str):Prop:=X.env.kindOf x=some .globalImplicit
theorem qdn{E:Value->Shared->Prop}{pins:List (Addr×Obj)}{s:Shared}{σ:St}{H:Hp}{x:Str}{u:Value}{pos:Pos}{Q:Value->Shared->Prop}(I:Inv X pins σ H s)(hg:Gl X x)(hm:X.mg x=some u)(h:Q u s)(hd:(x == ("__debug__":Str))=false:=by decide):wpAny (model X.prog X.w) X.A (eval (.Name x pos) X.env) Q E s:=
 Calls.Name_function_global I.ok.kind hg (Calls.loadGlobal_global (by rw[I.ok.glob];exact I.mod.glob.keeps I.bk) hm h) hd
theorem y9{E:Value->Shared->Prop}{pins:List (Addr×Obj)}{s:Shared}{σ:St}{H:Hp}{x:Str}{u:Value}{pos:Pos}{Q:Value->Shared->Prop}(I:Inv X pins σ H s)(hg:Gl X x)(hm:X.mg x=none)(hv:bootBuiltins x=some u)(h:Q u s)(hn:x≠"__name__":=by decide)(hd:(x == ("__debug__":Str))=false:=by decide):wpAny (model X.prog X.w) X.A (eval (.Name x pos) X.env) Q E s:=by
 obtain⟨mb,h1,h2⟩:=I.mod.blt;exact Calls.Name_function_global I.ok.kind hg (Calls.loadGlobal_builtin (by rw[I.ok.glob];exact I.mod.glob.keeps I.bk) hm (by rw[I.ok.blt];exact h1.keeps I.bk) ((h2 x hn).trans hv) h) hd
theorem qf1{x:Str}{v:V}{u:Value}{pos:Pos}(hg:Gl X x)(hm:X.mg x=none)(hv:bootBuiltins x=some u)(r:qF v u)(hn:x≠"__name__":=by decide)(hd:(x == ("__debug__":Str))=false:=by decide):PE X (.Name x pos) (tC v):=
 λ _ _ _ H _ I h=>y9 I hg hm hv ⟨v,H,I,r,h⟩ hn hd
variable {a b:Expr}{ta tb:TE}{pos:Pos}
def PC(X:Cx)(op:CmpOp)(a b:Expr)(t:TE):Prop:=
 ∀(pins:List (Addr×Obj))(s:Shared)(σ:St)(H:Hp)(Q:VK),Inv X pins σ H s->t σ H Q ->
  wpAny (model X.prog X.w) X.A (eval a X.env) (λ v s₁=>wpAny (model X.prog X.w) X.A (eval b X.env) (λ u s₂=>wpAny (model X.prog X.w) X.A (compareOp op v u) (EP X pins σ Q) X.xe s₂) X.xe s₁) X.xe s
def tB(t:TE):TT:=λ σ H Q=>t σ H λ x H1=>∃ c,x=.bl c/\Q c H1
theorem qg0{op:CmpOp}{t:TE}(h:PC X op a b t)(h1:behindInMarks op b=false:=by first|exact nobehind _ (by decide) (by decide)|rfl):PE X (.Compare a [op] [b] pos) t:=λ pins s σ H Q I hw=>wpAny_Compare1 (h pins s σ H Q I hw) h1
theorem js{e:Expr}{t:TE}(h:PE X e t)(he:∀ K7,isTrue e X.env K7=(do let v <- K7;standAt e.pos;holding [v] (truthy v)):=by intro _;rfl):PT X e (tB t):=by
 intro pins s σ H Q I hw;refine isTrue_plain (thn (h pins s σ H _ I hw) λ v s1 ⟨x,H1,I1,r1,q1⟩=>?_) (he _);obtain⟨d,rfl,q⟩:=q1;cases r1
 exact Zs ⟨H1,I1,q⟩
variable {tA iV:TT}{rest:List Expr}
def qiy(t u:TT):TT:=λ σ H Q=>t σ H λ c H1=>if c=true then u σ H1 Q else Q false H1
def tOr(t u:TT):TT:=λ σ H Q=>t σ H λ c H1=>if c=true then Q true H1 else u σ H1 Q
def qiz(t:TT):TT:=λ σ H Q=>t σ H λ c H1=>Q (!c) H1
theorem qdo(ha:PT X a tA):PW X (.BoolOp .And [a] pos) tA:=by
 intro wh pins s σ H Q I h;refine isTrue_and (thn (ha pins s σ H Q I h) λ c s1 e=>?_);cases c with
 |true=>exact isTrue_and_nil e
 |false=>exact e
theorem qeA(ha:PT X a tA):PW X (.BoolOp .Or [a] pos) tA:=by
 intro wh pins s σ H Q I h;refine isTrue_or (thn (ha pins s σ H Q I h) λ c s1 e=>?_);cases c with
 |false=>exact isTrue_or_nil e
 |true=>exact e
theorem qeB(ha:PT X a tA)(hb:PW X (.BoolOp .And (b::rest) pos) iV):PW X (.BoolOp .And (a::b::rest) pos) (qiy tA iV):=by
 intro wh pins s σ H Q I h;refine isTrue_and (thn (ha pins s σ H _ I h) λ c s1 ⟨H1,I1,q1⟩=>?_);cases c with
 |true=>exact hb wh pins s1 σ H1 Q I1 q1
 |false=>exact⟨H1,I1,q1⟩
theorem qeC(ha:PT X a tA)(hb:PW X (.BoolOp .Or (b::rest) pos) iV):PW X (.BoolOp .Or (a::b::rest) pos) (tOr tA iV):=by
 intro wh pins s σ H Q I h;refine isTrue_or (thn (ha pins s σ H _ I h) λ c s1 ⟨H1,I1,q1⟩=>?_);cases c with
 |true=>exact⟨H1,I1,q1⟩
 |false=>exact hb wh pins s1 σ H1 Q I1 q1
theorem qg1(ha:PT X a tA):PT X (.UnaryOp .Not a pos) (qiz tA):=by
 intro pins s σ H Q I h;exact isTrue_not (ha pins s σ H (λ c H1=>Q (!c) H1) I h)
def qhV(ta tb:TE):TE:=λ σ H Q=>ta σ H λ x H1=>∃ c,x=.bl c/\if c=true then tb σ H1 Q else Q (.bl false) H1
def qhW(ta:TE):TE:=λ σ H Q=>ta σ H λ x H1=>∃ c,x=.bl c/\Q (.bl (!c)) H1
theorem qg2{op}{t:TE}(h:PE X a t):PE X (.BoolOp op [a] pos) t:=λ pins s σ H Q I hw=>BoolOp_one (h pins s σ H Q I hw)
theorem qg3(ha:PE X a ta)(hb:PE X (.BoolOp .And (b::rest) pos) tb):PE X (.BoolOp .And (a::b::rest) pos) (qhV ta tb):=by
 intro pins s σ H Q I h;refine BoolOp_and (thn (ha pins s σ H _ I h) λ v s1 ⟨x,H1,I1,r1,q1⟩=>?_);obtain⟨c,rfl,q1⟩:=q1;cases r1
 refine Zs ?_;cases c with
 |true=>exact hb pins s1 σ H1 Q I1 q1
 |false=>exact⟨.bl false,H1,I1,rfl,q1⟩
theorem qeD(ha:PE X a ta):PE X (.UnaryOp .Not a pos) (qhW ta):=by
 intro pins s σ H Q I h;refine UnaryOp_ (thn (ha pins s σ H _ I h) λ v s1 ⟨x,H1,I1,r1,q1⟩=>?_);obtain⟨c,rfl,q1⟩:=q1;cases r1
 exact not_of (Zs ⟨.bl (!c),H1,I1,rfl,q1⟩)
def tIf(t:TT)(ta tb:TE):TE:=λ σ H Q=>t σ H λ c H1=>if c=true then ta σ H1 Q else tb σ H1 Q
theorem qeE{c:Expr}(hc:PT X c tA)(ha:PE X a ta)(hb:PE X b tb):PE X (.IfExp c a b pos) (tIf tA ta tb):=by
 intro pins s σ H Q I h;refine wpAny_IfExp (thn (hc pins s σ H _ I h) λ d s1 ⟨H1,I1,q1⟩=>?_);cases d with
 |true=>exact ha pins s1 σ H1 Q I1 q1
 |false=>exact hb pins s1 σ H1 Q I1 q1
end
def SqL(K:W.Frag)(H:Hp)(a:Addr)(xs:List V):Prop:=
 Rd H a (.lst xs) ∨
  ∃(o:Obj)(its:Array Value)(n:Nat),K.lookup a=some o/\o.cls=.type "list"/\o.dict=none/\o.data=.seq its n/\its.size<=sizeLine/\qI xs its.toList
def SqT(K:W.Frag)(H:Hp)(a:Addr)(xs:List V):Prop:=
 Rd H a (.tup xs) ∨
  ∃(o:Obj)(its:Array Value)(n:Nat),K.lookup a=some o/\o.cls=.type "tuple"/\o.data=.seq its n/\its.size<=sizeLine/\qI xs its.toList
def qiA:Value->Option V
 |.none=>some .non
 |.bool b=>some (.bl b)
 |.int i _=>some (.int i)
 |.str x _=>some (.str x)
 |.bytes b _=>some (.byt b)
 |.float b _=>some (.flt b)
 |.ref a=>some (.ref a)
 |.type n=>some (.ty n)
 |_=>none
theorem qF.abs{x:V}{u:Value}(r:qF x u):qiA u=some x:=by
 cases x with
 |non=>cases r;rfl
 |bl _=>cases r;rfl
 |int _=>obtain⟨t,rfl⟩:=r;rfl
 |str _=>obtain⟨t,rfl⟩:=r;rfl
 |byt _=>obtain⟨t,rfl⟩:=r;rfl
 |flt _=>obtain⟨t,rfl⟩:=r;rfl
 |ref _=>cases r;rfl
 |ty _=>cases r;rfl
theorem qF.inj{x y:V}{u:Value}(r:qF x u)(q:qF y u):x=y:=Option.some.inj (r.abs.symm.trans q.abs)
theorem qI.inj:∀{xs ys:List V}{us:List Value},qI xs us->qI ys us->xs=ys
 |_,_,_,.nil,.nil=>rfl
 |_,_,_,.cons r t,.cons r' t'=>by rw[r.inj r',qI.inj t t']
section
variable {X:Cx}{pins:List (Addr×Obj)}{σ:St}{H:Hp}{s:Shared}{a:Addr}{xs ys:List V}
theorem SqL.of{K:W.Frag}(h:H a=some (.lst xs)):SqL K H a xs:=.inl (.inl h)
theorem SqT.of{K:W.Frag}(h:H a=some (.tup xs)):SqT K H a xs:=.inl (.inl h)
theorem Inv.list(I:Inv X pins σ H s)(h:SqL X.K H a xs):∃ its:List Value,qI xs its/\PlainL s.heap a its.toArray/\xs.length<=sizeLine:=by
 rcases h with h|⟨o,its,n,hk,hc,hd,hs,hz,r⟩
 ·obtain⟨z,its,n,r,e⟩:=h.ok I.hok;exact⟨its,r,⟨_,n,e,rfl,rfl,rfl⟩,z⟩
 ·refine⟨its.toList,r,⟨o,n,I.kIn a o hk,hc,hd,by simpa using hs⟩,?_⟩;have e:=r.length;simp only[Ym] at e;omega
theorem Inv.tuple(I:Inv X pins σ H s)(h:SqT X.K H a xs):∃ its:List Value,qI xs its/\IsTup s.heap a its.toArray/\xs.length<=sizeLine:=by
 rcases h with h|⟨o,its,n,hk,hc,hs,hz,r⟩
 ·obtain⟨z,its,r,p⟩:=h.ok I.hok;exact⟨its,r,p,z⟩
 ·refine⟨its.toList,r,⟨o,I.kIn a o hk,hc,n,by simpa using hs⟩,?_⟩;have e:=r.length;simp only[Ym] at e;omega
theorem Inv.list_inj(I:Inv X pins σ H s)(h:SqL X.K H a xs)(h':SqL X.K H a ys):xs=ys:=by
 obtain⟨its,r,⟨o,n,e,_,_,d⟩,_⟩:=I.list h;obtain⟨its',r',⟨o',n',e',_,_,d'⟩,_⟩:=I.list h';rw[e] at e';cases e';rw[d] at d';injection d' with d1 _
 have:its=its':=by simpa using congrArg Array.toList d1
 subst this;exact r.inj r'
theorem Inv.tuple_inj(I:Inv X pins σ H s)(h:SqT X.K H a xs)(h':SqT X.K H a ys):xs=ys:=by
 obtain⟨its,r,⟨o,e,_,n,d⟩,_⟩:=I.tuple h;obtain⟨its',r',⟨o',e',_,n',d'⟩,_⟩:=I.tuple h';rw[e] at e';cases e';rw[d] at d';injection d' with d1 _
 have:its=its':=by simpa using congrArg Array.toList d1
 subst this;exact r.inj r'
end
abbrev Cx.wish(X:Cx)(E:Value->Shared->Prop):Cx:={ X with xe:=E }
abbrev Cx.nox(X:Cx):Cx:=X.wish λ _ _=>False
theorem Cx.Ok.wish{X:Cx}(ok:X.Ok)(E:Value->Shared->Prop):(X.wish E).Ok:=
 ⟨ok.mod,ok.kind,ok.glob,ok.blt,ok.above,ok.inj,ok.has,ok.cab,ok.hd,ok.frames,ok.stk,ok.exf,ok.bs,ok.bsz,ok.noex,ok.exfs,ok.funs,ok.frf⟩
theorem Cx.Ok.unwish{X:Cx}{E:Value->Shared->Prop}(ok:(X.wish E).Ok):X.Ok:=
 ⟨ok.mod,ok.kind,ok.glob,ok.blt,ok.above,ok.inj,ok.has,ok.cab,ok.hd,ok.frames,ok.stk,ok.exf,ok.bs,ok.bsz,ok.noex,ok.exfs,ok.funs,ok.frf⟩
section
variable {X:Cx}{pins:List (Addr×Obj)}{σ:St}{H:Hp}{s:Shared}{E:Value->Shared->Prop}
theorem Inv.wish(I:Inv X pins σ H s)(E:Value->Shared->Prop):Inv (X.wish E) pins σ H s:=⟨I.ok.wish E,I.os,I.bare,I.base,I.loc,I.cell,I.free,I.freeC,I.pin,I.hok,I.len⟩
theorem Inv.unwish(I:Inv (X.wish E) pins σ H s):Inv X pins σ H s:=⟨I.ok.unwish,I.os,I.bare,I.base,I.loc,I.cell,I.free,I.freeC,I.pin,I.hok,I.len⟩
theorem SP.unwish{D:Ends}{f:Flow}{s':Shared}(h:SP (X.wish E) pins D f s'):SP X pins D f s':=by
 cases f with
 |next=>obtain⟨σ',H',I,q⟩:=h;exact⟨σ',H',I.unwish,q⟩
 |brk=>obtain⟨σ',H',I,q⟩:=h;exact⟨σ',H',I.unwish,q⟩
 |cont=>obtain⟨σ',H',I,q⟩:=h;exact⟨σ',H',I.unwish,q⟩
 |ret u=>obtain⟨v,σ',H',I,r,q⟩:=h;exact⟨v,σ',H',I.unwish,r,q⟩
theorem PSs.nox{st:List Stmt}{t:TS}(h:PSs X.nox st t):PSs X st t:=λ pins s σ H D I hw =>
 Qq (h pins s σ H D (I.wish _) hw) (λ _ _ q=>q.unwish) λ _ _ z=>False.elim z
end
section
variable {X:Cx}{st:Stmt}{rest:List Stmt}{t u:TS}{e:Expr}{te:TE}{pos:Pos}
def qhX:TS:=λ D σ H=>D.nx σ H
def qiB(t u:TS):TS:=λ D σ H=>t { D with nx:=u D } σ H
theorem yb:PSs X [] qhX:=λ _ _ σ H _ I h=>U0 ⟨σ,H,I,h⟩
theorem qf(h1:PS X st t)(h2:PSs X rest u):PSs X (st::rest) (qiB t u):=by
 intro pins s σ H D I h;refine Ua (thn (h1 pins s σ H { D with nx:=u D } I h) λ f s1 q=>?_);cases f with
 |next =>
  obtain⟨σ',H',I',q⟩:=q;exact h2 pins s1 σ' H' D I' q
 |ret v=>exact q
 |brk=>exact q
 |cont=>exact q
theorem qm(h1:PS X st t):PSs X [st] t:=by
 intro pins s σ H D I h;refine Ua (thn (h1 pins s σ H D I h) λ f s1 q=>?_);cases f with
 |next=>exact U0 q
 |ret v=>exact q
 |brk=>exact q
 |cont=>exact q
theorem Inv.quiet{pins:List (Addr×Obj)}{σ:St}{H:Hp}{s:Shared}(I:Inv X pins σ H s):interactive X.env=false:=by simp[interactive,I.ok.kind]
def qhY(te:TE):TS:=λ D σ H=>te σ H λ _ H1=>D.nx σ H1
theorem ja(he:PE X e te)(hs:swapsWith e none pos.line X.env=pure false:=by rfl):PS X (.Expr e pos) (qhY te):=by
 intro pins s σ H D I h;exact wpAny_Expr_any (thn (he pins s σ H _ I h) λ v s1 ⟨x,H1,I1,r1,q1⟩=>⟨σ,H1,I1,q1⟩) I.quiet hs
def qiC(te:TE):TS:=λ D σ H=>te σ H D.rt
theorem qN(he:PE X e te):PS X (.Return (some e) pos) (qiC te):=by
 intro pins s σ H D I h;exact wpAny_Return_some (thn (he pins s σ H _ I h) λ v s1 ⟨x,H1,I1,r1,q1⟩=>⟨x,σ,H1,I1,r1,q1⟩)
def qiD(c:TT)(t u:TS):TS:=λ D σ H=>c σ H λ b H1=>if b=true then t D σ H1 else u D σ H1
theorem jU{c:Expr}{a b:List Stmt}{tc:TT}(hc:PT X c tc)(ha:PSs X a t)(hb:PSs X b u):PS X (.If c a b pos) (qiD tc t u):=by
 intro pins s σ H D I h;refine wpAny_If (thn (hc pins s σ H _ I h) λ d s1 ⟨H1,I1,q1⟩=>?_);cases d with
 |true=>exact ha pins s1 σ H1 D I1 q1
 |false=>exact hb pins s1 σ H1 D I1 q1
end
abbrev TG:=V->St->Hp->(St->Hp->Prop)->Prop
abbrev TGs:=List V->St->Hp->(St->Hp->Prop)->Prop
def PG(X:Cx)(w5:Expr)(t:TG):Prop:=
 ∀(pins:List (Addr×Obj))(s:Shared)(σ:St)(H:Hp)(v:V)(u:Value)(Q:St->Hp->Prop),Inv X pins σ H s->qF v u->t v σ H Q ->
  wpAny (model X.prog X.w) X.A (assign w5 X.env u) (λ _ s'=>∃ σ' H',Inv X pins σ' H' s'/\Q σ' H') X.xe s
def PGs(X:Cx)(ts:List Expr)(t:TGs):Prop:=
 ∀(pins:List (Addr×Obj))(s:Shared)(σ:St)(H:Hp)(vs:List V)(us:List Value)(Q:St->Hp->Prop),Inv X pins σ H s->qI vs us->t vs σ H Q ->
  wpAny (model X.prog X.w) X.A (assignInOrder ((assignEach ts X.env).map (·.2)) us) (λ _ s'=>∃ σ' H',Inv X pins σ' H' s'/\Q σ' H') X.xe s
section
variable {X:Cx}{pos:Pos}
def qdp(i:Nat):TG:=λ v σ H Q=>Q (σ.set i (some v)) H
theorem qp{i:Nat}{x:Str}(hN:X.N.Nodup)(hi:X.N[i]?=some x)(hx:Loc X.env.scope x)(hf:X.fn x=true∨X.env.scope.names.lookup x=some .local:=by first|exact .inl rfl|exact .inr rfl|assumption):PG X (.Name x pos) (qdp i):=by
 intro pins s σ H v u Q I r h;exact wpAny_assign_Name (kz I hN hi hx r (λ s' I'=>⟨_,H,I',h⟩) hf)
def qiE:TGs:=λ vs σ H Q=>vs=[]/\Q σ H
def qhZ(t:TG)(u:TGs):TGs:=λ vs σ H Q=>∃ v r,vs=v::r/\t v σ H λ σ' H'=>u r σ' H' Q
theorem jb:PGs X [] qiE:=by
 intro pins s σ H vs us Q I r h;obtain⟨e,h⟩:=h;subst e;cases r
 exact assignInOrder_nil ⟨σ,H,I,h⟩
theorem zc{e:Expr}{es:List Expr}{t:TG}{u:TGs}(h1:PG X e t)(h2:PGs X es u)(hs:(assignEach (e::es) X.env).map (·.2)=assign e X.env::(assignEach es X.env).map (·.2):=by rfl):PGs X (e::es) (qhZ t u):=by
 intro pins s σ H vs us Q I r h;obtain⟨v,vr,e1,h⟩:=h;subst e1;cases r with
 |cons r rr =>
  rw[hs];refine assignInOrder_cons (thn (h1 pins s σ H _ _ _ I r h) λ _ s1 ⟨σ1,H1,I1,q1⟩=>?_);exact h2 pins s1 σ1 H1 _ _ Q I1 rr q1
def qiF(K:W.Frag)(n:Nat)(t:TGs):TG:=λ v σ H Q=>∃ a xs,v=.ref a/\SqT K H a xs/\xs.length=n/\t xs σ H Q
theorem qg4{es:List Expr}{k:Nat}{t:TGs}{n:Nat}(hc:X.calm=true)(h:PGs X es t)(hn:(assignEach es X.env).length=n:=by rfl)(t9:(assignEach es X.env).findIdx? (·.1)=none:=by rfl):PG X (.Tuple es k pos) (qiF X.K n t):=by
 intro pins s σ H v u Q I r hw;obtain⟨a,xs,e1,hq,hl,hw⟩:=hw;subst e1;cases r
 obtain⟨its,rv,ht,hz⟩:=I.tuple hq;refine assign_Tuple_tuple (I.ok.hd hc) ht (by simp[hn,<- hl,rv.length]) t9 λ h' hx=>?_
 have I1:Inv X pins σ H { s with heap:=h' }:=I.kept (t':=s.toks) λ b o e=>hx b o (J6 (J5 e)) e
 exact h pins _ σ H xs _ Q I1 (by simpa using rv) hw
def qf2(te:TE)(g:TG):TS:=λ D σ H=>te σ H λ x H1=>g x σ H1 D.nx
theorem qg5{tg e:Expr}{te:TE}{g:TG}(he:PE X e te)(hg:PG X tg g)(hs:swapsWithSole [tg] e pos.line X.env=pure false:=by rfl)(hw:swappedStores [tg] e X.env=pure none:=by rfl)(h1:(assignEach [tg] X.env).map (·.2)=[assign tg X.env]:=by rfl):PS X (.Assign [tg] e pos) (qf2 te g):=by
 intro pins s σ H D I h;refine wpAny_Assign_stores (thn (he pins s σ H _ I h) λ v s1 ⟨x,H1,I1,r1,q1⟩=>?_) hs hw;rw[h1];exact thn (hg pins s1 σ H1 x v _ I1 r1 q1) λ _ s2 q=>q
theorem qt{i:Nat}{x:Str}{e:Expr}{te:TE}{o9:Pos}(hN:X.N.Nodup)(hi:X.N[i]?=some x)(hx:Loc X.env.scope x)(he:PE X e te)(hs:swapsWith e (some (.Name x o9)) pos.line X.env=pure false:=by rfl)(hf:X.fn x=true∨X.env.scope.names.lookup x=some .local:=by first | exact .inl rfl | exact .inr rfl | assumption):
  PS X (.Assign [.Name x o9] e pos) (qf2 te (qdp i)):=by
 intro pins s σ H D I h;refine wpAny_Assign_Name (thn (he pins s σ H _ I h) λ v s1 ⟨y,H1,I1,r1,q1⟩=>?_) hs;exact kz I1 hN hi hx r1 (λ s2 I2=>⟨_,H1,I2,q1⟩) hf
end
structure It where 
 go:Nat->Hp->Prop
 yld:Nat->Hp->V->Hp->Prop
 stop:Nat->Hp->Prop
def yO(X:Cx)(pins:List (Addr×Obj))(H:Hp)(b:Addr):Prop:=
 H b=none/\b≠X.env.locals/\b∉X.fs/\(b∈X.ex∨X.s₀.heap.objs.size<=b)/\(∀ x c,X.env.cells.lookup x=some c->c≠b)/\∀ p∈X.pn++pins,p.1≠b
theorem Inv.fpOk{X:Cx}{pins:List (Addr×Obj)}{σ:St}{H H':Hp}{s:Shared}{b:Addr}(I:Inv X pins σ H s)(hb:s.heap.objs.size<=b)(hn:H' b=none):yO X pins H' b:=by
 refine⟨hn,J9 (Y0 I.lt hb),I.nofs hb,.inr (J7 I.sz hb),λ x c e z=>?_,λ p hp z=>?_⟩
 ·obtain⟨v,q⟩:=I.cell x c e;exact absurd (Y0 q.lt (by rw[z];exact hb)) (Jr _)
 ·exact absurd (Y0 (J5 (I.pin p hp).1) (by rw[z];exact hb)) (Jr _)
structure Turn(P:Program)(w:World)(K:W.Frag)(tg:Expr)(J:It)(fp:List Addr)(it:Addr)(tn:Nat->Heap->Prop):Prop where
 mem:it∈fp
 obj:∀ i h,tn i h->∀ b∈fp,∃ o,h.get? b=some o/\∀ v,o.data≠.cell v
 keep:∀ i h h',tn i h->(∀ b∈fp,∀ o,h.get? b=some o->h'.get? b=some o)->tn i h'
 item:∀(X:Cx),X.prog=P->X.w=w->X.K=K->X.calm=true->∀(i:Nat)(pins:List (Addr×Obj))(s:Shared)(σ:St)(H:Hp)(E:Value->Shared->Prop),Inv X pins σ H s->(∀ b∈fp,yO X pins H b)->tn i s.heap->J.go i H ->
  wpAny (model P w) X.A (pyNext (.ref it)) (λ r s1=>∃ u,r=some u /\
   wpAny (model P w) X.A (letOwnedTupleGo tg (.ref it) u) (λ _ s2=>∃ x H',Inv X pins σ H' s2/\qF x u/\J.yld i H x H'/\tn (i+1) s2.heap/\∀ b∈fp,H' b=none) E s1) E s
 done:∀(X:Cx),X.prog=P->X.w=w->X.K=K->X.calm=true->∀(i:Nat)(pins:List (Addr×Obj))(s:Shared)(σ:St)(H:Hp)(E:Value->Shared->Prop),Inv X pins σ H s->(∀ b∈fp,yO X pins H b)->tn i s.heap->J.stop i H ->
  wpAny (model P w) X.A (pyNext (.ref it)) (λ r s1=>r=none/\Inv X pins σ H s1) E s
 self:∀(A:Around)(i:Nat)(s:Shared)(Q:Value->Shared->Prop)(E:Value->Shared->Prop),tn i s.heap->Q (.ref it) s->wpAny (model P w) A (pyIter (.ref it)) Q E s
abbrev TI:=St->Hp->(It->Hp->Prop)->Prop
def PIE(X:Cx)(pins:List (Addr×Obj))(σ:St)(tg:Expr)(R:It->Hp->Prop)(T6:Value)(s2:Shared):Prop:=
 ∃(it:Addr)(fp:List Addr)(tn:Nat->Heap->Prop)(J:It)(H':Hp),T6=.ref it/\Inv X pins σ H' s2/\Turn X.prog X.w X.K tg J fp it tn/\tn 0 s2.heap/\(∀ b∈fp,yO X pins H' b)/\R J H'
def PI(X:Cx)(tg iter:Expr)(wi:TI):Prop:=
 ∀(pins:List (Addr×Obj))(s:Shared)(σ:St)(H:Hp)(R:It->Hp->Prop),Inv X pins σ H s->wi σ H R ->
  wpAny (model X.prog X.w) X.A (eval iter X.env) (λ v s1=>wpAny (model X.prog X.w) X.A (pyIter v) (PIE X pins σ tg R) X.xe s1) X.xe s
theorem qdq{M:Model}{A:Around}{E:Value->Shared->Prop}{s:Shared}{tg:Expr}{it:Addr}{u:Value}{o:Obj}{n:String}{vs:Array Value}{Q:Unit->Shared->Prop}(ho:s.heap.get? it=some o)(hc:o.cls=.type n)(hd:o.data=.fields vs)(hn:["enumerate","zip","dict_itemiterator","dict_reverseitemiterator","odict_iterator","itertools.zip_longest","itertools.pairwise"].contains n=false)(hQ:Q () s):wpAny M A (letOwnedTupleGo tg (.ref it) u) Q E s:=by
 unfold letOwnedTupleGo;cases tg <;> first
  |exact Qr hQ
  | (cases u <;> first
    |exact Qr hQ
    | (refine Qs (wpAny_load ho ?_)
       rw[hc,hd];show wpAny M A (if (["enumerate","zip","dict_itemiterator","dict_reverseitemiterator","odict_iterator","itertools.zip_longest","itertools.pairwise"].contains n && vs[0]? == some (rawInt _))=true then _ else _) Q E s
       rw[Q8 (by intro h;rw[hn,U7] at h;cases h)];exact Qr hQ))
def Itl(K:W.Frag)(a:Addr):It:=
 ⟨λ i H=>∃ xs x,SqL K H a xs/\xs[i]?=some x,λ i H x H'=>H'=H/\∀ xs,SqL K H a xs->xs[i]?=some x,λ i H=>∃ xs,SqL K H a xs/\xs.length<=i⟩
def Itt(K:W.Frag)(a:Addr):It:=
 ⟨λ i H=>∃ xs x,SqT K H a xs/\xs[i]?=some x,λ i H x H'=>H'=H/\∀ xs,SqT K H a xs->xs[i]?=some x,λ i H=>∃ xs,SqT K H a xs/\xs.length<=i⟩
def Itr(lo:Int)(n:Nat):It:=⟨λ i _=>i<n,λ i H x H'=>H'=H/\x=.int (lo+i),λ i _=>n<=i⟩
theorem qdR{P:Program}{w:World}{K:W.Frag}{tg:Expr}(a it:Addr):Turn P w K tg (Itl K a) [it] it (λ i h=>h.IsListIter it a i) where
 mem:=by simp
 obj:=λ i h st b hb=>by
  have e:b=it:=by simpa using hb
  subst e;obtain⟨o,e,c,d⟩:=st;exact⟨o,e,λ v z=>by rw[d] at z;cases z⟩
 keep:=λ i h h' st k=>st.at λ o e=>k it (by simp) o e
 item:=by
  intro X hP hw hK hc i pins s σ H E I hf st hg;subst hP hw hK;obtain⟨xs,x,hq,hx⟩:=hg;obtain⟨its,rv,p,hz⟩:=I.list hq;obtain⟨u,hu,ru⟩:=rv.get hx;obtain⟨f0,f1,f2,f3,f4,f5⟩:=hf it (by simp);refine wpAny_pyNext_list_item st p.isList (x:=u) (by simpa using hu) λ h' b0 sb=>?_
  have I1:Inv X pins σ H { s with heap:=h' }:=I.turned (t':=s.toks) (λ b o hb e=>(sb.2 b hb).trans e) f0 f1 f3 f4 f5;obtain⟨o,e,c,d⟩:=id b0;exact⟨u,rfl,qdq (s:={ s with heap:=h' }) e c d (by decide) ⟨x,H,I1,ru,⟨rfl,λ ys hy=>by rw[I.list_inj hy hq];exact hx⟩,b0,λ b hb=>(hf b hb).1⟩⟩
 done:=by
  intro X hP hw hK hc i pins s σ H E I hf st hg;subst hP hw hK;obtain⟨xs,hq,hx⟩:=hg;obtain⟨its,rv,p,hz⟩:=I.list hq;obtain⟨f0,f1,f2,f3,f4,f5⟩:=hf it (by simp);have hl:=rv.length;exact wpAny_pyNext_list_end (I.ok.hd hc) st p.isList (by simp;omega) λ h' eb=>⟨rfl,I.turned (t':=s.toks) (λ b o hb e=>eb b o hb e) f0 f1 f3 f4 f5⟩
 self:=λ _ _ _ _ _ st h=>wpAny_pyIter_listiter st h
theorem qcG{P:Program}{w:World}{K:W.Frag}{tg:Expr}(a it:Addr):Turn P w K tg (Itt K a) [it] it (λ i h=>h.IsTupleIter it a i) where
 mem:=by simp
 obj:=λ i h st b hb=>by
  have e:b=it:=by simpa using hb
  subst e;obtain⟨o,e,c,d⟩:=st;exact⟨o,e,λ v z=>by rw[d] at z;cases z⟩
 keep:=λ i h h' st k=>st.at λ o e=>k it (by simp) o e
 item:=by
  intro X hP hw hK hc i pins s σ H E I hf st hg;subst hP hw hK;obtain⟨xs,x,hq,hx⟩:=hg;obtain⟨its,rv,p,hz⟩:=I.tuple hq;obtain⟨u,hu,ru⟩:=rv.get hx;obtain⟨f0,f1,f2,f3,f4,f5⟩:=hf it (by simp);refine wpAny_pyNext_tuple_item st (show s.heap.IsTuple a its.toArray from p) (x:=u) (by simpa using hu) λ h' b0 sb=>?_
  have I1:Inv X pins σ H { s with heap:=h' }:=I.turned (t':=s.toks) (λ b o hb e=>(sb.2 b hb).trans e) f0 f1 f3 f4 f5;obtain⟨o,e,c,d⟩:=id b0;exact⟨u,rfl,qdq (s:={ s with heap:=h' }) e c d (by decide) ⟨x,H,I1,ru,⟨rfl,λ ys hy=>by rw[I.tuple_inj hy hq];exact hx⟩,b0,λ b hb=>(hf b hb).1⟩⟩
 done:=by
  intro X hP hw hK hc i pins s σ H E I hf st hg;subst hP hw hK;obtain⟨xs,hq,hx⟩:=hg;obtain⟨its,rv,p,hz⟩:=I.tuple hq;obtain⟨f0,f1,f2,f3,f4,f5⟩:=hf it (by simp);have hl:=rv.length;exact wpAny_pyNext_tuple_end (I.ok.hd hc) st (show s.heap.IsTuple a its.toArray from p) (by simp;omega) λ h' eb=>⟨rfl,I.turned (t':=s.toks) (λ b o hb e=>eb b o hb e) f0 f1 f3 f4 f5⟩
 self:=λ _ _ _ _ _ st h=>wpAny_pyIter_tupleiter st h
theorem qcH{P:Program}{w:World}{K:W.Frag}{tg:Expr}(it:Addr)(lo:Int)(n:Nat):Turn P w K tg (Itr lo n) [it] it (λ i h=>IsRangeIter h it (lo+(i:Nat)*1) ((n:Int)-(i:Nat)) 1) where
 mem:=by simp
 obj:=λ i h st b hb=>by
  have e:b=it:=by simpa using hb
  subst e;exact⟨_,st,λ v z=>by
   have z':Data.fields _=Data.cell v:=z;cases z'⟩
 keep:=λ i h h' st k=>k it (by simp) _ st
 item:=by
  intro X hP hw hK hc i pins s σ H E I hf st hg;subst hP hw hK;obtain⟨f0,f1,f2,f3,f4,f5⟩:=hf it (by simp);have W:=Walks.range (prog:=X.prog) (w:=X.w) (I.ok.hd hc) it lo 1 n;refine W.item i s _ _ hg st λ v h' tk hv b0 kk=>?_
  obtain⟨t,rfl⟩:=hv;have I1:Inv X pins σ H { s with heap:=h',toks:=tk }:=I.turned (λ b o hb e=>kk b o (by simpa using hb) e) f0 f1 f3 f4 f5;refine⟨_,rfl,qdq (s:={ s with heap:=h',toks:=tk }) (n:="range_iterator") b0 rfl rfl (by decide) ⟨.int (lo+i),H,I1,⟨t,?_⟩,⟨rfl,rfl⟩,b0,λ b hb=>(hf b hb).1⟩⟩;rw[Int.mul_one]
 done:=by
  intro X hP hw hK hc i pins s σ H E I hf st hg;subst hP hw hK;obtain⟨f0,f1,f2,f3,f4,f5⟩:=hf it (by simp);exact wpAny_pyNext_range_end (I.ok.hd hc) st (by have:n<=i:=hg;omega) λ h' eb=>⟨rfl,I.turned (t':=s.toks) (λ b o hb e=>eb b o hb e) f0 f1 f3 f4 f5⟩
 self:=λ _ _ _ _ _ st h=>wpAny_pyIter_rangeiter st h
section
variable {X:Cx}{tg:Expr}
def qh0(K:W.Frag)(tl:TE):TI:=λ σ H R=>tl σ H λ x H1=>∃ a,x=.ref a/\(∃ xs,SqL K H1 a xs)/\R (Itl K a) H1
def qiG(K:W.Frag)(tl:TE):TI:=λ σ H R=>tl σ H λ x H1=>∃ a,x=.ref a/\(∃ xs,SqT K H1 a xs)/\R (Itt K a) H1
theorem yP{l:Expr}{tl:TE}(hl:PE X l tl):PI X tg l (qh0 X.K tl):=by
 intro pins s σ H R I h;refine thn (hl pins s σ H _ I h) λ v s1 ⟨x,H1,I1,r1,q1⟩=>?_
 obtain⟨a,e,⟨xs,hq⟩,q⟩:=q1;subst e;cases r1
 obtain⟨its,rv,p,hz⟩:=I1.list hq;refine Zt p.isList ?_;refine⟨s1.heap.objs.size,[s1.heap.objs.size],_,_,H1,rfl,I1.kept (t':=s1.toks) λ b o e=>X9 _ e,qdR a _,⟨_,Yn _ rfl,rfl,rfl⟩,λ b hb=>?_,q⟩;have e:b=s1.heap.objs.size:=by simpa using hb
 subst e;exact I1.fpOk (Ql _) (I1.hok.fresh (Ql _))
theorem qeF{l:Expr}{tl:TE}(hl:PE X l tl):PI X tg l (qiG X.K tl):=by
 intro pins s σ H R I h;refine thn (hl pins s σ H _ I h) λ v s1 ⟨x,H1,I1,r1,q1⟩=>?_
 obtain⟨a,e,⟨xs,hq⟩,q⟩:=q1;subst e;cases r1
 obtain⟨its,rv,p,hz⟩:=I1.tuple hq;refine wpAny_pyIter_tuple (show s1.heap.IsTuple a its.toArray from p) ?_;refine⟨s1.heap.objs.size,[s1.heap.objs.size],_,_,H1,rfl,I1.kept (t':=s1.toks) λ b o e=>X9 _ e,qcG a _,⟨_,Yn _ rfl,rfl,rfl⟩,λ b hb=>?_,q⟩;have e:b=s1.heap.objs.size:=by simpa using hb
 subst e;exact I1.fpOk (Ql _) (I1.hok.fresh (Ql _))
theorem qeG{pins:List (Addr×Obj)}{σ:St}{H:Hp}{s:Shared}{R:It->Hp->Prop}{E:Value->Shared->Prop}{lo hi:Int}{t u v:Tok}{tk:Nat}(I:Inv X pins σ H s)(h1:-(2^62)<=lo)(h2:lo<2^62)(h3:-(2^62)<=hi)(h4:hi<2^62)(q:R (Itr lo (hi-lo).toNat) H):wpAny (model X.prog X.w) X.A (pyIter (.ref s.heap.objs.size)) (PIE X pins σ tg R) E { s with heap:=s.heap.push { cls:=.type "range",data:=.fields #[.int lo t,.int hi u,.int 1 v] },toks:=tk }:=by
 refine wpAny_pyIter_range (IsRange.new ..) (small_one h1 h2 h3 h4) ?_;have I1:Inv X pins σ H { s with heap:=s.heap.push { cls:=.type "range",data:=.fields #[.int lo t,.int hi u,.int 1 v] },toks:=tk }:=I.kept λ b o e=>X9 _ e
 refine⟨(s.heap.push { cls:=.type "range",data:=.fields #[.int lo t,.int hi u,.int 1 v] }).objs.size,[(s.heap.push { cls:=.type "range",data:=.fields #[.int lo t,.int hi u,.int 1 v] }).objs.size],_,_,H,rfl,
  I1.kept (t':=tk) λ b o e=>X9 _ e,qcH _ lo (hi-lo).toNat,?_,λ b hb=>?_,q⟩
 ·have e1:lo+((0:Nat):Int)*1=lo:=by simp
  have e2:(((hi-lo).toNat:Nat):Int)-((0:Nat):Int)=Builtin.Range.rangeSize lo hi 1:=by rw[rangeSize_one];split <;> omega
  show IsRangeIter _ _ (lo+((0:Nat):Int)*1) ((((hi-lo).toNat:Nat):Int)-((0:Nat):Int)) 1
  rw[e1,e2];exact Yn _ rfl
 ·have e:b=(s.heap.push { cls:=.type "range",data:=.fields #[.int lo t,.int hi u,.int 1 v] }).objs.size:=by simpa using hb
  subst e;exact I1.fpOk (Ql _) (I1.hok.fresh (Ql _))
def qh1(ta:TA):TI:=λ σ H R=>ta σ H λ vs H1=>∃ j:Int,vs=[.int j]/\-(2^62)<=j/\j<2^62/\R (Itr 0 j.toNat) H1
theorem zy{a:Expr}{ta:TA}{p pos:Pos}(hg:Gl X "range")(hm:X.mg "range"=none)(ha:PA X [a] ta)(hs:starEach [a] X.env=[(false,eval a X.env)]:=by rfl):PI X tg (.Call (.Name "range" p) [a] [] pos) (qh1 ta):=by
 intro pins s σ H R I h;refine Call_ (y9 I hg hm boot_range (Xd (thn (ha pos pins s σ H _ I h) λ us s1 ⟨vs,H1,I1,r1,q1⟩=>?_) hs rfl));obtain⟨j,e,q1,q2,q⟩:=q1;subst e;cases r1 with
 |cons r rr =>
  cases rr
  obtain⟨t,rfl⟩:=r;exact call_range_1 (qeG I1 (by omega) (by omega) q1 q2 (by simpa using q))
def qiH(wi:TI)(g:TG)(tb:TS):TS:=λ D σ H=>wi σ H λ J H1=>∃ W:Nat->Nat->St->Hp->Prop,(∃ m,W 0 m σ H1)/\∀ i m σ H,W i m σ H ->
 (J.stop i H/\D.nx σ H)∨(J.go i H/\∃ N:St->Hp->Prop,(∀ σ' H',N σ' H'->∃ m',m'<m/\W (i+1) m' σ' H')/\∀ x H',J.yld i H x H'->g x σ H' λ σ2 H2=>tb { D with nx:=N,ct:=N,bk:=D.nx } σ2 H2)
def jZ(fp:List Addr)(h:Heap):List (Addr×Obj):=fp.filterMap λ b=>(h.get? b).map λ o=>(b,o)
theorem zT{fp:List Addr}{h:Heap}{b:Addr}{o:Obj}(hb:b∈fp)(e:h.get? b=some o):(b,o)∈jZ fp h:=List.mem_filterMap.mpr ⟨b,hb,by rw[e];rfl⟩
theorem qdS{fp:List Addr}{h:Heap}{p:Addr×Obj}(hp:p∈jZ fp h):p.1∈fp/\h.get? p.1=some p.2:=by
 obtain⟨b,hb,e⟩:=List.mem_filterMap.mp hp;cases q:h.get? b with
 |none=>rw[q] at e;cases e
 |some o =>
  rw[q] at e;have e':(b,o)=p:=Option.some.inj e;subst e';exact⟨hb,q⟩
theorem Inv.pinned{pins:List (Addr×Obj)}{σ:St}{H:Hp}{s:Shared}{fp:List Addr}(I:Inv X pins σ H s)(hf:∀ b∈fp,yO X pins H b)(ho:∀ b∈fp,∃ o,s.heap.get? b=some o/\∀ v,o.data≠.cell v):Inv X (pins++jZ fp s.heap) σ H s:=
 I.pins_of λ p hp=>(Ug.mp hp).elim (λ z=>I.pin p (XH _ z)) λ z=>by
  obtain⟨hb,e⟩:=qdS z;obtain⟨f0,f1,f2,_⟩:=hf p.1 hb;obtain⟨o,e',d⟩:=ho p.1 hb;rw[e] at e';cases e';exact⟨e,f0,f1,f2,d⟩
theorem Inv.unpinned{pins pl:List (Addr×Obj)}{σ:St}{H:Hp}{s:Shared}(I:Inv X (pins++pl) σ H s):Inv X pins σ H s:=I.pins_of λ p hp=>I.pin p (XH _ (Yb _ hp))
theorem yA{iter:Expr}{body:List Stmt}{wi:TI}{g:TG}{tb:TS}{pos:Pos}(hp:PassesOwn (model X.prog X.w) X.A X.env X.xe)(hc:X.calm=true)(hi:PI X tg iter wi)(hg:PG X tg g)(hb:PSs X body tb)(hs:∀ x,foldedSetIterable iter X.env x=pure x:=by intro _;rfl):PS X (.For tg iter body [] pos) (qiH wi g tb):=by
 intro pins s σ H D I h;refine wpAny_For (thn (hi pins s σ H _ I h) λ v s1 h1=>thn h1 λ T6 s2 h2=>?_) hs;obtain⟨it,fp,tn,J,H2,e,I2,T,d9,f2,W,⟨m0,w0⟩,n5⟩:=h2;subst e;have G3:∀{H':Hp},(∀ b∈fp,H' b=none)->∀ b∈fp,yO X pins H' b:=λ hn b hb=>⟨hn b hb,(f2 b hb).2⟩
 refine codeAny_forLoop_any (λ n s'=>∃ i σ' H',Inv X pins σ' H' s'/\tn i s'.heap/\(∀ b∈fp,H' b=none)/\W i n σ' H') ?_ m0 ⟨0,σ,H2,I2,d9,λ b hb=>(f2 b hb).1,w0⟩;rintro n s3 ⟨i,σ3,H3,I3,B3,aP,w3⟩;rcases n5 i n σ3 H3 w3 with⟨stop,qn⟩|⟨go,N,hN,step⟩
 ·refine U1 hp (thn (T.done X rfl rfl rfl hc i pins s3 σ3 H3 X.xe I3 (G3 aP) B3 stop) λ r s4 ⟨hr,I4⟩=>?_);subst hr;exact U0 ⟨σ3,H3,I4,qn⟩
 ·refine U1 hp (thn (T.item X rfl rfl rfl hc i pins s3 σ3 H3 X.xe I3 (G3 aP) B3 go) λ r s4 ⟨u,hr,h4⟩=>?_);subst hr;refine U1 hp (thn h4 λ _ s5 ⟨x,H5,I5,r5,y5,G4,cC⟩=>?_);have I5':=I5.pinned (G3 cC) (T.obj _ _ G4);refine U1 hp (thn (hg _ s5 σ3 H5 x u _ I5' r5 (step x H5 y5)) λ _ s6 ⟨σ6,H6,I6,q6⟩=>?_);refine U1 hp (thn (hb _ s6 σ6 H6 _ I6 q6) λ f s7 q7=>?_);have again:∀{σ7:St}{H7:Hp},Inv X (pins++jZ fp s5.heap) σ7 H7 s7->N σ7 H7->∃ m,m<n/\∃ i σ' H',Inv X pins σ' H' s7/\tn i s7.heap/\(∀ b∈fp,H' b=none)/\W i m σ' H':=λ{σ7 H7} I7 n7=>by
   obtain⟨m',hm,w7⟩:=hN σ7 H7 n7;refine⟨m',hm,i+1,σ7,H7,I7.unpinned,T.keep _ _ _ G4 λ b hb o e=>(I7.pin (b,o) (XH _ (XH _ (zT hb e)))).1,λ b hb=>?_,w7⟩;obtain⟨o,e,d⟩:=T.obj _ _ G4 b hb;exact(I7.pin (b,o) (XH _ (XH _ (zT hb e)))).2.1
  cases f with
  |next=>obtain⟨σ7,H7,I7,n7⟩:=q7;exact again I7 n7
  |cont=>obtain⟨σ7,H7,I7,n7⟩:=q7;exact again I7 n7
  |brk=>obtain⟨σ7,H7,I7,q7⟩:=q7;exact⟨σ7,H7,I7.unpinned,q7⟩
  |ret v=>obtain⟨x7,σ7,H7,I7,r7,q7⟩:=q7;exact⟨x7,σ7,H7,I7.unpinned,r7,q7⟩
end
theorem kA{K:W.Frag}{a:Addr}{xs:List V}{g:TG}{tb:TS}{D:Ends}{σ:St}{H:Hp}(Pv:Nat->St->Hp->Prop)(h0:Pv 0 σ H)(hl:∀ i σ H,i<=xs.length->Pv i σ H->SqL K H a xs)(hs:∀ i x σ H,xs[i]?=some x->Pv i σ H->g x σ H λ σ2 H2=>tb { D with nx:=Pv (i+1),ct:=Pv (i+1),bk:=D.nx } σ2 H2)(hd:∀ σ H,Pv xs.length σ H->D.nx σ H):
  ∃ W:Nat->Nat->St->Hp->Prop,(∃ m,W 0 m σ H)/\∀ i m σ H,W i m σ H ->
   ((Itl K a).stop i H/\D.nx σ H)∨((Itl K a).go i H/\∃ N:St->Hp->Prop,(∀ σ' H',N σ' H'->∃ m',m'<m/\W (i+1) m' σ' H')/\∀ x H',(Itl K a).yld i H x H'->g x σ H' λ σ2 H2=>tb { D with nx:=N,ct:=N,bk:=D.nx } σ2 H2):=by
 refine⟨λ i m σ H=>m=xs.length-i/\i<=xs.length/\Pv i σ H,⟨xs.length,by simp,Qm _,h0⟩,?_⟩;rintro i m σ H ⟨rfl,hi,p⟩;have q:=hl i σ H hi p;by_cases d4:i<xs.length
 ·refine .inr ⟨⟨xs,xs[i],q,by simp[d4]⟩,Pv (i+1),λ σ' H' p'=>⟨xs.length-(i+1),by omega,rfl,d4,p'⟩,λ x H' y=>?_⟩;obtain⟨e,y⟩:=y;subst e;exact hs i x σ _ (y xs q) p
 ·have e:i=xs.length:=by omega
  subst e;exact .inl ⟨⟨xs,q,Ql _⟩,hd σ H p⟩
theorem qf3{K:W.Frag}{a:Addr}{xs:List V}{g:TG}{tb:TS}{D:Ends}{σ:St}{H:Hp}(Pv:Nat->St->Hp->Prop)(h0:Pv 0 σ H)(hl:∀ i σ H,i<=xs.length->Pv i σ H->SqT K H a xs)(hs:∀ i x σ H,xs[i]?=some x->Pv i σ H->g x σ H λ σ2 H2=>tb { D with nx:=Pv (i+1),ct:=Pv (i+1),bk:=D.nx } σ2 H2)(hd:∀ σ H,Pv xs.length σ H->D.nx σ H):
  ∃ W:Nat->Nat->St->Hp->Prop,(∃ m,W 0 m σ H)/\∀ i m σ H,W i m σ H ->
   ((Itt K a).stop i H/\D.nx σ H)∨((Itt K a).go i H/\∃ N:St->Hp->Prop,(∀ σ' H',N σ' H'->∃ m',m'<m/\W (i+1) m' σ' H')/\∀ x H',(Itt K a).yld i H x H'->g x σ H' λ σ2 H2=>tb { D with nx:=N,ct:=N,bk:=D.nx } σ2 H2):=by
 refine⟨λ i m σ H=>m=xs.length-i/\i<=xs.length/\Pv i σ H,⟨xs.length,by simp,Qm _,h0⟩,?_⟩;rintro i m σ H ⟨rfl,hi,p⟩;have q:=hl i σ H hi p;by_cases d4:i<xs.length
 ·refine .inr ⟨⟨xs,xs[i],q,by simp[d4]⟩,Pv (i+1),λ σ' H' p'=>⟨xs.length-(i+1),by omega,rfl,d4,p'⟩,λ x H' y=>?_⟩;obtain⟨e,y⟩:=y;subst e;exact hs i x σ _ (y xs q) p
 ·have e:i=xs.length:=by omega
  subst e;exact .inl ⟨⟨xs,q,Ql _⟩,hd σ H p⟩
theorem yr{lo:Int}{n:Nat}{g:TG}{tb:TS}{D:Ends}{σ:St}{H:Hp}(Pv:Nat->St->Hp->Prop)(h0:Pv 0 σ H)(hs:∀ i σ H,i<n->Pv i σ H->g (.int (lo+i)) σ H λ σ2 H2=>tb { D with nx:=Pv (i+1),ct:=Pv (i+1),bk:=D.nx } σ2 H2)(hd:∀ σ H,Pv n σ H->D.nx σ H):
  ∃ W:Nat->Nat->St->Hp->Prop,(∃ m,W 0 m σ H)/\∀ i m σ H,W i m σ H ->
   ((Itr lo n).stop i H/\D.nx σ H)∨((Itr lo n).go i H/\∃ N:St->Hp->Prop,(∀ σ' H',N σ' H'->∃ m',m'<m/\W (i+1) m' σ' H')/\∀ x H',(Itr lo n).yld i H x H'->g x σ H' λ σ2 H2=>tb { D with nx:=N,ct:=N,bk:=D.nx } σ2 H2):=by
 refine⟨λ i m σ H=>m=n-i/\i<=n/\Pv i σ H,⟨n,by simp,Qm _,h0⟩,?_⟩;rintro i m σ H ⟨rfl,hi,p⟩;by_cases d4:i<n
 ·refine .inr ⟨d4,Pv (i+1),λ σ' H' p'=>⟨n-(i+1),by omega,rfl,d4,p'⟩,λ x H' y=>?_⟩;obtain⟨e,y⟩:=y;subst e y;exact hs i σ _ d4 p
 ·have e:i=n:=by omega
  subst e;exact .inl ⟨Ql _,hd σ H p⟩
abbrev R2:=V->V->Hp->VK->Prop
def OpR(X:Cx)(f:Value->Value->Sem Value)(r:R2):Prop:=
 ∀(pins:List (Addr×Obj))(s:Shared)(σ:St)(H:Hp)(x y:V)(v u:Value)(Q:VK),Inv X pins σ H s->qF x v->qF y u->r x y H Q ->
  wpAny (model X.prog X.w) X.A (f v u) (EP X pins σ Q) X.xe s
def yB(X:Cx)(f:Value)(r:List V->Hp->VK->Prop):Prop:=
 ∀(pins:List (Addr×Obj))(s:Shared)(σ:St)(H:Hp)(xs:List V)(us:List Value)(Q:VK),Inv X pins σ H s->qI xs us->r xs H Q ->
  wpAny (model X.prog X.w) X.A (call f us) (EP X pins σ Q) X.xe s
def tOp(r:R2)(ta tb:TE):TE:=λ σ H Q=>ta σ H λ x H1=>tb σ H1 λ y H2=>r x y H2 Q
def rI(C:Int->Int->Prop)(g:Int->Int->V):R2:=λ x y H Q=>∃ i j,x=.int i/\y=.int j/\C i j/\Q (g i j) H
def rI0(g:Int->Int->V):R2:=λ x y H Q=>∃ i j,x=.int i/\y=.int j/\Q (g i j) H
section
variable {X:Cx}{a b c:Expr}{ta tb tc:TE}{pos:Pos}
theorem qg6(ha:PE X a ta)(hb:PE X b tb){pins:List (Addr×Obj)}{s:Shared}{σ:St}{H:Hp}{R:V->V->Hp->Prop}(I:Inv X pins σ H s)(h:ta σ H λ x H1=>tb σ H1 λ y H2=>R x y H2){Q:Value->Shared->Prop}{f:Value->Value->Sem Value}(hf:∀ v u s2 x y H2,Inv X pins σ H2 s2->qF x v->qF y u->R x y H2->wpAny (model X.prog X.w) X.A (f v u) Q X.xe s2):
  wpAny (model X.prog X.w) X.A (eval a X.env) (λ v s₁=>wpAny (model X.prog X.w) X.A (eval b X.env) (λ u s₂=>wpAny (model X.prog X.w) X.A (f v u) Q X.xe s₂) X.xe s₁) X.xe s:=by
 refine thn (ha pins s σ H _ I h) λ v s1 ⟨x,H1,I1,r1,q1⟩=>?_
 refine thn (hb pins s1 σ H1 _ I1 q1) λ u s2 ⟨y,H2,I2,r2,q2⟩=>?_
 exact hf v u s2 x y H2 I2 r1 r2 q2
theorem qx{op:Operator}{r:R2}(ho:OpR X (binaryOp op) r)(ha:PE X a ta)(hb:PE X b tb):PE X (.BinOp a op b pos) (tOp r ta tb):=by
 intro pins s σ H Q I h;exact wpAny_BinOp (qg6 ha hb I h λ v u s2 x y H2 I2 rx ry q=>ho pins s2 σ H2 x y v u Q I2 rx ry q)
theorem opI{f:Value->Value->Sem Value}{C:Int->Int->Prop}{g:Int->Int->Int}(rule:∀(i j:Int)(t u:Tok)(s:Shared)(Q:Value->Shared->Prop)(E:Value->Shared->Prop),C i j->Q (.int (g i j) s.toks) { s with toks:=s.toks+1 }->wpAny (model X.prog X.w) X.A (f (.int i t) (.int j u)) Q E s):
  OpR X f (rI C λ i j=>.int (g i j)):=by
 intro pins s σ H x y v u Q I rx ry h;obtain⟨i,j,rfl,rfl,hc,q⟩:=h;obtain⟨t,rfl⟩:=rx;obtain⟨t',rfl⟩:=ry;exact rule i j t t' s _ _ hc ⟨.int (g i j),H,I.tok _,⟨_,rfl⟩,q⟩
theorem qg7{f:Value->Value->Sem Value}{g:Int->Int->Int}(rule:∀(i j:Int)(t u:Tok)(s:Shared)(Q:Value->Shared->Prop)(E:Value->Shared->Prop),Q (.int (g i j) s.toks) { s with toks:=s.toks+1 }->wpAny (model X.prog X.w) X.A (f (.int i t) (.int j u)) Q E s):
  OpR X f (rI0 λ i j=>.int (g i j)):=by
 intro pins s σ H x y v u Q I rx ry h;obtain⟨i,j,rfl,rfl,q⟩:=h;obtain⟨t,rfl⟩:=rx;obtain⟨t',rfl⟩:=ry;exact rule i j t t' s _ _ ⟨.int (g i j),H,I.tok _,⟨_,rfl⟩,q⟩
theorem qiI{f:Value->Value->Sem Value}{g:Int->Int->Bool}(rule:∀(i j:Int)(t u:Tok)(s:Shared)(Q:Value->Shared->Prop)(E:Value->Shared->Prop),Q (.bool (g i j)) s->wpAny (model X.prog X.w) X.A (f (.int i t) (.int j u)) Q E s):
  OpR X f (rI0 λ i j=>.bl (g i j)):=by
 intro pins s σ H x y v u Q I rx ry h;obtain⟨i,j,rfl,rfl,q⟩:=h;obtain⟨t,rfl⟩:=rx;obtain⟨t',rfl⟩:=ry;exact rule i j t t' s _ _ ⟨.bl (g i j),H,I,rfl,q⟩
def qh2(i j:Int):Prop:=0<j/\j<1073741824
def qg8(i j:Int):Prop:=(-(2^64)<i/\i<2^64)∨(-(2^64)<j/\j<2^64)
theorem qg8.ok{i j:Int}(h:qg8 i j):IntMulOk i j:=by
 rcases h with⟨h1,h2⟩|⟨h1,h2⟩
 ·exact .of_left (intBits_le_64 h1 h2)
 ·exact .of_right (intBits_le_64 h1 h2)
theorem yC:OpR X (binaryOp .Add) (rI0 λ i j=>.int (i+j)):=qg7 λ _ _ _ _ _ _ _ q=>add_int q
theorem qg9:OpR X (binaryOp .Sub) (rI0 λ i j=>.int (i-j)):=qg7 λ _ _ _ _ _ _ _ q=>sub_int q
theorem j0:OpR X (binaryOp .Mult) (rI qg8 λ i j=>.int (i*j)):=opI λ _ _ _ _ _ _ _ hc q=>mul_int q hc.ok
theorem jc:OpR X (binaryOp .FloorDiv) (rI qh2 λ i j=>.int (i / j)):=opI λ i j _ _ _ _ _ hc q=>by
 have h1:(0:Int)<j:=hc.1;have h2:j<1073741824:=hc.2;exact floordiv_int (by omega) (by rw[Int.fdiv_eq_ediv_of_nonneg i (by omega)];exact q) (.inl (PyProof.noPylong_small (by omega)))
theorem zr:OpR X (binaryOp .Mod) (rI (λ _ j=>0<j) λ i j=>.int (i % j)):=opI λ i j _ _ _ _ _ hc q=>by
 have h1:(0:Int)<j:=hc;exact mod_int' (by omega) (by rw[Int.fmod_eq_emod_of_nonneg i (by omega)];exact q)
theorem qha:OpR X (binaryOp .BitAnd) (rI0 λ i j=>.int (Builtin.bitAnd i j)):=qg7 λ _ _ _ _ _ _ _ q=>and_int q
end
def qh3:V->V->Bool
 |.non,.non=>true|.non,.int _=>true|.int _,.non=>true|.non,.bl _=>true|.bl _,.non=>true|.non,.str _=>true|.str _,.non=>true
 |.int _,.int _=>true|.bl _,.bl _=>true|.str _,.str _=>true|.byt _,.byt _=>true
 |.int _,.str _=>true|.str _,.int _=>true|.bl _,.str _=>true|.str _,.bl _=>true
 |_,_=>false
def rEq:R2:=λ x y H Q=>qh3 x y=true/\Q (.bl (decide (x=y))) H
def rNe:R2:=λ x y H Q=>qh3 x y=true/\Q (.bl (!decide (x=y))) H
theorem qdr{i j:Int}:decide (V.int i=V.int j)=(i == j):=by
 rw[Uh];simp
theorem qeH{i j:Bool}:decide (V.bl i=V.bl j)=(i == j):=by
 rw[Uh];simp
theorem qds{i j:Str}:decide (V.str i=V.str j)=(i == j):=by
 rw[Uh];simp
theorem qdt{i j:Array UInt8}:decide (V.byt i=V.byt j)=(i.toList == j.toList):=by
 rw[Uh];cases i
 cases j
 simp
section
variable {X:Cx}{a b c:Expr}{ta tb tc:TE}{pos:Pos}
theorem qK{pins:List (Addr×Obj)}{σ:St}{H:Hp}{s:Shared}{Q:VK}{k k':Bool}(I:Inv X pins σ H s)(q:Q (.bl k) H)(e:k=k'):EP X pins σ Q (.bool k') s:=by
 subst e;exact⟨.bl k,H,I,rfl,q⟩
theorem vd:OpR X (compareOp .Eq) rEq:=by
 intro pins s σ H x y v u Q I rx ry h;obtain⟨hs,q⟩:=h;cases x with
 |non =>
  cases rx
  cases y with
  |non=>cases ry;exact PySem.EqNone.eq_none_none (qK I q (by simp))
  |bl j=>cases ry;exact PySem.EqNone.eq_none_bool (qK I q (by simp))
  |int j=>obtain⟨t',rfl⟩:=ry;exact PySem.EqNone.eq_none_int (qK I q (by simp))
  |str j=>obtain⟨t',rfl⟩:=ry;exact PySem.EqNone.eq_none_str (qK I q (by simp))
  |_=>exact absurd (show false=true from hs) Y2
 |bl i =>
  cases rx
  cases y with
  |non=>cases ry;exact PySem.EqNone.eq_bool_none (qK I q (by simp))
  |bl j=>cases ry;exact eq_bool (qK I q qeH)
  |str j=>obtain⟨t',rfl⟩:=ry;exact PySem.EqMixed.eq_bool_str (qK I q (by simp))
  |_=>exact absurd (show false=true from hs) Y2
 |int i =>
  obtain⟨t,rfl⟩:=rx;cases y with
  |non=>cases ry;exact PySem.EqNone.eq_int_none (qK I q (by simp))
  |int j=>obtain⟨t',rfl⟩:=ry;exact eq_int (qK I q qdr)
  |str j=>obtain⟨t',rfl⟩:=ry;exact PySem.EqMixed.eq_int_str (qK I q (by simp))
  |_=>exact absurd (show false=true from hs) Y2
 |str i =>
  obtain⟨t,rfl⟩:=rx;cases y with
  |non=>cases ry;exact PySem.EqNone.eq_str_none (qK I q (by simp))
  |bl j=>cases ry;exact PySem.EqMixed.eq_str_bool (qK I q (by simp))
  |int j=>obtain⟨t',rfl⟩:=ry;exact PySem.EqMixed.eq_str_int (qK I q (by simp))
  |str j=>obtain⟨t',rfl⟩:=ry;exact eq_str (qK I q qds)
  |_=>exact absurd (show false=true from hs) Y2
 |byt i =>
  obtain⟨t,rfl⟩:=rx;cases y with
  |byt j=>obtain⟨t',rfl⟩:=ry;exact W.eq_bytes (qK I q qdt)
  |_=>exact absurd (show false=true from hs) Y2
 |_=>cases y <;> exact absurd (show false=true from hs) Y2
theorem qgQ:OpR X (compareOp .NotEq) rNe:=by
 intro pins s σ H x y v u Q I rx ry h;obtain⟨hs,q⟩:=h;cases x with
 |non =>
  cases rx
  cases y with
  |non=>cases ry;exact PySem.EqNone.ne_none_none (qK I q (by simp))
  |bl j=>cases ry;exact PySem.EqNone.ne_none_bool (qK I q (by simp))
  |int j=>obtain⟨t',rfl⟩:=ry;exact PySem.EqNone.ne_none_int (qK I q (by simp))
  |str j=>obtain⟨t',rfl⟩:=ry;exact PySem.EqNone.ne_none_str (qK I q (by simp))
  |_=>exact absurd (show false=true from hs) Y2
 |bl i =>
  cases rx
  cases y with
  |non=>cases ry;exact PySem.EqNone.ne_bool_none (qK I q (by simp))
  |bl j=>cases ry;exact ne_bool (qK I q (congrArg not qeH))
  |str j=>obtain⟨t',rfl⟩:=ry;exact PySem.EqMixed.ne_bool_str (qK I q (by simp))
  |_=>exact absurd (show false=true from hs) Y2
 |int i =>
  obtain⟨t,rfl⟩:=rx;cases y with
  |non=>cases ry;exact PySem.EqNone.ne_int_none (qK I q (by simp))
  |int j=>obtain⟨t',rfl⟩:=ry;exact ne_int (qK I q (congrArg not qdr))
  |str j=>obtain⟨t',rfl⟩:=ry;exact PySem.EqMixed.ne_int_str (qK I q (by simp))
  |_=>exact absurd (show false=true from hs) Y2
 |str i =>
  obtain⟨t,rfl⟩:=rx;cases y with
  |non=>cases ry;exact PySem.EqNone.ne_str_none (qK I q (by simp))
  |bl j=>cases ry;exact PySem.EqMixed.ne_str_bool (qK I q (by simp))
  |int j=>obtain⟨t',rfl⟩:=ry;exact PySem.EqMixed.ne_str_int (qK I q (by simp))
  |str j=>obtain⟨t',rfl⟩:=ry;exact ne_str (qK I q (congrArg not qds))
  |_=>exact absurd (show false=true from hs) Y2
 |byt i =>
  obtain⟨t,rfl⟩:=rx;cases y with
  |byt j=>obtain⟨t',rfl⟩:=ry;exact W.ne_bytes (qK I q (congrArg not qdt))
  |_=>exact absurd (show false=true from hs) Y2
 |_=>cases y <;> exact absurd (show false=true from hs) Y2
theorem qdu:OpR X (compareOp .Gt) (rI0 λ i j=>.bl (decide (j<i))):=qiI λ _ _ _ _ _ _ _ q=>gt_int q
theorem zf(b:Expr){op:CmpOp}(h:op≠.In:=by decide)(h2:op≠.NotIn:=by decide):behindInMarks op b=false:=by
 have e1:(op == CmpOp.In)=false:=by cases op <;> first|rfl|exact absurd rfl h
 have e2:(op == CmpOp.NotIn)=false:=by cases op <;> first|rfl|exact absurd rfl h2
 cases b <;> simp[behindInMarks,e1,e2]
theorem yo{op:CmpOp}{r:R2}(ho:OpR X (compareOp op) r)(ha:PE X a ta)(hb:PE X b tb)(hm:behindInMarks op b=false):PE X (.Compare a [op] [b] pos) (tOp r ta tb):=by
 intro pins s σ H Q I h;exact wpAny_Compare1 (qg6 ha hb I h λ v u s2 x y H2 I2 rx ry q=>ho pins s2 σ H2 x y v u Q I2 rx ry q) hm
def qh4(t:TE):TT:=λ σ H Q=>t σ H λ x H'=>∃ k,x=.bl k/\Q k H'
theorem zO{op:CmpOp}{r:R2}(ho:OpR X (compareOp op) r)(ha:PE X a ta)(hb:PE X b tb)(hm:behindInMarks op b=false):PT X (.Compare a [op] [b] pos) (qh4 (tOp r ta tb)):=by
 intro pins s σ H Q I h;refine wpAny_isTrue_Compare1 (thn (ha pins s σ H _ I h) λ v s1 ⟨x,H1,I1,r1,q1⟩=>thn (hb pins s1 σ H1 _ I1 q1) λ u s2 ⟨y,H2,I2,r2,q2⟩ =>
  thn (ho pins s2 σ H2 x y v u _ I2 r1 r2 q2) λ c s3 ⟨z,H3,I3,r3,k,e,q3⟩=>?_) hm
 subst e;cases r3
 exact Zs ⟨H3,I3,q3⟩
theorem kB:(sizeLine:Nat)<2^63:=by rw[sizeLine_eq];decide
theorem kC:OpR X (binaryOp .Add) (λ x y H Q=>∃ i j,x=.str i/\y=.str j/\i.length+j.length<=sizeLine/\Q (.str (i++j)) H):=by
 intro pins s σ H x y v u Q I rx ry h;obtain⟨i,j,rfl,rfl,hz,q⟩:=h;obtain⟨t,rfl⟩:=rx;obtain⟨t',rfl⟩:=ry;exact add_str (λ t' tk=>⟨.str (i++j),H,I.tok _,⟨_,rfl⟩,q⟩) hz
theorem yn{x:V}{us:List Value}(r:qI [x] us):∃ u,us=[u]/\qF x u:=by
 cases r with
 |cons r1 r2=>cases r2;exact⟨_,rfl,r1⟩
theorem qaQ{x y:V}{us:List Value}(r:qI [x,y] us):∃ u w',us=[u,w']/\qF x u/\qF y w':=by
 cases r with
 |cons r1 r2 =>
  cases r2 with
  |cons r3 r4=>cases r4;exact⟨_,_,rfl,r1,r3⟩
theorem qdT(hc:X.calm=true):yB X (.builtin "min") (λ xs H Q=>∃ i j,xs=[.int i,.int j]/\Q (.int (if j<i then j else i)) H):=by
 intro pins s σ H xs us Q I r h;obtain⟨i,j,rfl,q⟩:=h;obtain⟨u,w',rfl,⟨t,rfl⟩,⟨t',rfl⟩⟩:=qaQ r;refine min_two_ints (I.ok.hd hc) λ h' tk k=>⟨_,H,I.kept k,?_,q⟩
 by_cases hj:j<i
 ·rw[Q7 hj,Q7 hj];exact⟨_,rfl⟩
 ·rw[Q8 hj,Q8 hj];exact⟨_,rfl⟩
end
structure ObjM(h:Heap)(x dx C:Addr)(mA:Str->Option Value):Prop where
 obj:h.get? x=some (W.instObj C dx)
 ns:h.Ns1 dx mA
 ne:dx≠x
theorem qdU{h:Heap}{dx:Addr}{mA:Str->Option Value}(n:h.Ns1 dx mA):∃ od,h.get? dx=some od/\∀ name,W.lookIn name od=some (mA name):=by
 obtain⟨o,es,ep,ho,hd,hk,_,hm⟩:=n;refine⟨o,ho,λ name=>?_⟩;have e:=hm name;unfold nsFind findBy at e;rw[<- Array.find?_toList] at e;unfold W.lookIn;rw[hd];dsimp only;split
 ·rename_i y q;rw[q] at e;exact congrArg some e
 ·rename_i q;rw[q] at e;have a:es.toList.any (·.refKey)=false:=by
   rw[List.any_eq_false];intro y hy;obtain⟨z,t,A3⟩:=hk y (Array.mem_toList_iff.mp hy);simp[DictEntry.refKey,A3]
  have a':¬ es.toList.any (·.refKey)=true:=by rw[a];exact Y2
  rw[Q8 a'];exact congrArg some e
theorem ObjM.look{h:Heap}{x dx C:Addr}{mA:Str->Option Value}(I:ObjM h x dx C mA):∃ od,PySem.W.InstAt h x (W.instObj C dx) C (some od)/\∀ name,W.lookIn name od=some (mA name):=
 let ⟨od,ho,hl⟩:=qdU I.ns
 ⟨od,⟨I.obj,rfl,rfl,ho⟩,hl⟩
theorem vE.some_of{v:V}{o:Option Value}(r:vE (some v) o):∃ u,o=some u/\qF v u:=by
 cases o with
 |none=>exact(show False from r).elim
 |some u=>exact⟨u,rfl,r⟩
section
variable {P:Program}{w:World}{H H':Hp}{h h':Heap}{a C dx:Addr}{fs fs':List (Str×V)}
theorem qf4(hok:HOk P w H h)(e:H a=some (.ins C dx fs)):∃ mA,ObjM h a dx C mA/\(∀ f,vE (fs.lookup f) (mA f))/\PySem.Within mA (fs.map (·.1))/\fs.length<=1000/\H dx=some (.own a):=by
 obtain⟨d,z,ne,ob,mA,n,r,q⟩:=(show qQ P w H h a (.ins C dx fs) from hok a _ e);exact⟨mA,⟨ob,n,ne⟩,r,q,z,d⟩
end
structure Cls(K:W.Frag)(C:Addr):Prop where
 pg:W.plainGet K C Str.empty=true
 hd:W.hasDictIn K C=true
 po:W.plainOver K C=true
 sa:W.findIn K (.ref C) "__setattr__"=some (some (.builtin "object.__setattr__"))
theorem Cls.get{K:W.Frag}{C:Addr}(c:Cls K C)(f:Str):W.plainGet K C f=true:=c.pg
section
variable {X:Cx}{pins:List (Addr×Obj)}{σ:St}{H:Hp}{s:Shared}{A:Around}{E:Value->Shared->Prop}{Q:Value->Shared->Prop}{c:Value}{b:Bool}
inductive TyOf(K:W.Frag)(H:Hp):V->Value->Prop where
 | non:TyOf K H .non (.type "NoneType")
 | bl (x:Bool):TyOf K H (.bl x) (.type "bool")
 | int (i:Int):TyOf K H (.int i) (.type "int")
 | str (x:Str):TyOf K H (.str x) (.type "str")
 | flt (x:UInt64):TyOf K H (.flt x) (.type "float")
 | lst {a:Addr} {xs:List V} (e:H a=some (.lst xs)):TyOf K H (.ref a) (.type "list")
 | frz {a:Addr} {o:Obj} {xs:List V} (e:H a=some (.frz o (.lst xs))):TyOf K H (.ref a) (.type "list")
 | tup {a:Addr} {xs:List V} (e:H a=some (.tup xs)):TyOf K H (.ref a) (.type "tuple")
 | dK {a:Addr} {kvs:List (Key×V)} (e:H a=some (.dK kvs)):TyOf K H (.ref a) (.type "dict")
 | dT {a:Addr} {kvs:List (List Key×V)} (e:H a=some (.dT kvs)):TyOf K H (.ref a) (.type "dict")
 | ins {a C dx:Addr} {fs:List (Str×V)} (e:H a=some (.ins C dx fs)) (cl:Cls K C) (ha:W.findIn K (.ref C) "__class__"=some (some (.builtin "object.__class__")))
   (hn:W.specialIn K (.builtin "object.__class__") "__get__"=some (some (.builtin "getset_descriptor.__get__"))) (htk:W.takesIn K (.builtin "object.__class__")=some true)
   (hm:W.mroIn K C (.type "object")=some true):TyOf K H (.ref a) (.ref C)
theorem qdV{x:V}{u t:Value}(I:Inv X pins σ H s)(rx:qF x u)(ty:TyOf X.K H x t)(e:W.kitOne X.K t c=some b)(h:∀ tk,Q (.bool b) { s with toks:=tk }):
  wpAny (model X.prog X.w) A (call (.builtin "isinstance") [u,c]) Q E s:=by
 cases ty with
 |non=>cases(show u=Value.none from rx);exact Qx W.kitx_none I.kIn True.intro e (λ z=>nomatch z) h
 |bl y=>cases(show u=Value.bool y from rx);exact Qx W.kitx_bool I.kIn True.intro e (λ z=>nomatch z) h
 |int i=>obtain⟨t,q⟩:=(show ∃ t,u=Value.int i t from rx);cases q;exact Qx W.kitx_int I.kIn True.intro e (λ z=>nomatch z) h
 |str y=>obtain⟨t,q⟩:=(show ∃ t,u=Value.str y t from rx);cases q;exact Qx W.kitx_str I.kIn True.intro e (λ z=>nomatch z) h
 |flt y=>obtain⟨t,q⟩:=(show ∃ t,u=Value.float y t from rx);cases q;exact Qx W.kitx_float I.kIn True.intro e (λ z=>nomatch z) h
 | @lst a xs ea =>
  cases(show u=Value.ref a from rx)
  obtain⟨_,_,n,_,h1⟩:=(show qQ X.prog X.w H s.heap a (.lst xs) from I.hok a _ ea);exact Qx W.kitx_list I.kIn ⟨_,h1,rfl⟩ e (λ z=>nomatch z) h
 | @frz a ob xs ea =>
  cases(show u=Value.ref a from rx)
  obtain⟨_,_,_,n,_,h1⟩:=(show qQ X.prog X.w H s.heap a (.frz ob (.lst xs)) from I.hok a _ ea);exact Qx W.kitx_list I.kIn ⟨_,h1,rfl⟩ e (λ z=>nomatch z) h
 | @tup a xs ea =>
  cases(show u=Value.ref a from rx)
  obtain⟨_,_,_,p⟩:=(show qQ X.prog X.w H s.heap a (.tup xs) from I.hok a _ ea);obtain⟨o,h1,h2,_⟩:=p;exact Qx W.kitx_tuple I.kIn ⟨o,h1,h2⟩ e (λ z=>nomatch z) h
 | @dK a kvs ea =>
  cases(show u=Value.ref a from rx)
  obtain⟨_,_,vs,_,p⟩:=(show qQ X.prog X.w H s.heap a (.dK kvs) from I.hok a _ ea);obtain⟨o,es,ep,h1,h2,_⟩:=p;exact Qx W.kitx_dict I.kIn ⟨o,h1,h2.1⟩ e (λ z=>nomatch z) h
 | @dT a kvs ea =>
  cases(show u=Value.ref a from rx)
  obtain⟨_,_,xs,_,o,es,ep,h1,h2,_⟩:=(show qQ X.prog X.w H s.heap a (.dT kvs) from I.hok a _ ea);exact Qx W.kitx_dict I.kIn ⟨o,h1,h2.1⟩ e (λ z=>nomatch z) h
 | @ins a C dx fs ea cl ha hn htk hm =>
  cases(show u=Value.ref a from rx)
  obtain⟨mA,O,_⟩:=qf4 I.hok ea;obtain⟨od,J,_⟩:=O.look;exact Qx (W.kitx_own (cl.get _) cl.hd ha hn htk hm) I.kIn J e (λ z=>nomatch z) h
end
structure Room(k:Nat)(A:Around):Prop where
 hd:A.handled=none
 dp:A.depth+3*k+5<recursionLimit
 un:A.units+16*k+200<cLine
theorem Room.mono{j k:Nat}{A:Around}(r:Room k A)(h:j<=k):Room j A:=⟨r.hd,by have:=r.dp;omega,by have:=r.un;omega⟩
theorem Room.deeper{k:Nat}{A:Around}(r:Room (k+1) A)(env:Env):Room k (A.deeper env):=
 ⟨r.hd,by have:=r.dp;show A.depth+1+3*k+5<_;omega,by have:=r.un;show A.units+3+16*k+200<_;omega⟩
theorem Room.depth{k:Nat}{A:Around}(r:Room k A):A.depth<recursionLimit:=by have:=r.dp;omega
theorem Room.units{k:Nat}{A:Around}(r:Room k A):A.units+64<cLine:=by have:=r.un;omega
def qiJ:TA:=λ _ H Q=>Q [] H
def qh5(ta:TE)(tr:TA):TA:=λ σ H Q=>ta σ H λ x H1=>tr σ H1 λ xs H2=>Q (x::xs) H2
section
variable {X:Cx}{e:Expr}{es:List Expr}{te:TE}{t:TA}{pos:Pos}
theorem qc:PA X [] qiJ:=λ _ _ _ _ H Q I h=>Calls.spliced_nil ⟨[],H,I,.nil,h⟩
theorem qa(ha:PE X e te)(hr:PA X es t)(hs:starEach (e::es) X.env=(false,eval e X.env)::starEach es X.env:=by rfl):PA X (e::es) (qh5 te t):=by
 intro pos pins s σ H Q I h;rw[hs];show wpAny _ _ (spliced ((false,eval e X.env)::backTo pos (starEach es X.env))) _ _ s
 refine Y3 (thn (ha pins s σ H _ I h) λ u s1 ⟨x,H1,I1,r1,q1⟩=>?_);exact thn (hr pos pins s1 σ H1 _ I1 q1) λ us s2 ⟨xs,H2,I2,r2,q2⟩=>⟨x::xs,H2,I2,.cons r1 r2,q2⟩
def qiK(t:TA):TE:=λ σ H Q=>t σ H λ xs H1=>xs.length<=sizeLine/\∀ p,H1 p=none->Q (.ref p) (upd H1 p (.tup xs))
def qiL(t:TA):TE:=λ σ H Q=>t σ H λ xs H1=>xs.length<=sizeLine/\∀ p,H1 p=none->Q (.ref p) (upd H1 p (.lst xs))
theorem vF{x1}(h:PA X es t):PE X (.Tuple es x1 pos) (qiK t):=by
 intro pins s σ H Q I hq;refine wpAny_Tuple_spliced (thn (h pos pins s σ H _ I hq) λ us s1 ⟨xs,H1,I1,r,z,q⟩=>⟨by rw[<- r.length];exact z,?_⟩);have hf:H1 s1.heap.objs.size=none:=I1.hok.fresh (Ql _);refine⟨.ref s1.heap.objs.size,upd H1 s1.heap.objs.size (.tup xs),I1.laid (t':=s1.toks) (λ b u e=>X9 _ e) (Ql _) ?_,rfl,q _ hf⟩;exact⟨z,us,r,⟨_,Yn _ rfl,rfl,_,rfl⟩⟩
theorem zP(h:PA X es t):PE X (.List es pos) (qiL t):=by
 intro pins s σ H Q I hq;refine wpAny_List_spliced (thn (h pos pins s σ H _ I hq) λ us s1 ⟨xs,H1,I1,r,z,q⟩=>⟨by rw[<- r.length];exact z,?_⟩);have hf:H1 s1.heap.objs.size=none:=I1.hok.fresh (Ql _);refine⟨.ref s1.heap.objs.size,upd H1 s1.heap.objs.size (.lst xs),I1.laid (t':=s1.toks) (λ b u e=>X9 _ e) (Ql _) ?_,rfl,q _ hf⟩;exact⟨z,us,0,r,Yn _ rfl⟩
end
abbrev Sp:=List V->Hp->VK->XK->Prop
abbrev CXT:=List Env->Hp->Shared->XK->Value->Shared->Prop
structure Env0(P:Program)(w:World)(K:W.Frag)(mg:Str->Option Value)(base:Heap)(A:Around)(outer:List Env)(s:Shared)(H:Hp):Prop where
 frames:A.frames=some outer
 mod:Mod K mg base
 bs:∀ b o,base.get? b=some o->s.heap.get? b=some o/\H b=none
 bsz:base.objs.size<=s.heap.objs.size
 funs:s.heap.FunFrames base outer
 frf:∀ b∈frs outer,H b=none
 hok:HOk P w H s.heap
 bare:AllBare s.gens
def CE(outer:List Env)(P:Program)(w:World)(H:Hp)(s:Shared)(Q:VK)(u:Value)(s':Shared):Prop:=
 ∃ v H',s'.os=s.os/\AllBare s'.gens/\Un (frs outer) [] H H' s.heap s'.heap/\HOk P w H' s'.heap/\qF v u/\Q v H'
def CR(CX:CXT)(outer:List Env)(P:Program)(w:World)(H:Hp)(s:Shared)(Q:VK)(E:XK)(r:Result)(s':Shared):Prop:=
 match r with
 |.ok (.ret u)=>CE outer P w H s Q u s'
 |.ok _=>False
 |.error e=>CX outer H s E e s'
structure FnOk(P:Program)(w:World)(K:W.Frag)(mg:Str->Option Value)(base:Heap)(CX:CXT)(k:Nat)(f:Addr)(fd:FuncData)(ps:List Str)(sp:Sp):Prop where
 len:∀ vs H Q E,sp vs H Q E->vs.length=ps.length
 run:∀(A:Around)(outer:List Env)(s:Shared)(H:Hp)(args:Args)(us:List Value)(vs:List V)(Q:VK)(E:XK),Room k A->Env0 P w K mg base A outer s H->BindsTo s fd args (ps.zip us)->qI vs us->sp vs H Q E ->
  codeAny (model P w) A (.call (.ref f) args) (CR CX outer P w H s Q E) s
section
variable {X:Cx}{pins:List (Addr×Obj)}{σ:St}{H:Hp}{s s':Shared}
theorem Inv.env0(I:Inv X pins σ H s):Env0 X.prog X.w X.K X.mg X.base X.A X.stack s H:=
 ⟨I.ok.frames,I.ok.mod,I.bs,J7 I.ok.bsz I.sz,I.stack,I.stkFree,I.hok,I.bare⟩
theorem Inv.after{Q:VK}{u:Value}(I:Inv X pins σ H s)(h:CE X.stack X.prog X.w H s Q u s'):EP X pins σ Q u s':=by
 obtain⟨v,H',os,bare,un,hok,r,q⟩:=h;obtain⟨hh,g,d,t,rA⟩:=s';obtain rfl:rA=s.os:=os;exact⟨v,H',I.call (h':=hh) (g':=g) (d':=d) (t':=t) (ch:=[]) un hok bare (λ b z=>absurd z (by simp)),r,q⟩
end
def qeI(sp:Sp)(aQ:List V)(E:XK)(t:TA):TE:=λ σ H Q=>t σ H λ vs H1=>sp (vs++aQ) H1 Q E
def jt(K:W.Frag)(fd:FuncData)(ps:List Str)(ds:List Value):Prop:=
 ∀(s:Shared)(us:List Value),K.In s.heap->(us++ds).length=ps.length->BindsTo s fd ⟨us,[]⟩ (ps.zip (us++ds))
theorem jt.all{K:W.Frag}{fd:FuncData}{ps:List Str}(h:∀ us:List Value,us.length=ps.length->bindArgs fd ⟨us,[]⟩=pure (ps.zip us)):jt K fd ps []:=λ s us _ hl=>by
 rw[Ui] at hl ⊢;exact .of_eq (h us hl)
def qcI(CX:CXT)(X:Cx)(E:XK):Prop:=∀(pins:List (Addr×Obj))(σ:St)(H:Hp)(s:Shared)(e:Value)(s':Shared),Inv X pins σ H s->CX X.stack H s E e s'->X.xe e s'
section
variable {X:Cx}{CX:CXT}{k:Nat}{f C:Addr}{fd:FuncData}{ps:List Str}{sp:Sp}{aQ:List V}{ds:List Value}{E:XK}{x m:Str}{p pos apos:Pos}{e o:Expr}{es:List Expr}{ta:TE}{t:TA}
theorem qhb{pins:List (Addr×Obj)}{σ:St}{H:Hp}{s:Shared}{Q:VK}{us:List Value}{vs:List V}(F:FnOk X.prog X.w X.K X.mg X.base CX k f fd ps sp)(hr:Room k X.A)(hb:jt X.K fd ps ds)(hd:qI aQ ds)(hx:qcI CX X E)(I:Inv X pins σ H s)(r:qI vs us)(h:sp (vs++aQ) H Q E):wpAny (model X.prog X.w) X.A (call (.ref f) us) (EP X pins σ Q) X.xe s:=by
 have r2:qI (vs++aQ) (us++ds):=r.append hd;have hl:(us++ds).length=ps.length:=by rw[<- r2.length];exact F.len _ _ _ _ h
 refine wpAny_call (Qi (F.run X.A X.stack s H ⟨us,[]⟩ (us++ds) (vs++aQ) Q E hr I.env0 (hb s us I.kIn hl) r2 h) λ r s' hq=>?_);cases r with
 |error e=>exact hx pins σ H s e s' I hq
 |ok fl =>
  cases fl with
  |ret u=>exact I.after hq
  |next=>exact False.elim hq
  |brk=>exact False.elim hq
  |cont=>exact False.elim hq
theorem zk(F:FnOk X.prog X.w X.K X.mg X.base CX k f fd ps sp)(hr:Room k X.A)(hg:Gl X x)(hm:X.mg x=some (.ref f))(hk:W.keepIn X.K (.ref f)=true)(hb:jt X.K fd ps ds)(hd:qI aQ ds)(hx:qcI CX X E)(ha:PA X (e::es) t)(M0:(x == ("__debug__":Str))=false:=by decide)(he:starEach (e::es) X.env=(false,eval e X.env)::starEach es X.env:=by rfl)(u0:(backTo pos (starEach es X.env)).any (·.1)=false:=by rfl):
  PE X (.Call (.Name x p) (e::es) [] pos) (qeI sp aQ E t):=by
 intro pins s σ H Q I h;refine Zb (qdn I hg hm ?_ M0);refine W.callWith_K (h₀:=X.base) I.ok.mod.kin hk (thn (ha pos pins s σ H _ I h) λ us s1 ⟨vs,H1,I1,r,q⟩=>⟨I1.kIn,?_⟩) he u0;exact qhb F hr hb hd hx I1 r q
end
structure FnScope(N P:List Str)(sc:Scope):Prop where
 kind:sc.kind=.function
 co:sc.isCoroutine=false
 gen:sc.isGenerator=false
 nd:N.Nodup
 pre:N.take P.length=P
 par:∀ x∈P,sc.names.lookup x=some .local∨sc.names.lookup x=some .cell
 nofree:∀ y∈sc.names,y.2≠.free
theorem scF{N P:List Str}{sc:Scope}(a:sc.kind=.function:=by rfl)(b:sc.isCoroutine=false:=by rfl)(c:sc.isGenerator=false:=by rfl)(d:N.take P.length=P:=by rfl)(h:N.Nodup ∧ (∀ x∈P,sc.names.lookup x=some .local∨sc.names.lookup x=some .cell) ∧ ∀ y∈sc.names,y.2≠.free:=by decide +kernel):FnScope N P sc:=⟨a,b,c,h.1,d,h.2.1,h.2.2⟩
theorem qaR{kindOf:Str->Option NameKind}{x:Str}:∀{binds:List (Str×Value)}{m:Str->Option Value},(∀ v,(x,v)∉binds)->bindL kindOf binds m x=m x
 | [],_,_=>rfl
 |(n,v)::r,m,h=>by
  unfold bindL;rw[qaR λ w hw=>h w (Ya _ hw)];split
  ·have:x≠n:=by rintro rfl;exact h v Y1
   simp[this]
  ·rfl
theorem qaS{kindOf:Str->Option NameKind}{x:Str}:∀{binds:List (Str×Value)}{m:Str->Option Value},(∀ v,(x,v)∉binds)->bindC kindOf binds m x=m x
 | [],_,_=>rfl
 |(n,v)::r,m,h=>by
  unfold bindC;rw[qaS λ w hw=>h w (Ya _ hw)];split
  ·rfl
  ·have:x≠n:=by rintro rfl;exact h v Y1
   simp[this]
theorem qaT{kindOf:Str->Option NameKind}{x:Str}{v:Value}:∀{P:List Str}{vs:List Value}{i:Nat}{m:Str->Option Value},P.Nodup->P[i]?=some x->vs[i]?=some v->kindOf x=some .local ->
  bindL kindOf (P.zip vs) m x=some v
 | [],_,_,_,_,h,_,_=>by simp at h
 |_::_,[],_,_,_,_,h,_=>by simp at h
 |p::P,w::vs,0,m,nd,h1,h2,hk=>by
  simp at h1 h2;subst h1;subst h2;show bindL kindOf ((p,w)::P.zip vs) m p=_
  unfold bindL;rw[qaR λ v hv=>(Uj.mp nd).1 (Uk hv).1,Q7 hk];simp
 |p::P,w::vs,i+1,m,nd,h1,h2,hk=>by
  show bindL kindOf ((p,w)::P.zip vs) m x=_
  unfold bindL;exact qaT (i:=i) (Uj.mp nd).2 (by simpa using h1) (by simpa using h2) hk
theorem qaU{kindOf:Str->Option NameKind}{x:Str}{v:Value}:∀{P:List Str}{vs:List Value}{i:Nat}{m:Str->Option Value},P.Nodup->P[i]?=some x->vs[i]?=some v->kindOf x≠some .local ->
  bindC kindOf (P.zip vs) m x=some v
 | [],_,_,_,_,h,_,_=>by simp at h
 |_::_,[],_,_,_,_,h,_=>by simp at h
 |p::P,w::vs,0,m,nd,h1,h2,hk=>by
  simp at h1 h2;subst h1;subst h2;show bindC kindOf ((p,w)::P.zip vs) m p=_
  unfold bindC;rw[qaS λ v hv=>(Uj.mp nd).1 (Uk hv).1,Q8 hk];simp
 |p::P,w::vs,i+1,m,nd,h1,h2,hk=>by
  show bindC kindOf ((p,w)::P.zip vs) m x=_
  unfold bindC;exact qaU (i:=i) (Uj.mp nd).2 (by simpa using h1) (by simpa using h2) hk
def yX(N:List Str)(vs:List V):St:=vs.map some++List.replicate (N.length-vs.length) none
def vW(CX:CXT)(P:Program)(w:World)(K:W.Frag)(mg:Str->Option Value)(base:Heap)(N:List Str)(qual:Str)(scope:Scope)(f:Addr)(cd:Value)(A:Around)(outer:List Env)(s:Shared)(H:Hp)(E:XK):Cx where
 prog:=P
 w:=w
 K:=K
 mg:=mg
 base:=base
 A:=A.deeper (envOfC qual scope s.heap.objs.size f cd)
 N:=N
 s₀:=s
 H₀:=H
 env:=envOfC qual scope s.heap.objs.size f cd
 outer:=outer
 stack:=envOfC qual scope s.heap.objs.size f cd::outer
 ex:=[]
 calm:=true
 fn:=λ _=>true
 pn:=[]
 xe:=λ e s'=>wpAny (model P w) (A.deeper (envOfC qual scope s.heap.objs.size f cd)) (leaving (envOfC qual scope s.heap.objs.size f cd) e) (λ _ t8=>CX outer H s E e t8) (λ e' t8=>CX outer H s E e' t8) s'
theorem qbV{sc:Scope}{n:Nat}{x:Str}(h:sc.names.lookup x=some .cell):∃ c,(cellsFrom n sc.names []).lookup x=some c:=by
 have q:=W.cellsFrom_some sc.names n [] (.inl h);exact Xt.mp q
theorem qaV{CX:CXT}{P:Program}{w:World}{K:W.Frag}{mg:Str->Option Value}{base:Heap}{N ps:List Str}{qual:Str}{scope:Scope}{f:Addr}{cd:Value}{A:Around}{outer:List Env}{s s1:Shared}{H:Hp}{E:XK}{us:List Value}{vs:List V}(S:FnScope N ps scope)(hd:A.handled=none)(e0:Env0 P w K mg base A outer s H)(hl:vs.length=ps.length)(r:qI vs us)(x:InCallC s s.heap.objs.size (bindL (envOfC qual scope s.heap.objs.size f cd).kindOf (ps.zip us) λ _=>none) (cellsFrom (s.heap.objs.size+1) scope.names []) (bindC (envOfC qual scope s.heap.objs.size f cd).kindOf (ps.zip us) λ _=>none) s1):
  Inv (vW CX P w K mg base N qual scope f cd A outer s H E) [] (yX N vs) H s1:=by
 have u0:ps.length<=N.length:=by have:=congrArg List.length S.pre;rw[Zy] at this;omega
 obtain⟨h1,tk,rfl,hk⟩:=x.done;have bD:∀ b:Addr,b∉(vW CX P w K mg base N qual scope f cd A outer s H E).ex:=λ b z=>absurd (show b∈([]:List Addr) from z) (by simp)
 refine⟨⟨e0.mod,S.kind,rfl,rfl,Ql _,λ y z c h1 h2=>?_,λ y hy=>?_,λ y c _ h=>?_,λ _=>hd,Around.frames_deeper e0.frames,.inr ⟨rfl,rfl⟩,λ b z=>absurd z (bD b),e0.bs,e0.bsz,λ b _ _=>bD b,λ b z=>absurd z (bD b),e0.funs,e0.frf⟩,
  rfl,e0.bare,Un.kept hk,⟨_,x.toInCall.ns,λ i y v h1 h2 h3=>?_⟩,λ y c h=>⟨_,x.cell y c h⟩,e0.hok.fresh (Ql _),λ y c h=>?_,λ p hp=>absurd (show p∈([]:List (Addr×Obj)) from hp) (by simp),e0.hok.kept hk,?_⟩
 ·exact name_of_addr x.apart (Yo h1) (Yo h2)
 ·have hy:scope.names.lookup y=some .cell∨scope.names.lookup y=some .free:=hy;rcases hy with hy | hy
  ·exact qbV hy
  ·exact absurd rfl (S.nofree _ (Yo hy))
 ·exact J8 (x.above y c (Yo h))
 ·have hi:i<vs.length:=by
   unfold yX at h2;by_cases hi:i<vs.length
   ·exact hi
   ·rw[Xg (by simpa using hi)] at h2;rw[Xz] at h2;split at h2 <;> cases h2
  have ha:vs[i]?=some v:=by
   unfold yX at h2;rw[Xm (by simpa using hi),Ze] at h2;cases e:vs[i]? with
   |none=>rw[e] at h2;cases h2
   |some a=>rw[e] at h2;cases h2;rfl
  obtain⟨u,hu,rv⟩:=r.get ha;have hp:ps[i]?=some y:=by
   rw[<- S.pre,Xu (by omega)];exact h1
  have ndP:ps.Nodup:=by rw[<- S.pre];exact S.nd.sublist (List.take_sublist _ _)
  refine⟨u,rv,?_⟩;rcases S.par y (Yd hp) with k|k
  ·exact .inl ⟨k,qaT ndP hp hu k⟩
  ·obtain⟨c,e⟩:=qbV (n:=s.heap.objs.size+1) k;refine .inr ⟨.inl k,c,e,?_⟩;have q:=x.cell y c e;rw[qaU ndP hp hu (by show scope.names.lookup y≠_;rw[k];decide)] at q;exact q
 ·exact e0.hok.fresh (J8 (x.above y c (Yo h)))
 ·unfold yX;show _=N.length
  rw[Y4,Ul,XI];omega
theorem qh6{CX:CXT}{P:Program}{w:World}{K:W.Frag}{mg:Str->Option Value}{base:Heap}{k:Nat}{f:Addr}{name qual:Str}{params:Arguments}{body:List Stmt}{scope:Scope}{dV kV doc pm cdv ct oc:Value}{an od:Option Addr}{osl:Array (Option Value)}{N ps:List Str}{sp:Sp}(lk:K.lookup f=some ⟨oc,od,.func (W.fnOf name qual params body scope dV kV doc pm an cdv ct),osl⟩)(A4:W.codeIn K cdv qual=true)(S:FnScope N ps scope)(len:∀ vs H Q E,sp vs H Q E->vs.length=ps.length)(x4:∀(A:Around)(outer:List Env)(s:Shared)(H:Hp)(vs:List V)(Q:VK)(E:XK),Room k (A.deeper (envOfC qual scope s.heap.objs.size f cdv))->sp vs H Q E ->
   ∃ t,PSs (vW CX P w K mg base N qual scope f cdv A outer s H E) body t/\t { nx:=λ _ H'=>Q .non H',rt:=Q } (yX N vs) H):
  FnOk P w K mg base CX (k+1) f (W.fnOf name qual params body scope dV kV doc pm an cdv ct) ps sp:=by
 refine⟨len,λ A outer s H args us vs Q E hr e0 hb r K9=>?_⟩;have hl:=len _ _ _ _ K9;have KX:K.In s.heap:=e0.mod.kin.keeps λ b o e=>(e0.bs b o e).1
 have dZ:s.heap.NoLimit:=e0.mod.nolimit.keeps λ b o e=>(e0.bs b o e).1
 have O5:∀ y∈ps.zip us,scope.names.lookup y.1=some .local∨(scope.names.lookup y.1=some .cell/\((cellsFrom (s.heap.objs.size+1) scope.names []).lookup y.1).isSome=true):=λ ⟨n,v⟩ hy=>by
  rcases S.par n (Uk hy).1 with q|q
  ·exact .inl q
  ·exact .inr ⟨q,W.cellsFrom_some _ _ _ (.inl q)⟩
 refine XY hr.depth (KX _ _ lk) rfl S.co S.gen rfl (W.codeRec_of KX A4) (hb _ _ _ _ ?_);refine wpAny_newFunctionEnv_cells S.kind O5 λ env he s1 x=>?_
 subst he;refine⟨dZ.keeps x.toInCall.keep,codeAny_func ?_⟩;obtain⟨t,ht,hq⟩:=x4 A outer s H vs Q E (hr.deeper _) K9;have I:Inv (vW CX P w K mg base N qual scope f cdv A outer s H E) [] (yX N vs) H s1:=qaV S hr.hd e0 hl r x;refine Qq (ht [] s1 (yX N vs) H _ I hq) (λ fl s' hs=>?_) λ e s' hs=>hs
 have fin:∀{σ':St}{H':Hp}{v:V}{u:Value},Inv (vW CX P w K mg base N qual scope f cdv A outer s H E) [] σ' H' s'->qF v u->Q v H'->CE outer P w H s Q u s':=
  λ{σ' H' v u} J rv q=>⟨v,H',J.os,J.bare,J.base,J.hok,rv,q⟩
 cases fl with
 |ret u =>
  obtain⟨v,σ',H',J,rv,q⟩:=hs;exact fin J rv q
 |next =>
  obtain⟨σ',H',J,q⟩:=hs;exact fin (v:=V.non) (u:=Value.none) J rfl q
 |brk =>
  obtain⟨_,_,_,q⟩:=hs;exact False.elim q
 |cont =>
  obtain⟨_,_,_,q⟩:=hs;exact False.elim q
section
variable {X:Cx}{x:Str}{p pos:Pos}{e:Expr}{es:List Expr}{t:TA}{id T:String}{r:List V->Hp->VK->Prop}
def tCB(r:List V->Hp->VK->Prop)(t:TA):TE:=λ σ H Q=>t σ H λ vs H1=>r vs H1 Q
theorem qG(hc:yB X (.builtin id) r)(hg:Gl X x)(hm:X.mg x=none)(hv:bootBuiltins x=some (.builtin id))(ha:PA X (e::es) t)(hn:x≠"__name__":=by decide)(M0:(x == ("__debug__":Str))=false:=by decide)(he:starEach (e::es) X.env=(false,eval e X.env)::starEach es X.env:=by rfl)(u0:(backTo pos (starEach es X.env)).any (·.1)=false:=by rfl):PE X (.Call (.Name x p) (e::es) [] pos) (tCB r t):=by
 intro pins s σ H Q I h;refine Zb (y9 I hg hm hv ?_ hn M0);exact PyProof.Rows.callWith_builtin1 (thn (ha pos pins s σ H _ I h) λ us s1 ⟨vs,H1,I1,r1,q1⟩=>hc pins s1 σ H1 vs us Q I1 r1 q1) he u0
theorem q9(hc:yB X (.type T) r)(hg:Gl X x)(hm:X.mg x=none)(hv:bootBuiltins x=some (.type T))(ha:PA X (e::es) t)(hn:x≠"__name__":=by decide)(M0:(x == ("__debug__":Str))=false:=by decide)(he:starEach (e::es) X.env=(false,eval e X.env)::starEach es X.env:=by rfl)(u0:(backTo pos (starEach es X.env)).any (·.1)=false:=by rfl):PE X (.Call (.Name x p) (e::es) [] pos) (tCB r t):=by
 intro pins s σ H Q I h;refine Zb (y9 I hg hm hv ?_ hn M0);exact Xd (thn (ha pos pins s σ H _ I h) λ us s1 ⟨vs,H1,I1,r1,q1⟩=>hc pins s1 σ H1 vs us Q I1 r1 q1) he u0
end
section
variable {κ:Type}[DecidableEq κ]
def qY(kvs:List (κ×V))(k:κ):Option V:=(kvs.find? λ kv=>decide (kv.1=k)).map (·.2)
def zU(kvs:List (κ×V))(k:κ)(v:V):List (κ×V):=
 if (kvs.any λ kv=>decide (kv.1=k))=true then kvs.map (λ kv=>if kv.1=k then(kv.1,v) else kv) else kvs++[(k,v)]
theorem zg{p:κ×V}{r:List (κ×V)}{k:κ}(e:p.1=k):qY (p::r) k=some p.2:=by simp[qY,Um,e]
theorem zh{p:κ×V}{r:List (κ×V)}{k:κ}(e:¬ p.1=k):qY (p::r) k=qY r k:=by simp[qY,Um,e]
theorem yD(k:κ):∀ kvs:List (κ×V),(kvs.any λ kv=>decide (kv.1=k))=(qY kvs k).isSome
 | []=>rfl
 |p::r=>by
  rw[Jt];by_cases e:p.1=k
  ·simp only[zg e,Jj e,Bool.true_or,Option.isSome_some]
  ·rw[zh e,Uz e,Ju];exact yD k r
theorem qbW(k j:κ)(y:V):∀ kvs:List (κ×V),qY (kvs.map λ kv=>if kv.1=k then(kv.1,y) else kv) j=(qY kvs j).map λ x=>if j=k then y else x
 | []=>rfl
 |p::r=>by
  have ih:=qbW k j y r;rw[Jv];by_cases h:p.1=k
  ·rw[Q7 h];by_cases e:p.1=j
   ·rw[zg (p:=(p.1,y)) e,zg e,Uo,Q7 (e.symm.trans h)]
   ·rw[zh (p:=(p.1,y)) e,zh e,ih]
  ·rw[Q8 h];by_cases e:p.1=j
   ·rw[zg (p:=p) e,zg e,Uo,Q8 (λ z=>h (e.trans z))]
   ·rw[zh (p:=p) e,zh e,ih]
theorem qaW(k j:κ)(y:V):∀ kvs:List (κ×V),qY kvs k=none->qY (kvs++[(k,y)]) j=if j=k then some y else qY kvs j
 | [],_=>by
  by_cases e:k=j
  ·rw[Q7 e.symm];exact zg (p:=(k,y)) e
  ·rw[Q8 (λ z=>e z.symm)];exact zh (p:=(k,y)) e
 |p::r,hn=>by
  rw[List.cons_append];have hk:¬ p.1=k:=λ z=>by rw[zg z] at hn;cases hn
  rw[zh hk] at hn;have ih:=qaW k j y r hn;by_cases e:p.1=j
  ·rw[zg e,zg e,Q8 (λ z=>hk (e.trans z))]
  ·rw[zh e,zh e,ih]
theorem qeJ(kvs:List (κ×V))(k j:κ)(y:V):qY (zU kvs k y) j=if j=k then some y else qY kvs j:=by
 unfold zU;by_cases a:(kvs.any λ kv=>decide (kv.1=k))=true
 ·rw[Q7 a,qbW];rw[yD] at a;by_cases e:j=k
  ·obtain⟨x,hx⟩:=Xt.mp a;rw[Q7 e,e,hx,Uo,Q7 rfl]
  ·rw[Q8 e];cases qY kvs j with
   |none=>rfl
   |some x=>rw[Uo,Q8 e]
 ·rw[Q8 a];refine qaW k j y kvs ?_;rw[yD] at a;cases q:qY kvs k with
  |none=>rfl
  |some x=>rw[q] at a;exact(a rfl).elim
theorem zG(kvs:List (κ×V))(k:κ)(v:V):(zU kvs k v).length<=kvs.length+1:=by
 unfold zU;split
 ·rw[Ul];omega
 ·rw[Y4,Zz,List.length_nil];omega
theorem kD{kvs:List (κ×V)}{k:κ}(v:V)(h:qY kvs k=none):zU kvs k v=kvs++[(k,v)]:=by
 unfold zU;rw[yD,h];exact Q8 (by decide)
theorem vE.isSome_eq{o:Option V}{u:Option Value}(r:vE o u):o.isSome=u.isSome:=by
 cases o with
 |none=>cases u with
  |none=>rfl
  |some _=>exact(show False from r).elim
 |some _=>cases u with
  |none=>exact(show False from r).elim
  |some _=>rfl
theorem vE.getD{o:Option V}{u:Option Value}{d:V}{d':Value}(r:vE o u)(rd:qF d d'):qF (o.getD d) (u.getD d'):=by
 cases o with
 |none=>cases u with
  |none=>exact rd
  |some _=>exact(show False from r).elim
 |some _=>cases u with
  |none=>exact(show False from r).elim
  |some _=>exact r
theorem KV.val{kvs:List (κ×V)}{vs:List (κ×Value)}(r:KV kvs vs)(k:κ):vE (qY kvs k) (valueAt vs k):=by
 unfold KV at r;induction r with
 |nil=>exact True.intro
 | @cons p q ps qs h t ih =>
  obtain⟨h1,h2⟩:=h;by_cases e:p.1=k
  ·have e':q.1=k:=h1.symm.trans e;have b:valueAt (q::qs) k=some q.2:=by simp[valueAt,Um,e']
   rw[zg e,b];exact h2
  ·have e':¬ q.1=k:=λ z=>e (h1.trans z)
   have b:valueAt (q::qs) k=valueAt qs k:=by simp[valueAt,Um,e']
   rw[zh e,b];exact ih
theorem KV.any{kvs:List (κ×V)}{vs:List (κ×Value)}(r:KV kvs vs)(k:κ):(kvs.any λ kv=>decide (kv.1=k))=vs.any λ kv=>decide (kv.1=k):=by
 unfold KV at r;induction r with
 |nil=>rfl
 |cons h t ih=>rw[Jt,Jt,ih,h.1]
theorem KV.repl{kvs:List (κ×V)}{vs:List (κ×Value)}(r:KV kvs vs)(k:κ){y:V}{u:Value}(ry:qF y u):
  KV (kvs.map λ kv=>if kv.1=k then(kv.1,y) else kv) (vs.map λ kv=>if kv.1=k then(kv.1,u) else kv):=by
 unfold KV at r ⊢;induction r with
 |nil=>exact .nil
 | @cons p q ps qs h t ih =>
  rw[Jv,Jv];refine .cons ?_ ih;obtain⟨h1,h2⟩:=h;by_cases e:p.1=k
  ·rw[Q7 e,Q7 (h1.symm.trans e)];exact⟨h1,ry⟩
  ·rw[Q8 e,Q8 (λ z=>e (h1.trans z))];exact⟨h1,h2⟩
theorem KV.put{kvs:List (κ×V)}{vs:List (κ×Value)}(r:KV kvs vs)(k:κ){y:V}{u:Value}(ry:qF y u):KV (zU kvs k y) (stored vs k u):=by
 unfold zU stored;rw[r.any k];by_cases e:(vs.any λ kv=>decide (kv.1=k))=true
 ·rw[Q7 e,Q7 e];exact r.repl k ry
 ·rw[Q8 e,Q8 e];exact Paired.snoc r ⟨rfl,ry⟩
theorem KV.length{kvs:List (κ×V)}{vs:List (κ×Value)}(r:KV kvs vs):kvs.length=vs.length:=Jq r
end
theorem kE{P:Program}{w:World}{k:Key}{u:Value}(r:qF (kV k) u):(qk P w).is k u=true:=by
 cases k with
 |inl i=>obtain⟨t,e⟩:=(show ∃ t,u=Value.int i t from r);subst e;exact qbT P w i t
 |inr x=>obtain⟨t,e⟩:=(show ∃ t,u=Value.str x t from r);subst e;exact qV P w x t
theorem qaX{P:Program}{w:World}:∀{ks:List Key}{us:List Value},qI (ks.map kV) us->ItemsAre (qk P w) ks us
 | [],_,r=>by rw[Qa] at r;cases r;exact .nil
 |k::ks,_,r=>by
  rw[Jv] at r;cases r with
  |cons h t=>exact .cons (kE h) (qaX t)
abbrev KT(H:Hp):List (List Key×V)->List (List Key×Addr×Value)->Prop:=Paired λ p q=>p.1=q.1/\H q.2.1=some (.tup (p.1.map kV))/\qF p.2 q.2.2
theorem KT.val{H:Hp}{kvs:List (List Key×V)}{xs:List (List Key×Addr×Value)}(r:KT H kvs xs)(k:List Key):vE (qY kvs k) ((atKey xs k).map (·.2)):=by
 induction r with
 |nil=>exact True.intro
 | @cons p q ps qs h t ih =>
  obtain⟨h1,_,h2⟩:=h;by_cases e:p.1=k
  ·have e':q.1=k:=h1.symm.trans e;have b:atKey (q::qs) k=some q.2:=by simp[atKey,Um,e']
   rw[zg e,b];exact h2
  ·have e':¬ q.1=k:=λ z=>e (h1.trans z)
   have b:atKey (q::qs) k=atKey qs k:=by simp[atKey,Um,e']
   rw[zh e,b];exact ih
theorem KT.repl{H:Hp}{kvs:List (List Key×V)}{xs:List (List Key×Addr×Value)}(r:KT H kvs xs)(k:List Key){y:V}{u:Value}(ry:qF y u):
  KT H (kvs.map λ kv=>if kv.1=k then(kv.1,y) else kv) (xs.map (putAt k u)):=by
 induction r with
 |nil=>exact .nil
 | @cons p q ps qs h t ih =>
  rw[Jv,Jv];refine .cons ?_ ih;obtain⟨h1,h2,h3⟩:=h;unfold putAt;by_cases e:p.1=k
  ·rw[Q7 e,Q7 (h1.symm.trans e)];exact⟨h1,h2,ry⟩
  ·rw[Q8 e,Q8 (λ z=>e (h1.trans z))];exact⟨h1,h2,h3⟩
theorem KT.put{H:Hp}{kvs:List (List Key×V)}{xs:List (List Key×Addr×Value)}(r:KT H kvs xs)(k:List Key){b:Addr}{y:V}{u:Value}(hb:H b=some (.tup (k.map kV)))(ry:qF y u):
  KT H (zU kvs k y) (storedH xs k b u):=by
 have e:(kvs.any λ kv=>decide (kv.1=k))=(atKey xs k).isSome:=by
  rw[yD,(r.val k).isSome_eq,Option.isSome_map]
 unfold zU storedH;rw[e];by_cases q:(atKey xs k).isSome=true
 ·rw[Q7 q,Q7 q];exact r.repl k ry
 ·rw[Q8 q,Q8 q];exact Paired.snoc r ⟨rfl,hb,ry⟩
theorem KT.keeps{H H':Hp}{kvs:List (List Key×V)}{xs:List (List Key×Addr×Value)}(r:KT H kvs xs)(ht:∀ b ys,H b=some (.tup ys)->H' b=some (.tup ys)):KT H' kvs xs:=
 Paired.mapP r λ _ _ z=>⟨z.1,ht _ _ z.2.1,z.2.2⟩
section
variable {P:Program}{w:World}{H:Hp}{h:Heap}{a:Addr}
theorem qgR{u:HO}(ok:HOk P w H h)(e:Rd H a u):qQ P w H h a u:=e.ok ok
theorem qaY{kvs:List (Key×V)}(ok:HOk P w H h)(e:Rd H a (.dK kvs)):kvs.length<=sizeLine/\(a == sysModules)=false/\∃ vs,KV kvs vs/\h.DictOf (qk P w) a vs:=
 show qQ P w H h a (.dK kvs) from qgR ok e
theorem qeK{kvs:List (Key×V)}(ok:HOk P w H h)(e:H a=some (.dK kvs)):kvs.length<=sizeLine/\(a == sysModules)=false/\∃ vs,KV kvs vs/\h.DictOf (qk P w) a vs:=qaY ok (.inl e)
theorem kF{ks:List Key}(ok:HOk P w H h)(e:H a=some (.tup (ks.map kV))):(tupleKind (qk P w)).is h ks a:=by
 obtain⟨_,its,r,o,h1,h2,n,h3⟩:=(show qQ P w H h a (.tup (ks.map kV)) from ok a _ e);exact⟨o,its.toArray,n,h1,h2,h3,by simpa using qaX r⟩
theorem qaZ{kvs:List (List Key×V)}(ok:HOk P w H h)(e:Rd H a (.dT kvs)):kvs.length<=sizeLine/\(a == sysModules)=false /\
  ∃ xs,KT H kvs xs/\h.DictOfH (tupleKind (qk P w)) a xs:=by
 obtain⟨z,y,xs,r,o,es,ep,h1,h2,h3,h4,h5⟩:=(show qQ P w H h a (.dT kvs) from qgR ok e);refine⟨z,y,xs,r,o,es,ep,h1,h2,h3,h4,λ x hx=>?_,h5⟩;have all:∀{l:List (List Key×V)}{m:List (List Key×Addr×Value)},KT H l m->∀ x∈m,(tupleKind (qk P w)).is h x.1 x.2.1:=by
  intro l m q;induction q with
  |nil=>intro x hx;exact nomatch hx
  | @cons p q ps qs hq t ih =>
   intro x hx;rcases Js.mp hx with e|hx
   ·subst e;exact kF ok (by rw[<- hq.1];exact hq.2.1)
   ·exact ih x hx
 exact all r x hx
theorem qh7{kvs:List (List Key×V)}(ok:HOk P w H h)(e:H a=some (.dT kvs)):kvs.length<=sizeLine/\(a == sysModules)=false /\
  ∃ xs,KT H kvs xs/\h.DictOfH (tupleKind (qk P w)) a xs:=qaZ ok (.inl e)
end
def j2(H:Hp)(a:Addr)(y:V)(r:Option V):Prop:=
 (∃ kvs k,Rd H a (.dK kvs)/\y=kV k/\r=qY kvs k)∨∃ kvs k b,Rd H a (.dT kvs)/\y=.ref b/\H b=some (.tup (k.map kV))/\r=qY kvs k
def qh8(H:Hp)(a:Addr)(y v:V)(H':Hp):Prop:=
 (∃ kvs k,H a=some (.dK kvs)/\y=kV k/\kvs.length<sizeLine/\H'=upd H a (.dK (zU kvs k v))) ∨
 ∃ kvs k b,H a=some (.dT kvs)/\y=.ref b/\H b=some (.tup (k.map kV))/\kvs.length<sizeLine/\H'=upd H a (.dT (zU kvs k v))
theorem j2.k{H:Hp}{a:Addr}{kvs:List (Key×V)}{k:Key}(e:H a=some (.dK kvs)):j2 H a (kV k) (qY kvs k):=.inl ⟨kvs,k,.inl e,rfl,rfl⟩
section
variable {X:Cx}{pins:List (Addr×Obj)}{σ:St}{H:Hp}{s:Shared}{a:Addr}{y v:V}{u r:Value}{o:Option V}{A:Around}{E:Value->Shared->Prop}
theorem Inv.big(I:Inv X pins σ H s):sysModules<s.heap.objs.size:=by
 have h:mainGlobals<s.heap.objs.size:=(I.mod.glob.keeps I.bk).lt;exact Nat.lt_trans (by decide) h
theorem qdW{Q:Value->Shared->Prop}(hu:A.units+1<cLine)(I:Inv X pins σ H s)(g:j2 H a y (some v))(ry:qF y u)(h:∀ w' s',Inv X pins σ H s'->qF v w'->Q w' s'):
  wpAny (model X.prog X.w) A (getItem (.ref a) u) Q E s:=by
 rcases g with⟨kvs,k,e,ey,l⟩|⟨kvs,k,b,e,ey,eb,l⟩
 ·subst ey;obtain⟨z,hd,vs,rel,dd⟩:=qaY I.hok e;obtain⟨w',hw,S7⟩:=vE.some_of (v:=v) (o:=valueAt vs k) (by rw[l];exact rel.val k);exact wpAny_getItem_of (kE ry) dd.mapOf hw (h w' _ (I.tok _) S7)
 ·subst ey;cases(show u=Value.ref b from ry)
  obtain⟨z,hd,xs,rel,dd⟩:=qaZ I.hok e;obtain⟨w',hw,S7⟩:=vE.some_of (v:=v) (o:=(atKey xs k).map (·.2)) (by rw[l];exact rel.val k);obtain⟨p,hp,aG⟩:=Option.map_eq_some_iff.mp hw;refine wpAny_getItem_heap (Zc hu) (kF I.hok eb) dd hp ?_;rw[aG];exact h w' _ (I.tok _) S7
theorem qiM{Q:Value->Shared->Prop}(hu:A.units+1<cLine)(I:Inv X pins σ H s)(g:j2 H a y o)(ry:qF y u)(h:∀ s',Inv X pins σ H s'->Q (.bool o.isSome) s'):
  wpAny (model X.prog X.w) A (compareOp .In u (.ref a)) Q E s:=by
 rcases g with⟨kvs,k,e,ey,l⟩|⟨kvs,k,b,e,ey,eb,l⟩
 ·subst ey;obtain⟨z,hd,vs,rel,dd⟩:=qaY I.hok e;refine wpAny_in_of (kE ry) hd dd.mapOf ?_;rw[<- (rel.val k).isSome_eq,<- l];exact h _ (I.tok _)
 ·subst ey;cases(show u=Value.ref b from ry)
  obtain⟨z,hd,xs,rel,dd⟩:=qaZ I.hok e;refine wpAny_in_heap (Zc hu) (kF I.hok eb) hd dd ?_;have q:=(rel.val k).isSome_eq;rw[Option.isSome_map] at q;rw[<- q,<- l];exact h _ (I.tok _)
theorem qbk{h':Heap}{t':Nat}{ob:HO}(I:Inv X pins σ H s)(mu:Mut (H a))(hs:Heap.SameBut a s.heap h')(he:∃ q,h'.get? a=some q)(new:qQ X.prog X.w (upd H a ob) h' a ob):
  Inv X pins σ (upd H a ob) { s with heap:=h',toks:=t' }:=
 I.write (x:=a) (e:=a) mu (.inl rfl) (λ b q hb z=>(hs.2 b hb).trans z) he new
theorem kG{P:Program}{w:World}{H':Hp}{h':Heap}{kvs:List (Key×V)}{vs:List (Key×Value)}(z:kvs.length<=sizeLine)(hd:(a == sysModules)=false)(rel:KV kvs vs)(dd:h'.DictOf (qk P w) a vs):
  qQ P w H' h' a (.dK kvs):=⟨z,hd,vs,rel,dd⟩
theorem qdX{H':Hp}{Q:Unit->Shared->Prop}(hu:A.units+1<cLine)(I:Inv X pins σ H s)(g:qh8 H a y v H')(ry:qF y u)(rv:qF v r)(h:∀ s',Inv X pins σ H' s'->Q () s'):
  wpAny (model X.prog X.w) A (setItem (.ref a) u r) Q E s:=by
 rcases g with⟨kvs,k,e,ey,l,eH⟩|⟨kvs,k,b,e,ey,eb,l,eH⟩
 ·subst ey eH;obtain⟨z,hd,vs,rel,dd⟩:=qeK I.hok e;have hz:vs.length<=sizeLine:=by rw[<- rel.length];exact z
  have hl:(zU kvs k v).length<=sizeLine:=by have:=zG kvs k v;omega
  refine wpAny_setItem_pairs (hsz:=hz) (kE ry) dd λ h' cF hs=>h _ ?_
  have he:∃ q,h'.get? a=some q:=let ⟨q,_,_,hq,_⟩:=cF;⟨q,hq⟩;exact qbk I (by rw[e];exact True.intro) hs he (kG hl hd (rel.put k rv) cF)
 ·subst ey eH;cases(show u=Value.ref b from ry)
  obtain⟨z,hd,xs,rel,dd⟩:=qh7 I.hok e;have hz:xs.length<=sizeLine:=by rw[<- Jq rel];exact z
  have hl:(zU kvs k v).length<=sizeLine:=by have:=zG kvs k v;omega
  refine wpAny_setItem_heap (hsz:=hz) (Zc hu) (kF I.hok eb) dd λ h' cF hs=>h _ ?_
  obtain⟨q,es,ep,hq,h2,h3,h4,_,h5⟩:=cF;refine qbk I (by rw[e];exact True.intro) hs ⟨q,hq⟩ ⟨hl,hd,_,(rel.put k eb rv).keeps λ c ys ec=>?_,q,es,ep,hq,h2,h3,h4,h5⟩;rw[qg (qey ec e (λ z=>nomatch z))];exact ec
end
def qhc(i:Expr):Prop:=∀ ov iv,subscripted i false ov iv=operate [ov,iv] (getItem ov iv)
theorem qdv{prog:Program}{w:World}{A:Around}{E:Value->Shared->Prop}{s:Shared}{env:Env}{value t7:Expr}{pos:Pos}{T id:String}{Q:Value->Shared->Prop}(hl:typeLookup (.type T) "__getitem__"=pure (some (.builtin id)))(hs:qhc t7)(h:wpAny (model prog w) A (eval value env) (λ o s₁=>wpAny (model prog w) A (eval t7 env) (λ i s₂=>s₂.TypeIs o T/\wpAny (model prog w) A (getItem o i) Q E s₂) E s₁) E s):
  wpAny (model prog w) A (eval (.Subscript value t7 pos) env) Q E s:=by
 refine Subscript_ (Qq h (λ o s₁ h₁=>Qq h₁ (λ i s₂ h₂=>?_) λ _ _ x=>x) λ _ _ x=>x);obtain⟨hT,h₂⟩:=h₂;unfold subscriptTail;refine Qs ?_;rw[getitemInPython_of_ne hT.not_modules];refine Qs (U2 hT hl ?_);have fin:wpAny (model prog w) A (subscripted t7 false o i) (λ r s₃=>wpAny (model prog w) A (letTemporaryGo value o r >>= λ _=>pure r) Q E s₃) E s₂:=by
  rw[hs o i];exact wpAny_operating (Qq h₂ (λ r s₃ h₃=>Qs (wpAny_letTemporaryGo (Qr h₃))) λ _ _ x=>x)
 first
  |exact Qr (Qs fin)
  |exact Qs (Qr (Qs fin))
  |exact Qs fin
theorem qbX{X:Cx}{pins:List (Addr×Obj)}{σ:St}{H:Hp}{s:Shared}{a:Addr}{y:V}{o:Option V}(I:Inv X pins σ H s)(g:j2 H a y o):s.TypeIs (.ref a) "dict":=by
 rcases g with⟨kvs,k,e,_,_⟩|⟨kvs,k,b,e,_,_,_⟩
 ·obtain⟨_,_,vs,_,dd⟩:=qaY I.hok e;exact dd.typeIs
 ·obtain⟨_,_,xs,_,dd⟩:=qaZ I.hok e;exact dd.typeIs
def qh9(td ty:TE):TE:=λ σ H Q=>td σ H λ x H1=>ty σ H1 λ y H2=>∃ a v,x=.ref a/\j2 H2 a y (some v)/\Q v H2
def qiN(ty td:TE):TE:=λ σ H Q=>ty σ H λ y H1=>td σ H1 λ x H2=>∃ a o,x=.ref a/\j2 H2 a y o/\Q (.bl o.isSome) H2
def qia(td ty tv:TE):TS:=λ D σ H=>tv σ H λ v H1=>td σ H1 λ x H2=>ty σ H2 λ y H3=>∃ a H4,x=.ref a/\qh8 H3 a y v H4/\D.nx σ H4
section
variable {X:Cx}{o i e value:Expr}{pos o9 i9:Pos}{td ty tv:TE}
theorem kc(hu:X.A.units+1<cLine)(ho:PE X o td)(hi:PE X i ty)(hs:qhc i):PE X (.Subscript o i pos) (qh9 td ty):=by
 intro pins s σ H Q I h;refine qdv PySem.F.slot_dict_getitem.lookup hs (thn (ho pins s σ H _ I h) λ u s1 ⟨x,H1,I1,rx,q1⟩=>thn (hi pins s1 σ H1 _ I1 q1) λ iv s2 ⟨y,H2,I2,ry,a,v,ex,g,q2⟩=>?_);subst ex;obtain rfl:u=Value.ref a:=rx;exact⟨qbX I2 g,qdW hu I2 g ry λ w' s3 I3 S7=>⟨v,H2,I3,S7,q2⟩⟩
theorem qhd(hu:X.A.units+1<cLine)(hi:PE X i ty)(ho:PE X o td):PC X .In i o (qiN ty td):=by
 intro pins s σ H Q I h;refine thn (hi pins s σ H _ I h) λ iv s1 ⟨y,H1,I1,ry,q1⟩=>thn (ho pins s1 σ H1 _ I1 q1) λ u s2 ⟨x,H2,I2,rx,a,ov,ex,g,q2⟩=>?_
 subst ex;obtain rfl:u=Value.ref a:=rx;exact qiM hu I2 g ry λ s3 I3=>⟨.bl ov.isSome,H2,I3,rfl,q2⟩
theorem qbl(hu:X.A.units+1<cLine)(ho:PE X o td)(hi:PE X i ty)(hv:PE X value tv)(hs:swapsWith value (some (.Subscript o i o9)) pos.line X.env=pure false):
  PS X (.Assign [.Subscript o i o9] value pos) (qia td ty tv):=by
 intro pins s σ H D I h;refine wpAny_Assign_Subscript (thn (hv pins s σ H _ I h) λ r s1 ⟨v,H1,I1,rv,q1⟩=>thn (ho pins s1 σ H1 _ I1 q1) λ u s2 ⟨x,H2,I2,rx,q2⟩=>thn (hi pins s2 σ H2 _ I2 q2) λ iv s3 ⟨y,H3,I3,ry,a,H4,ex,g,q3⟩=>?_) hs;subst ex;obtain rfl:u=Value.ref a:=rx;exact qdX hu I3 g ry rv λ s4 I4=>⟨σ,H4,I4,q3⟩
end
theorem qbY{P:Program}{w:World}{H:Hp}(h:Heap)(hb:sysModules<h.objs.size):qQ P w H (h.push { cls:=.type "dict",data:=.dict #[] }) h.objs.size (.dK []):=
 ⟨Qm _,Yy.mpr (Q2 (J6 hb)),[],.nil,Heap.DictOf.new h⟩
def qhe:TE:=λ _ H Q=>∀ p,H p=none->Q (.ref p) (upd H p (.dK []))
section
variable {X:Cx}{pos:Pos}
theorem qbZ:PE X (.Dict [] [] pos) qhe:=λ pins s σ H Q I h =>
 wpAny_Dict_empty ⟨.ref s.heap.objs.size,_,I.laid (a:=s.heap.objs.size) (o:=.dK []) (t':=s.toks) (λ _ _ q=>X9 _ q) (Ql _) (qbY s.heap I.big),rfl,h _ (I.hok.fresh (Ql _))⟩
end
def qcJ:List (TE×TE)->St->Hp->(List (V×V)->Hp->Prop)->Prop
 | [],_,H,Q=>Q [] H
 |(tk,tv)::r,σ,H,Q=>tk σ H λ x H1=>tv σ H1 λ y H2=>qcJ r σ H2 λ ps H3=>Q ((x,y)::ps) H3
abbrev VV:List (V×V)->List (Value×Value)->Prop:=Paired λ p q=>qF p.1 q.1/\qF p.2 q.2
def PPs(X:Cx)(pos:Pos)(keys:List (Option Expr))(w4:List Expr)(S5:List (TE×TE)):Prop:=
 ∀(pins:List (Addr×Obj))(s:Shared)(σ:St)(H:Hp)(Q:List (V×V)->Hp->Prop),Inv X pins σ H s->qcJ S5 σ H Q ->
  wpAny (model X.prog X.w) X.A (evalPairs (pairTrees keys w4 X.env pos)) (λ vs s'=>∃ ps H',Inv X pins σ H' s'/\VV ps vs/\Q ps H') X.xe s
theorem qf5{X:Cx}{pos:Pos}:PPs X pos [] [] []:=λ pins s σ H Q I h=>pairTrees_nil_walk ⟨[],H,I,.nil,h⟩
theorem kH{X:Cx}{pos:Pos}{k v:Expr}{ks:List (Option Expr)}{vs:List Expr}{tk tv:TE}{S5:List (TE×TE)}(hk:PE X k tk)(hv:PE X v tv)(hr:PPs X pos ks vs S5):
  PPs X pos (some k::ks) (v::vs) ((tk,tv)::S5):=λ pins s σ H Q I h =>
 pairTrees_cons_walk (thn (hk pins s σ H _ I h) λ u s1 ⟨x,H1,I1,rx,q1⟩=>thn (hv pins s1 σ H1 _ I1 q1) λ w2 s2 ⟨y,H2,I2,ry,q2⟩ =>
  thn (hr pins s2 σ H2 _ I2 q2) λ ws s3 ⟨ps,H3,I3,rel,q3⟩=>⟨(x,y)::ps,H3,I3,.cons ⟨rx,ry⟩ rel,q3⟩)
def qu(kvs more:List (Key×V)):List (Key×V):=more.foldl (λ d6 kv=>zU d6 kv.1 kv.2) kvs
theorem KV.merge:∀{more:List (Key×V)}{rs:List (Key×Value)}{kvs:List (Key×V)}{vs:List (Key×Value)},KV more rs->KV kvs vs->KV (qu kvs more) (merged vs rs):=by
 intro more rs kvs vs r;unfold KV at r;induction r generalizing kvs vs with
 |nil=>intro q;exact q
 | @cons p q ps qs h t ih =>
  intro r0;have e:KV (zU kvs p.1 p.2) (stored vs q.1 q.2):=by
   have:=r0.put p.1 h.2
   rw[<- h.1];exact this
  exact ih e
theorem yc:∀(more kvs:List (Key×V)),(qu kvs more).length<=kvs.length+more.length
 | [],kvs=>by show kvs.length<=kvs.length+0;omega
 |p::r,kvs=>by
  have h1:=yc r (zU kvs p.1 p.2);have h2:=zG kvs p.1 p.2;show(qu (zU kvs p.1 p.2) r).length<=_
  rw[Zz];omega
theorem kI{P:Program}{w:World}:∀{kvs:List (Key×V)}{ws:List (Value×Value)},VV (kvs.map λ kv=>(kV kv.1,kv.2)) ws->∃ rs,Carries (qk P w) ws rs/\KV kvs rs
 | [],_,r=>by rw[Qa] at r;cases r;exact⟨[],True.intro,.nil⟩
 |p::kvs,_,r=>by
  rw[Jv] at r;cases r with
  | @cons a b as bs h t =>
   obtain⟨rs,c,q⟩:=kI (P:=P) (w:=w) t;obtain⟨b1,b2⟩:=b;exact⟨(p.1,b2)::rs,⟨kE h.1,rfl,c⟩,.cons ⟨rfl,h.2⟩ q⟩
def qib(S5:List (TE×TE)):TE:=λ σ H Q=>∀ p,H p=none->qcJ S5 σ (upd H p (.dK [])) λ ps H2=>H2 p=some (.dK [])/\∃ kvs:List (Key×V),ps=kvs.map (λ kv=>(kV kv.1,kv.2))/\kvs.length<=15/\Q (.ref p) (upd H2 p (.dK (qu [] kvs)))
theorem qf6{X:Cx}{pos:Pos}{keys:List (Option Expr)}{w4:List Expr}{S5:List (TE×TE)}(h:PPs X pos keys w4 S5)(bU:keys.all (·.isSome)=true)(hl:keys.length=w4.length)(h0:keys≠[])(h15:keys.length<=15):PE X (.Dict keys w4 pos) (qib S5):=by
 intro pins s σ H Q I q;have hn:=I.hok.fresh (Ql s.heap.objs.size);have I1:=I.laid (a:=s.heap.objs.size) (o:=.dK []) (h':=s.heap.push { cls:=.type "dict",data:=.dict #[] }) (t':=s.toks) (λ _ _ q=>X9 _ q) (Ql _) (qbY s.heap I.big);refine wpAny_Dict_walk (knd:=qk X.prog X.w) bU hl h0 h15 (thn (h pins _ σ _ _ I1 (q _ hn)) λ ws s2 ⟨ps,H2,I2,rel,e,kvs,ep,lk,q2⟩=>?_);subst ep;obtain⟨rs,c,rk⟩:=kI (P:=X.prog) (w:=X.w) rel;obtain⟨z,hd,vs0,r0,dd⟩:=qeK I2.hok e;cases r0
 refine⟨rs,c,dd,λ h' cF hs=>⟨.ref s.heap.objs.size,_,?_,rfl,q2⟩⟩;have hz:(qu [] kvs).length<=sizeLine:=by
  have h1:=yc kvs [];rw[List.length_nil] at h1;rw[sizeLine_eq];omega
 have he:∃ q,h'.get? s.heap.objs.size=some q:=let ⟨q,_,_,hq,_⟩:=cF;⟨q,hq⟩;exact qbk I2 (by rw[e];exact True.intro) hs he (kG hz hd (rk.merge .nil) cF)
structure M2(X:Cx)(o:Expr)(m:Str)(apos:Pos)(e f:Expr)(cpos:Pos):Prop where
 base:attributeBase o m X.env (eval o X.env)=eval o X.env
 few:((backTo cpos (starEach [e,f] X.env)).all (λ x=>!x.1) && (backToKw cpos (keywordEach [] X.env)).all (λ x=>x.1.isSome)
  && decide (([e,f]:List Expr).length+([]:List Keyword).length+(if ([]:List Keyword).isEmpty then 0 else 1)<30))=true
 line:(apos.endLine == cpos.line)=true
 trees:backTo cpos (starEach [e,f] X.env)=[(false,eval e X.env),(false,eval f X.env)]
def IsD(H:Hp)(a:Addr):Prop:=(∃ kvs,Rd H a (.dK kvs))∨∃ kvs,Rd H a (.dT kvs)
theorem qhf{X:Cx}{pins:List (Addr×Obj)}{σ:St}{H:Hp}{s:Shared}{a:Addr}(I:Inv X pins σ H s)(d:IsD H a):
  s.TypeIs (.ref a) "dict"/\(∀ b,Value.ref a=.ref b->∃ ob,s.heap.get? b=some ob/\ob.dict=none)/\(a == sysModules)=false:=by
 rcases d with⟨kvs,e⟩|⟨kvs,e⟩
 ·obtain⟨_,hd,vs,_,dd⟩:=qaY I.hok e;refine⟨dd.typeIs,λ b q=>?_,hd⟩;cases q
  obtain⟨ob,_,_,h1,h2,_⟩:=dd;exact⟨ob,h1,h2.2.1⟩
 ·obtain⟨_,hd,xs,_,dd⟩:=qaZ I.hok e;refine⟨dd.typeIs,λ b q=>?_,hd⟩;cases q
  obtain⟨ob,_,_,h1,h2,_⟩:=dd;exact⟨ob,h1,h2.2.1⟩
section
variable {X:Cx}{pins:List (Addr×Obj)}{σ:St}{H:Hp}{s:Shared}{a:Addr}{y d:V}{u r:Value}{o:Option V}{A:Around}{E:Value->Shared->Prop}
theorem qhg{Q:Value->Shared->Prop}(hu:A.units+1<cLine)(I:Inv X pins σ H s)(g:j2 H a y o)(ry:qF y u)(rd:qF d r)(h:∀ w' s',Inv X pins σ H s'->qF (o.getD d) w'->Q w' s'):
  wpAny (model X.prog X.w) A (call (.builtin "dict.get") [.ref a,u,r]) Q E s:=by
 rcases g with⟨kvs,k,e,ey,l⟩|⟨kvs,k,b,e,ey,eb,l⟩
 ·subst ey;obtain⟨z,hd,vs,rel,dd⟩:=qaY I.hok e;refine call_meetsIn XJ dd.typeIs PySem.F.entry_dict_get (PySem.F.args_dict_get_3 _ _ _) (meets_dict_get_default (qk X.prog X.w) a (kE ry) hd r) ⟨_,dd.mapOf,h _ _ (I.tok _) ?_⟩;rw[l];exact(rel.val k).getD rd
 ·subst ey;cases(show u=Value.ref b from ry)
  obtain⟨z,hd,xs,rel,dd⟩:=qaZ I.hok e;refine call_meetsIn XJ dd.typeIs PySem.F.entry_dict_get (PySem.F.args_dict_get_3 _ _ _) (meetsH_dict_get_default (tupleKind (qk X.prog X.w)) a b hd r) ⟨Zc hu,k,xs,kF I.hok eb,dd,h _ _ (I.tok _) ?_⟩;rw[l];exact(rel.val k).getD rd
end
def qhh(td ty tx:TE):TE:=λ σ H Q=>td σ H λ x H1=>∃ a,x=.ref a/\IsD H1 a/\ty σ H1 λ y H2=>tx σ H2 λ z H3=>∃ o,j2 H3 a y o/\Q (o.getD z) H3
section
variable {X:Cx}{o e f:Expr}{apos cpos:Pos}{td ty tx:TE}
theorem qeL(hu:X.A.units+1<cLine)(ho:PE X o td)(he:PE X e ty)(hf:PE X f tx)(m:M2 X o "get" apos e f cpos):PE X (.Call (.Attribute o "get" apos) [e,f] [] cpos) (qhh td ty tx):=by
 intro pins s σ H Q I h;refine wpAny_Call_method m.base m.few m.line PySem.F.plainAttrs_dict XJ PySem.F.type_dict_get (thn (ho pins s σ H _ I h) λ u s1 ⟨x,H1,I1,rx,a,ex,d,q1⟩=>?_);subst ex;obtain rfl:u=Value.ref a:=rx;obtain⟨t1,t2,_⟩:=qhf I1 d;refine⟨t1,t2,?_⟩;rw[m.trees];refine XA rfl (Calls.evalArgs_plain (Y3 (thn (he pins s1 σ H1 _ I1 q1) λ iv s2 ⟨y,H2,I2,ry,q2⟩ =>
  Y3 (thn (hf pins s2 σ H2 _ I2 q2) λ fv s3 ⟨z,H3,I3,rz,ov,g,q3⟩=>Calls.spliced_nil ?_))))
 exact qhg hu I3 g ry rz λ w' s4 I4 S7=>⟨_,H3,I4,S7,q3⟩
end
end L2
namespace HT
open PySem PyProof.Rows
section
variable {prog:Program}{w:World}{A:Around}{E:Value->Shared->Prop}{s:Shared}
def sIx(n d:Nat):Option Int->Nat
 |none=>d
 |some v=>if v<0 then(v+(n:Int)).toNat else min v.toNat n
theorem sIx_nat(n d k:Nat):sIx n d (some (k:Int))=min k n:=by
 show(if (k:Int)<0 then((k:Int)+(n:Int)).toNat else min (k:Int).toNat n)=min k n
 rw[Q8 (by omega),Zf]
end
end HT
namespace L2
open PySem PySem.Spec PyProof.Rows
abbrev TO:=St->Hp->(Option Int->Hp->Prop)->Prop
def PO(X:Cx)(e:Option Expr)(t:TO):Prop:=
 ∀(pins:List (Addr×Obj))(s:Shared)(σ:St)(H:Hp)(Q:Option Int->Hp->Prop),Inv X pins σ H s->t σ H Q ->
  wpAny (model X.prog X.w) X.A (evalPart e X.env) (λ u s'=>∃ o H',Inv X pins σ H' s'/\IsPart u o/\Q o H') X.xe s
def qf7:TO:=λ _ H Q=>Q none H
def qic(t:TE):TO:=λ σ H Q=>t σ H λ x H1=>∃ i,x=.int i/\Q (some i) H1
section
variable {X:Cx}{e:Expr}{te:TE}{lo hi:Option Expr}{tl th:TO}{pos p2:Pos}
theorem qdw:PO X none qf7:=by
 intro pins s σ H Q I h;rw[evalPart_none];exact Qr ⟨none,H,I,.none,h⟩
theorem qdx(h:PE X e te):PO X (some e) (qic te):=by
 intro pins s σ H Q I hw;rw[evalPart_some];refine thn (h pins s σ H _ I hw) λ u s1 ⟨x,H1,I1,r1,q1⟩=>?_
 obtain⟨i,rfl,q⟩:=q1;obtain⟨t,rfl⟩:=r1;exact⟨some i,H1,I1,.int i t,q⟩
def SlR(X:Cx)(r:V->Option Int->Option Int->Hp->VK->Prop):Prop:=
 ∀(pins:List (Addr×Obj))(s:Shared)(σ:St)(H:Hp)(x:V)(v vl vu:Value)(lo hi:Option Int)(sl:Addr)(Q:VK),Inv X pins σ H s->qF x v->s.heap.IsSliceOf sl vl vu .none->IsPart vl lo->IsPart vu hi->r x lo hi H Q ->
  ∃ T id,typeLookup (.type T) "__getitem__"=pure (some (.builtin id))/\s.TypeIs v T/\wpAny (model X.prog X.w) X.A (getItem v (.ref sl)) (EP X pins σ Q) X.xe s
def tSl(r:V->Option Int->Option Int->Hp->VK->Prop)(te:TE)(tl th:TO):TE:=λ σ H Q=>te σ H λ x H1=>tl σ H1 λ l H2=>th σ H2 λ u H3=>r x l u H3 Q
theorem qb0{r:V->Option Int->Option Int->Hp->VK->Prop}(hr:SlR X r)(he:PE X e te)(hl:PO X lo tl)(hu:PO X hi th):PE X (.Subscript e (.Slice lo hi none p2) pos) (tSl r te tl th):=by
 intro pins s σ H Q I h;refine Subscript_ (thn (he pins s σ H _ I h) λ v s1 ⟨x,H1,I1,r1,q1⟩=>?_);refine wpAny_Slice (thn (hl pins s1 σ H1 _ I1 q1) λ vl s2 ⟨l,H2,I2,pl,q2⟩=>thn (hu pins s2 σ H2 _ I2 q2) λ vu s3 ⟨u,H3,I3,pu,q3⟩=>?_);rw[evalPart_none];refine Qr ?_;have I4:Inv X pins σ H3 { s3 with heap:=s3.heap.push { cls:=.type "slice",data:=.fields #[vl,vu,.none] } }:=I3.kept (t':=s3.toks) λ b ob q=>X9 _ q
 obtain⟨T,id,hT,ht,hg⟩:=hr pins { s3 with heap:=s3.heap.push { cls:=.type "slice",data:=.fields #[vl,vu,.none] } } σ H3 x v vl vu l u s3.heap.objs.size Q I4 r1 (Heap.IsSliceOf.new ..) pl pu q3;show wpAny (model X.prog X.w) X.A (subscriptTail e (.Slice lo hi none p2) v (.ref s3.heap.objs.size)) (EP X pins σ Q) X.xe { s3 with heap:=s3.heap.push { cls:=.type "slice",data:=.fields #[vl,vu,.none] } }
 exact tail_any (ops:=[.ref s3.heap.objs.size,v]) ht hT hg (by with_unfolding_all rfl)
def qb1(xs:List V)(lo hi:Option Int):List V:=(xs.drop (HT.sIx xs.length 0 lo)).take (HT.sIx xs.length xs.length hi-HT.sIx xs.length 0 lo)
theorem qb2(xs:List V)(lo hi:Option Int):(qb1 xs lo hi).length<=xs.length:=by
 unfold qb1;rw[Zy,Z0];omega
end
def ixN(n:Nat)(i:Int):Option Nat:=if 0<=i then(if i<n then some i.toNat else none) else if -(n:Int)<=i then some (i+n).toNat else none
def atI{α:Type}(xs:List α)(i:Int):Option α:=(ixN xs.length i).bind λ j=>xs[j]?
theorem qf8{n:Nat}{i:Int}{j:Nat}(h:ixN n i=some j):seqIndex? i n=some j/\j<n/\-(n:Int)<=i/\i<n:=by
 unfold ixN at h;by_cases h0:0<=i
 ·rw[Q7 h0] at h;by_cases h1:i<n
  ·rw[Q7 h1] at h;have e:i.toNat=j:=Option.some.inj h;exact⟨by rw[seqIndex_of h0 h1,e],by omega,by omega,h1⟩
  ·rw[Q8 h1] at h;cases h
 ·rw[Q8 h0] at h;by_cases h1:-(n:Int)<=i
  ·rw[Q7 h1] at h;have e:(i+n).toNat=j:=Option.some.inj h;exact⟨by rw[seqIndex_neg (by omega) h1,e],by omega,h1,by omega⟩
  ·rw[Q8 h1] at h;cases h
theorem qf9{α:Type}{xs:List α}{i:Int}{v:α}(h:atI xs i=some v):∃ j,seqIndex? i xs.length=some j/\xs[j]?=some v/\j<xs.length/\-(xs.length:Int)<=i/\i<xs.length:=by
 unfold atI at h;cases e:ixN xs.length i with
 |none=>rw[e] at h;cases h
 |some j =>
  rw[e] at h;obtain⟨h1,h2,h3,h4⟩:=qf8 e;exact⟨j,h1,h,h2,h3,h4⟩
theorem jd{α:Type}{xs:List α}{j:Nat}{v:α}(h:xs[j]?=some v):atI xs (j:Int)=some v:=by
 have hj:j<xs.length:=(Xl.mp h).1;have e:ixN xs.length (j:Int)=some j:=by
  unfold ixN;rw[Q7 (by omega),Q7 (by omega)];simp
 unfold atI;rw[e];exact h
def qga(b:Expr):Prop:=∀ o i,subscripted b false o i=operate [o,i] (getItem o i)
def IxR(X:Cx)(r:R2):Prop:=
 ∀(value t7:Expr)(pins:List (Addr×Obj))(s:Shared)(σ:St)(H:Hp)(x y:V)(v u:Value)(Q:VK),Inv X pins σ H s->qF x v->qF y u->r x y H Q ->
  subscripted t7 false v u=operate [v,u] (getItem v u)->wpAny (model X.prog X.w) X.A (subscriptTail value t7 v u) (EP X pins σ Q) X.xe s
def MtR(X:Cx)(id:String)(r:V->List V->Hp->VK->Prop):Prop:=
 ∀(pins:List (Addr×Obj))(s:Shared)(σ:St)(H:Hp)(x:V)(xs:List V)(v:Value)(us:List Value)(Q:VK),Inv X pins σ H s->qF x v->qI xs us->r x xs H Q ->
  wpAny (model X.prog X.w) X.A (call (.builtin id) (v::us)) (EP X pins σ Q) X.xe s
section
variable {X:Cx}{a b:Expr}{ta tb:TE}{pos:Pos}
theorem ju{r:R2}(hr:IxR X r)(ha:PE X a ta)(hb:PE X b tb)(hs:qga b):PE X (.Subscript a b pos) (tOp r ta tb):=by
 intro pins s σ H Q I h;exact Subscript_ (qg6 ha hb I h λ v u s2 x y H2 I2 rx ry q=>hr a b pins s2 σ H2 x y v u Q I2 rx ry q (hs _ _))
def qid(K:W.Frag):R2:=λ x y H Q=>∃ p xs i v,x=.ref p/\y=.int i/\SqL K H p xs/\atI xs i=some v/\Q v H
theorem zQ:IxR X (qid X.K):=by
 intro value t7 pins s σ H x y v u Q I rx ry h hs;obtain⟨p,xs,i,z,rfl,rfl,hq,he,q⟩:=h;cases rx
 obtain⟨t,rfl⟩:=ry;obtain⟨its,r,pl,hz⟩:=I.list hq;obtain⟨j,h1,h2,h3,h4,h5⟩:=qf9 he;obtain⟨w,ew,S7⟩:=r.get h2;have hl:=r.length;have hn:=kB;have fin:EP X pins σ Q w s:=⟨z,H,I,S7,q⟩;by_cases h0:0<=i
 ·have hj:i.toNat=j:=by
   rw[seqIndex_of h0 h5] at h1;exact Option.some.inj h1
  exact item_listR pl.isList h0 (by omega) (by rw[hj];simpa using ew) fin hs
 ·have hj:(i+(its.toArray.size:Int)).toNat=j:=by
   rw[seqIndex_neg (by omega) h4] at h1;rw[Zg,<- hl];exact Option.some.inj h1
  exact subscriptTail_builtinR (x:=w) pl.isList.typeIs slot_list_getitem.lookup
   (wpAny_getItem_list_neg (Q:=λ r s'=>r=w/\EP X pins σ Q r s') pl.isList (by omega) (by rw[Zg] <;> omega) (by omega) (by rw[hj];simpa using ew) ⟨rfl,fin⟩) hs
theorem qbm(lo hi:Option Int)(n:Nat):(sliceBounds lo hi none n).1=((HT.sIx n 0 lo:Nat):Int)/\(sliceBounds lo hi none n).2.1=((HT.sIx n n hi:Nat):Int)/\(sliceBounds lo hi none n).2.2=1:=by
 refine⟨?_,?_,rfl⟩
 ·cases lo with
  |none=>simp[sliceBounds,HT.sIx]
  |some i =>
   simp only[sliceBounds,HT.sIx,Option.getD_none,show(1:Int) > 0 by decide,Q4];by_cases h:i<0
   ·simp only[h,Q4] <;> omega
   ·simp only[h,Qy] <;> omega
 ·cases hi with
  |none=>simp[sliceBounds,HT.sIx]
  |some i =>
   simp only[sliceBounds,HT.sIx,Option.getD_none,show(1:Int) > 0 by decide,Q4];by_cases h:i<0
   ·simp only[h,Q4] <;> omega
   ·simp only[h,Qy] <;> omega
theorem qaJ(its:List Value)(lo hi:Option Int):slicePick its.toArray lo hi none=((its.drop (HT.sIx its.length 0 lo)).take (HT.sIx its.length its.length hi-HT.sIx its.length 0 lo)).toArray:=by
 obtain⟨h1,h2,h3⟩:=qbm lo hi its.toArray.size;unfold slicePick;rw[h1,h2,h3];simp only[sliceRange_one,pick_run,Zg] <;> rfl
def qiO(K:W.Frag):V->Option Int->Option Int->Hp->VK->Prop:=λ x lo hi H Q=>∃ a xs,x=.ref a/\SqL K H a xs/\∀ p,H p=none->Q (.ref p) (upd H p (.lst (qb1 xs lo hi)))
theorem qdy:SlR X (qiO X.K):=by
 intro pins s σ H x v vl vu lo hi sl Q I rx hs pl pu h;obtain⟨a,xs,rfl,hx,q⟩:=h;cases rx
 obtain⟨its,r,ht,hz⟩:=I.list hx;have d5:=r.length;refine⟨"list",_,slot_list_getitem.lookup,ht.isList.typeIs,?_⟩;refine wpAny_getItem_list_slice ht.isList hs pl pu .none (by simp) ?_ (by rw[Zg] <;> omega);rw[qaJ,<- d5];refine⟨.ref s.heap.objs.size,_,I.laid (t':=s.toks) (o:=.lst (qb1 xs lo hi)) (λ b ob q=>X9 _ q) (Ql _) ?_,rfl,q _ (I.hok.fresh (Ql _))⟩;exact⟨J7 (qb2 xs lo hi) hz,_,0,(r.drop (HT.sIx xs.length 0 lo)).take (HT.sIx xs.length xs.length hi-HT.sIx xs.length 0 lo),Yn _ rfl⟩
def qeM:V->Bool
 |.non=>true
 |.bl _=>true
 |.int _=>true
 |.str _=>true
 |_=>false
def eqV:V->V->Bool
 |.non,.non=>true
 |.bl a,.bl b=>a == b
 |.bl a,.int b=>(if a then 1 else 0) == b
 |.int a,.bl b=>a == (if b then 1 else 0)
 |.int a,.int b=>a == b
 |.str a,.str b=>a == b
 |_,_=>false
theorem qhi{A:Around}{s:Shared}{y x:V}{u v:Value}(ry:qF y u)(rx:qF x v)(fy:qeM y=true)(fx:qeM x=true):SeqAt.EqAt A s u v (eqV y x):=by
 cases y with
 |non =>
  cases ry
  cases x with
  |non=>cases rx;exact SeqAt.EqAt.same _
  |bl b=>cases rx;exact SeqAt.EqAt.none_bool b
  |int b=>obtain⟨t,rfl⟩:=rx;exact SeqAt.EqAt.none_int b t
  |str b=>obtain⟨t,rfl⟩:=rx;exact SeqAt.EqAt.none_str b t
  |_=>exact absurd (show false=true from fx) Y2
 |bl a =>
  cases ry
  cases x with
  |non=>cases rx;exact SeqAt.EqAt.bool_none a
  |bl b=>cases rx;exact SeqAt.EqAt.bool_bool a b
  |int b=>obtain⟨t,rfl⟩:=rx;exact SeqAt.EqAt.bool_int a b t
  |str b=>obtain⟨t,rfl⟩:=rx;exact SeqAt.EqAt.bool_str a b t
  |_=>exact absurd (show false=true from fx) Y2
 |int a =>
  obtain⟨t',rfl⟩:=ry;cases x with
  |non=>cases rx;exact SeqAt.EqAt.int_none a t'
  |bl b=>cases rx;exact SeqAt.EqAt.int_bool a t' b
  |int b=>obtain⟨t,rfl⟩:=rx;exact SeqAt.EqAt.int_int a t' b t
  |str b=>obtain⟨t,rfl⟩:=rx;exact SeqAt.EqAt.int_str a t' b t
  |_=>exact absurd (show false=true from fx) Y2
 |str a =>
  obtain⟨t',rfl⟩:=ry;cases x with
  |non=>cases rx;exact SeqAt.EqAt.str_none a t'
  |bl b=>cases rx;exact SeqAt.EqAt.str_bool a t' b
  |int b=>obtain⟨t,rfl⟩:=rx;exact SeqAt.EqAt.str_int a t' b t
  |str b=>obtain⟨t,rfl⟩:=rx;exact SeqAt.EqAt.str_str a t' b t
  |_=>exact absurd (show false=true from fx) Y2
 |_=>exact absurd (show false=true from fy) Y2
theorem zl:yB X (.builtin "len") (λ xs H Q=>∃ p ys,xs=[.ref p]/\(SqL X.K H p ys∨SqT X.K H p ys)/\Q (.int ys.length) H):=by
 intro pins s σ H xs us Q I r h;obtain⟨p,ys,rfl,hq,q⟩:=h;obtain⟨u,rfl,rx⟩:=yn r;cases rx
 have hn:=kB;rcases hq with hq|hq
 ·obtain⟨its,r',pl,hz⟩:=I.list hq;have d5:=r'.length;exact Calls.call_len_list pl.isList (by simp only[Zg] <;> omega) ⟨.int ys.length,H,I.tok _,⟨s.toks+1,by rw[Zg,d5]⟩,q⟩
 ·obtain⟨its,r',pl,hz⟩:=I.tuple hq;have d5:=r'.length;exact len_tuple pl (by simp only[Zg] <;> omega) ⟨.int ys.length,H,I.tok _,⟨s.toks+1,by rw[Zg,d5]⟩,q⟩
theorem zm:yB X (.builtin "len") (λ xs H Q=>∃ z,xs=[.str z]/\z.length<=sizeLine/\Q (.int z.length) H):=by
 intro pins s σ H xs us Q I r h;obtain⟨z,rfl,hz,q⟩:=h;obtain⟨u,rfl,t,rfl⟩:=yn r;have hn:=kB;exact len_str (by omega) ⟨.int z.length,H,I.tok _,⟨_,rfl⟩,q⟩
theorem yp:yB X (.type "list") (λ xs H Q=>∃ p ys,xs=[.ref p]/\(SqL X.K H p ys∨SqT X.K H p ys)/\∀ l,H l=none->Q (.ref l) (upd H l (.lst ys))):=by
 intro pins s σ H xs us Q I r h;obtain⟨p,ys,rfl,hq,q⟩:=h;obtain⟨u,rfl,rx⟩:=yn r;cases rx
 have fin:∀(its:List Value),qI ys its->ys.length<=sizeLine->∀(h':Heap)(c':Nat),(∀ b o',s.heap.get? b=some o'->h'.get? b=some o') ->
   h'.get? s.heap.objs.size=some { cls:=.type "list",dict:=none,data:=.seq its.toArray c',slots:=#[] }->EP X pins σ Q (.ref s.heap.objs.size) { s with heap:=h' }:=λ its r' hz h' c' kp e =>
  ⟨.ref s.heap.objs.size,_,I.laid (t':=s.toks) kp (Ql _) (show qQ X.prog X.w _ h' _ (.lst ys) from⟨hz,its,c',r',e⟩),rfl,q _ (I.hok.fresh (Ql _))⟩
 rcases hq with hq|hq
 ·obtain⟨its,r',pl,hz⟩:=I.list hq;have d5:=r'.length;obtain⟨o,ho,hc,n,hd⟩:=pl.isList;exact call_list_seq p (.inl rfl) ho hc hd (λ h' c' kp e=>fin its r' hz h' c' kp e) (by simp only[Zg] <;> omega)
 ·obtain⟨its,r',pl,hz⟩:=I.tuple hq;have d5:=r'.length;obtain⟨o,ho,hc,n,hd⟩:=pl;exact call_list_seq p (.inr rfl) ho hc hd (λ h' c' kp e=>fin its r' hz h' c' kp e) (by simp only[Zg] <;> omega)
theorem yW:yB X (.type "tuple") (λ xs H Q=>∃ p ys,xs=[.ref p]/\((SqL X.K H p ys/\∀ l,H l=none->Q (.ref l) (upd H l (.tup ys)))∨(SqT X.K H p ys/\Q (.ref p) H))):=by
 intro pins s σ H xs us Q I r h;obtain⟨p,ys,rfl,h⟩:=h;obtain⟨u,rfl,rx⟩:=yn r;cases rx
 rcases h with⟨hq,q⟩|⟨hq,q⟩
 ·obtain⟨its,r',pl,hz⟩:=I.list hq;have d5:=r'.length;refine call_tuple_list pl.isList (λ h' kp=>?_) (by simp only[Zg] <;> omega);have I1:Inv X pins σ H { s with heap:=h' }:=I.kept (t':=s.toks) kp;have I2:Inv X pins σ (upd H h'.objs.size (.tup ys)) { s with heap:=h'.push { cls:=.type "tuple",data:=.seq its.toArray } }:=
   I1.laid (t':=s.toks) (λ b o e=>X9 _ e) (Ql _) (show qQ X.prog X.w _ _ _ (.tup ys) from⟨hz,its,r',IsTup.new _ _⟩)
  exact⟨.ref h'.objs.size,_,I2,rfl,q _ (I1.hok.fresh (Ql _))⟩
 ·obtain⟨its,r',pl,hz⟩:=I.tuple hq;exact call_tuple_same pl ⟨.ref p,H,I,rfl,q⟩
def tyV(K:W.Frag)(T:String)(x:V)(H:Hp):Prop:=match x with
 | .str _=>T="str"
 | .int _=>T="int"
 | .ref p=>(T="list"/\∃ xs,SqL K H p xs)∨(T="tuple"/\∃ o,K.lookup p=some o/\o.cls=.type "tuple"/\o.dict=none) ∨
   (T="dict"/\((∃ kvs,H p=some (.dK kvs))∨∃ kvs,H p=some (.dT kvs)))∨(T="set"/\∃ S n,H p=some (.set S n))
 |_=>False
theorem qcK{pins:List (Addr×Obj)}{σ:St}{H:Hp}{s:Shared}{T:String}{x:V}{v:Value}(I:Inv X pins σ H s)(r:qF x v)(ty:tyV X.K T x H):
  s.TypeIs v T/\∀ a,v=.ref a->∃ ob,s.heap.get? a=some ob/\ob.dict=none:=by
 cases x with
 |str z =>
  obtain⟨t,rfl⟩:=r;cases(show T="str" from ty)
  exact⟨Qt s z t,λ _ e=>nomatch e⟩
 |int i =>
  obtain⟨t,rfl⟩:=r;cases(show T="int" from ty)
  exact⟨typeIs_int s i t,λ _ e=>nomatch e⟩
 |ref p =>
  cases r
  rcases ty with⟨rfl,xs,hq⟩|⟨rfl,o,hk,hc,hd⟩|⟨rfl,hk⟩|⟨rfl,S,n,hk⟩
  ·obtain⟨its,_,pl,_⟩:=I.list hq;refine⟨pl.isList.typeIs,λ a e=>?_⟩;cases e
   obtain⟨o,n,e,c,hd,_⟩:=pl;exact⟨o,e,hd⟩
  ·refine⟨⟨o,I.kIn p o hk,hc⟩,λ a e=>?_⟩;cases e
   exact⟨o,I.kIn _ o hk,hd⟩
  ·have z:∃ o,s.heap.get? p=some o/\o.ExactDict:=by
    rcases hk with⟨kvs,hk⟩|⟨kvs,hk⟩
    ·obtain⟨_,_,_,_,o,_,_,e,ex,_⟩:=I.hok p _ hk;exact⟨o,e,ex⟩
    ·obtain⟨_,_,_,_,o,_,_,e,ex,_⟩:=I.hok p _ hk;exact⟨o,e,ex⟩
   obtain⟨o,e,ex⟩:=z;refine⟨⟨o,e,ex.1⟩,λ a e2=>?_⟩;cases e2
   exact⟨o,e,ex.2.1⟩
  ·obtain⟨o,_,_,_,e,ex,_⟩:=I.hok p _ hk;refine⟨⟨o,e,ex.1⟩,λ a e2=>?_⟩;cases e2
   exact⟨o,e,ex.2.1⟩
 |_=>exact False.elim ty
def qiP(K:W.Frag)(T:String)(r:V->List V->Hp->VK->Prop)(to:TE):TE:=λ σ H Q=>to σ H λ x H1=>tyV K T x H1/\r x [] H1 Q
def tBM(K:W.Frag)(T:String)(r:V->List V->Hp->VK->Prop)(to:TE)(t:TA):TE:=λ σ H Q=>to σ H λ x H1=>tyV K T x H1/\t σ H1 λ xs H2=>r x xs H2 Q
variable {o e:Expr}{es:List Expr}{to:TE}{t:TA}{name:Str}{apos cpos:Pos}{T id:String}{r:V->List V->Hp->VK->Prop}
theorem qhj(pa:PlainAttrs T)(slot:Slot T name id)(tU:typeOf (.builtin id)=pure (.type "method_descriptor"))(hm:MtR X id r)(ho:PE X o to)(E6:attributeBase o name X.env (eval o X.env)=eval o X.env:=by rfl)(E4:(apos.endLine == cpos.line)=true:=by rfl):PE X (.Call (.Attribute o name apos) [] [] cpos) (qiP X.K T r to):=by
 intro pins s σ H Q I h;refine wpAny_Call_method0_late E6 E4 (thn (ho pins s σ H _ I h) λ v s1 ⟨x,H1,I1,r1,ty,q1⟩=>?_);obtain⟨h1,h2⟩:=qcK I1 r1 ty;exact⟨T,id,pa,slot,tU,h1,h2,XA rfl (PySem.evalArgs_none (hm pins s1 σ H1 x [] v [] Q I1 r1 .nil q1))⟩
theorem yQ(pa:PlainAttrs T)(slot:Slot T name id)(tU:typeOf (.builtin id)=pure (.type "method_descriptor"))(hm:MtR X id r)(ho:PE X o to)(ha:PA X (e::es) t)(E6:attributeBase o name X.env (eval o X.env)=eval o X.env:=by rfl)(uZ:((backTo cpos (starEach (e::es) X.env)).all (λ x=>!x.1) && (backToKw cpos (keywordEach [] X.env)).all (λ x=>x.1.isSome)
   && decide ((e::es).length+([]:List Keyword).length+(if ([]:List Keyword).isEmpty then 0 else 1)<30))=true:=by rfl)(E4:(apos.endLine == cpos.line)=true:=by rfl)(hs:starEach (e::es) X.env=(false,eval e X.env)::starEach es X.env:=by rfl)(bK:(backTo cpos (starEach es X.env)).any (·.1)=false:=by rfl):
  PE X (.Call (.Attribute o name apos) (e::es) [] cpos) (tBM X.K T r to t):=by
 intro pins s σ H Q I h;refine wpAny_Call_method_late E6 uZ E4 rfl (thn (ho pins s σ H _ I h) λ v s1 ⟨x,H1,I1,r1,ty,q1⟩=>?_);obtain⟨h1,h2⟩:=qcK I1 r1 ty;refine⟨T,id,pa,slot,tU,h1,h2,?_⟩;have hA:=ha cpos pins s1 σ H1 _ I1 q1;rw[hs] at hA ⊢;refine XA (by show(false || (backTo cpos (starEach es X.env)).any (·.1))=false;rw[bK] <;> rfl) (Calls.evalArgs_plain ?_);exact thn hA λ us s2 ⟨vs,H2,I2,r2,q2⟩=>hm pins s2 σ H2 x vs v us Q I2 r1 r2 q2
end
def MtM(X:Cx)(id:String)(r:V->List V->Hp->VK->Prop):Prop:=
 ∀(pins:List (Addr×Obj))(s:Shared)(σ:St)(H:Hp)(x:V)(xs:List V)(v:Value)(us:List Value)(Q:VK),Inv X pins σ H s->qF x v->qI xs us->r x xs H Q ->
  wpAny (model X.prog X.w) X.A (call (.builtin id) (v::us)) (EP X pins σ Q) X.xe s
theorem qI.one:∀{x:V}{us:List Value},qI [x] us->∃ u,us=[u]/\qF x u
 |_,_,.cons r .nil=>⟨_,rfl,r⟩
theorem qI.zero:∀{us:List Value},qI [] us->us=[]
 |_,.nil=>rfl
theorem qI.rep{xs:List V}{us:List Value}(h:qI xs us):∀ k:Nat,qI (List.replicate k xs).flatten (List.replicate k us).flatten
 |0=>.nil
 |k+1=>by
  rw[Yp,Yp,Zh,Zh];exact qI.append h (qI.rep h k)
theorem qa0(its:List Value):∀(k:Nat)(d6:List Value),
  List.foldl (λ x1 x2=>x1++x2) d6.toArray (List.replicate k its.toArray)=(d6++(List.replicate k its).flatten).toArray
 |0,d6=>by simp
 |k+1,d6=>by
  have e:d6.toArray++its.toArray=(d6++its).toArray:=by simp
  have e2:(d6++its)++(List.replicate k its).flatten=d6++(List.replicate (k+1) its).flatten:=by
   rw[Yp,Zh,Zi]
  rw[<- e2,<- qa0 its k (d6++its),<- e,Yp,Up]
section
variable {X:Cx}{pins:List (Addr×Obj)}{σ:St}{H:Hp}{s:Shared}{l b:Addr}{xs ys zs:List V}
theorem Inv.lset{its its':List Value}{n:Nat}{f:Array Value->Array Value}{t':Nat}(I:Inv X pins σ H s)(hH:H l=some (.lst xs))(e:s.heap.get? l=some { cls:=.type "list",data:=.seq its.toArray n })(hf:f its.toArray=its'.toArray)(hv:qI ys its')(hz:ys.length<=sizeLine):
  Inv X pins σ (upd H l (.lst ys)) { s with heap:=s.heap.update l (Obj.mapSeq f),toks:=t' }:=by
 have q:=PySem.IsL.update e f;rw[hf] at q;refine I.write (x:=l) (e:=l) (by rw[hH];exact trivial) (.inl rfl) (λ b' u hb hu=>(XB s.heap (Obj.mapSeq f) (Q2 hb)).trans hu) ⟨_,q⟩ ?_;exact⟨hz,its',_,hv,q⟩
theorem Inv.lnew{its:List Value}{t':Nat}(I:Inv X pins σ H s)(hv:qI ys its)(hz:ys.length<=sizeLine):
  Inv X pins σ (upd H s.heap.objs.size (.lst ys)) { s with heap:=s.heap.push { cls:=.type "list",data:=.seq its.toArray },toks:=t' }:=
 I.laid (λ _ _ q=>X9 _ q) (Ql _) ⟨hz,its,0,hv,Yn _ rfl⟩
theorem Inv.fresh(I:Inv X pins σ H s):H s.heap.objs.size=none:=I.hok.fresh (Ql _)
theorem Inv.lstM(I:Inv X pins σ H s)(hH:H l=some (.lst xs)):xs.length<=sizeLine/\∃(its:List Value)(n:Nat),qI xs its/\xs.length=its.length/\s.heap.get? l=some { cls:=.type "list",data:=.seq its.toArray n }:=by
 obtain⟨z,its,n,r,e⟩:=I.hok l _ hH;exact⟨z,its,n,r,r.length,e⟩
theorem qeN{n:Nat}(h:n<=sizeLine):Builtin.List.listTooLong n=false:=by
 unfold Builtin.List.listTooLong;exact Uz (by omega)
end
section
variable {X:Cx}
def qgb:V->List V->Hp->VK->Prop:=λ x vs H Q=>∃ l xs y,x=.ref l/\vs=[y]/\H l=some (.lst xs)/\xs.length<sizeLine/\Q .non (upd H l (.lst (xs++[y])))
theorem zV:MtM X "list.append" qgb:=by
 intro pins s σ H x vs v us Q I rx rv h;obtain⟨l,xs,y,rfl,rfl,hH,hz,q⟩:=h;cases rx
 obtain⟨u,rfl,ru⟩:=rv.one;obtain⟨z,its,n,r,hl,e⟩:=I.lstM hH;refine Qu F.slot_list_append ⟨_,e,rfl⟩ F.entry_list_append (F.args_list_append_2 _ _) (PySem.list_append l its.toArray n u (by rw[Zg];omega)) ⟨e,?_⟩;refine⟨.non,_,I.lset (its':=its++[u]) hH e (by simp) (r.append (.cons ru .nil)) ?_,rfl,q⟩;rw[Y4,XL];omega
def qhk:V->List V->Hp->VK->Prop:=λ x vs H Q=>∃ l xs,x=.ref l/\vs=[]/\H l=some (.lst xs)/\Q .non (upd H l (.lst []))
theorem qeO:MtM X "list.clear" qhk:=by
 intro pins s σ H x vs v us Q I rx rv h;obtain⟨l,xs,rfl,rfl,hH,q⟩:=h;cases rx
 have hus:=rv.zero;subst hus;obtain⟨z,its,n,r,hl,e⟩:=I.lstM hH;refine Qu F.slot_list_clear ⟨_,e,rfl⟩ F.entry_list_clear (F.args_list_clear_1 _) (AutoSeq1.list_clear_list_0 l its.toArray n (by rw[Zg];omega)) ⟨e,?_⟩;exact⟨.non,_,I.lset (its':=[]) (ys:=[]) hH e rfl .nil (Qm _),rfl,q⟩
def qiQ:R2:=λ x y H Q=>∃ l b xs zs,x=.ref l/\y=.ref b/\H l=some (.lst xs)/\H b=some (.lst zs)/\xs.length+zs.length<=sizeLine/\∀ p,H p=none->Q (.ref p) (upd H p (.lst (xs++zs)))
theorem qeP:OpR X (binaryOp .Add) qiQ:=by
 intro pins s σ H x y v u Q I rx ry h;obtain⟨l,b,xs,zs,rfl,rfl,hH,hB,hz,q⟩:=h;cases rx
 cases ry
 obtain⟨z,its,n,r,hl,e⟩:=I.lstM hH;obtain⟨z2,i4,n2,r2,F0,e2⟩:=I.lstM hB;refine PySem.P.add_list e e2 ?_ (by rw[Zg,Zg];omega);have ea:its.toArray++i4.toArray=(its++i4).toArray:=by simp
 rw[ea];exact⟨.ref _,_,I.lnew (t':=s.toks) (r.append r2) (by rw[Y4];omega),rfl,q _ I.fresh⟩
def qiR:R2:=λ x y H Q=>∃ l k xs,x=.ref l/\y=.int k/\H l=some (.lst xs)/\-(2^63)<=k/\k<2^63/\xs.length*k.toNat<=sizeLine /\
 ∀ p,H p=none->Q (.ref p) (upd H p (.lst (List.replicate k.toNat xs).flatten))
theorem qgc{α:Type}(xs:List α)(k:Nat):(List.replicate k xs).flatten.length=k*xs.length:=by
 induction k with
 |zero=>simp
 |succ k ih=>rw[Yp,Zh,Y4,ih,Nat.succ_mul,Nat.add_comm]
theorem qhl:OpR X (binaryOp .Mult) qiR:=by
 intro pins s σ H x y v u Q I rx ry h;obtain⟨l,k,xs,rfl,rfl,hH,h1,h2,hz,q⟩:=h;cases rx
 obtain⟨t,rfl⟩:=ry;obtain⟨z,its,n,r,hl,e⟩:=I.lstM hH;have d5:its.toArray.size*k.toNat<=sizeLine:=by rw[Zg,<- hl];exact hz
 have wJ:¬ its.toArray.size*k.toNat > (2^63-1) / 8:=by
  have:(sizeLine:Nat)<=(2^63-1) / 8:=by decide
  omega
 have uY:¬ (!Builtin.List.listFitsIndex k)=true:=by
  rw[fitsIndex_both h1 h2];exact Y2
 have fM:¬ Builtin.List.listTooLong (its.toArray.size*k.toNat)=true:=by
  rw[qeN d5];exact Y2
 have o6:List.foldl (λ x1 x2=>x1++x2) #[] (List.replicate (if its.toArray.isEmpty=true then 0 else k.toNat) its.toArray)=(List.replicate k.toNat its).flatten.toArray:=by
  have f0:∀ m:Nat,List.foldl (λ x1 x2=>x1++x2) #[] (List.replicate m its.toArray)=(List.replicate m its).flatten.toArray:=λ m=>by
   have:=qa0 its m []
   rw[Uq] at this;exact this
  rw[f0];cases its with
  |nil=>simp
  |cons a r'=>rw[Q8 (by simp)]
 refine wpAny_binaryOp_repeat_ref (T:="list") (U:="int") (by decide) ⟨_,e,rfl⟩ (λ s'=>typeIs_int s' k t) noFill_list_mul F.fills_int_mul F.slot_int_rmul repeat_list F.slot_int_index.lookup
  (Qu F.slot_int_rmul (typeIs_int s k t) F.entry_int_rmul (F.args_int_rmul_2 _ _) (int___rmul___int_list k t l its.toArray n)
   ⟨e,rfl,⟨_,e,rfl⟩,Qu F.slot_list_mul ⟨_,e,rfl⟩ F.entry_list_mul (F.args_list_mul_2 _ _) (AutoListH.list___mul___list_int_3 l its.toArray n k t uY wJ fM) ⟨e,?_⟩⟩)
 rw[o6];exact⟨.ref _,_,I.lnew (t':=s.toks) (r.rep k.toNat) (by rw[qgc,Qb];exact hz),rfl,q _ I.fresh⟩
end
end L2
namespace Att
open PySem PySem.W PySem.Calls PyProof.Rows
theorem vX{P:Params}{h:Heap}:∀(ns:List Int)(vs:List Value),WellAll P h vs (ns.map WData.int)->IntsAre vs ns:=by
 intro ns;induction ns with
 |nil =>
  intro vs w;rw[Qa] at w;cases w
  exact .nil
 |cons n ns ih =>
  intro vs w;rw[Jv] at w;cases w with
  |cons a b =>
   cases a
   exact .cons _ _ (ih _ b)
theorem qdY{l:OpenLaw}{n:Nat}(hn:l.most=some n){P:Params}{h:Heap}{args:List WData}{aT:List Value}(T8:l.row.toRowW.claim.pre args=true)(tS:WellAll P h aT args):
  ∃ a vs ns,aT=[Value.ref a]/\args=[WData.list (ns.map WData.int)]/\h.get? a=some { cls:=.type "list",data:=.seq vs.toArray }/\IntsAre vs ns/\ns.length<=n:=by
 have hsh:WShape.hasAll [] args [.list .int]=true:=(pre_splitW T8).1;have hc:l.pre.holds [] { args:=args }=true:=(pre_splitW T8).2;obtain⟨d,r,rfl,h1,h2⟩:=hasAllW_cons hsh;obtain rfl:=hasAllW_nil h2;obtain⟨xs,rfl,h3⟩:=hasW_list h1;obtain⟨ns,rfl⟩:=items_int h3;have d5:ns.length<=n:=by
  unfold OpenLaw.pre at hc;have h4:(WTm.not (.lt (.lit (.int (n:Int))) (.len (.arg 0)))).holds [] { args:=[.list (ns.map .int)] }=true:=by
   have h4:=(holds_andW hc).1;rw[hn] at h4;exact h4
  have h5:=condW_of h4 (w_not (w_lt w_lit (w_len_list (w_arg rfl))));rw[Ul] at h5;refine Nat.le_of_not_lt λ q=>?_
  have q':(n:Int)<((ns.length:Nat):Int):=by omega
  first
   |(rw[Jj q'] at h5;exact absurd h5 (by decide))
   |(simp at h5;omega)
 cases tS with
 |cons w1 w2 =>
  cases w2
  cases w1 with
  |list ho bU=>exact⟨_,_,ns,rfl,rfl,ho,vX ns _ bU,d5⟩
theorem qdZ(l:OpenLaw)(args:List WData):l.row.toRowW.claim.post args (.bool true) args=true:=
 postW_of (r:=l.row.toRowW) (X:=(true == true))
  (show WShape.has [] (.bool true) .bool=true by first|rfl|decide|simp[WShape.has,WShape.arms,WShape.armsAll])
  (show(WTm.eq .res (.lit (.bool true))).value [] { args:=args,res:=some (.bool true),after:=args }=some (.bool (true == true)) from w_eq_bool (w_res rfl) w_lit) rfl
theorem attach_call{l:OpenLaw}{n:Nat}{q:Program}{A8:List Str}{XP:(Str->Option Value)->Heap->Prop}{YP:World->Heap->Prop}{d:DefRec}(hn:l.most=some n)(fU:d.params.defaults=[])(call:∀(w:World)(s₀ s₁:Shared)(mg mb:Str->Option Value)(fa:Addr)(o:Obj)(pm cd doc:Value)(a:Addr)(vs:List Value)(ns:List Int),
   Ground q A8 [] XP w s₀ mg mb s₁.heap->YP w s₁.heap ->
   s₁.heap.get? fa=some o->o.data=.func (docDef d.name d.params d.body d.scope pm cd doc)->s₁.heap.CodeRec cd d.name->mg d.name=some (.ref fa) ->
   s₁.heap.get? a=some { cls:=.type "list",data:=.seq vs.toArray }->IntsAre vs ns->ns.length<=n->s₁.gens=#[] ->
   codeAny (model l.prog w) callerA (.call (.ref fa) ⟨[.ref a],[]⟩) (λ r s'=>r=.ok (.ret (.bool true))/\OldK s₁.heap s'.heap/\s'.os=s₁.os/\AllBare s'.gens) s₁):
  WalkO q A8 XP YP l.row.toRowW d [] (λ f vs=>PySem.call f vs):=by
 intro w s₀ s₁ mg mb G Y fa o pm cd doc dV kV ho hd A4 hD fL hg args aT as T8 hlay hrd tS hlo;obtain rfl:dV=.none:=Dflts.none hD fU;obtain rfl:kV=.none:=Dflts.noKw hD;obtain⟨a,vs,ns,rfl,rfl,bP,O6,d5⟩:=qdY hn T8 tS;refine enter_call (Qi (call w s₀ s₁ mg mb fa o pm cd doc a vs ns G Y ho (fd_plain hd) A4 fL bP O6 d5 hg) λ r s' hq=>?_);obtain⟨rfl,h2,h3,h4⟩:=hq;exact⟨.inl ⟨.bool true,.bool true,[],rfl,λ _=>rfl,.bool true,qdZ l _,λ _=>⟨List.Pairwise.nil,λ _ hm=>(nomatch hm)⟩⟩,h2,h3,h4⟩
end Att
namespace L2
open PySem PySem.Spec PyProof.Rows
theorem qa1:∀{vs:List Value}{ns:List Int},IntsAre vs ns->qI (ns.map V.int) vs
 |_,_,.nil=>.nil
 |_,_,.cons n t h=>.cons ⟨t,rfl⟩ (qa1 h)
def qz(s:Stmt):Arguments:=match s with
 |.FunctionDef _ a _ _ _ _ _ _ _ _=>a
 |_=>{ posonlyargs:=[],args:=[],vararg:=none,kwonlyargs:=[],kw_defaults:=[],kwarg:=none,defaults:=[] }
def qw(s:Stmt):List Stmt:=match s with
 |.FunctionDef _ _ b _ _ _ _ _ _ _=>b
 |_=>[]
def qd(s:Stmt):Scope:=match s with
 |.FunctionDef _ _ _ _ _ _ sc _ _ _=>sc
 |_=>{ kind:=.function,names:=[],isGenerator:=false,isCoroutine:=false }
abbrev CX0:CXT:=λ _ _ _ _ _ _=>False
abbrev E0:XK:=λ _ _ _=>False
theorem yE{X:Cx}:qcI CX0 X E0:=λ _ _ _ _ _ _ _ h=>h.elim
structure Fun(K:W.Frag)(x qual:Str)(st:Stmt)(f:Addr)(fd:FuncData):Prop where
 ex:∃(oc:Value)(od:Option Addr)(kV doc pm:Value)(an:Option Addr)(cdv ct:Value)(osl:Array (Option Value)),
  fd=W.fnOf x qual (qz st) (qw st) (qd st) .none kV doc pm an cdv ct/\K.lookup f=some ⟨oc,od,.func fd,osl⟩/\W.codeIn K cdv qual=true
 kp:W.keepIn K (.ref f)=true
section
variable {P:Program}{w:World}{K:W.Frag}{mg:Str->Option Value}{base:Heap}
theorem qhm{X:Cx}{k:Nat}{f:Addr}{fd:FuncData}{ps:List Str}{sp:Sp}{x:Str}{p pos:Pos}{e:Expr}{es:List Expr}{t:TA}(F:FnOk X.prog X.w X.K X.mg X.base CX0 k f fd ps sp)(hr:Room k X.A)(hm:X.mg x=some (.ref f))(hk:W.keepIn X.K (.ref f)=true)(hb:jt X.K fd ps [])(ha:PA X (e::es) t)(hg:Gl X x:=by rfl)(M0:(x == ("__debug__":Str))=false:=by decide)(he:starEach (e::es) X.env=(false,eval e X.env)::starEach es X.env:=by rfl)(u0:(backTo pos (starEach es X.env)).any (·.1)=false:=by rfl):PE X (.Call (.Name x p) (e::es) [] pos) (qeI sp [] E0 t):=zk F hr hg hm hk hb .nil yE ha M0 he u0
structure Dp(P:Program)(w:World)(K:W.Frag)(mg:Str->Option Value)(base:Heap)(k:Nat)(f:Addr)(d:FuncData)(ps:List Str)(sp:Sp)(x:Str):Prop where
 g:FnOk P w K mg base CX0 k f d ps sp
 b:jt K d ps []
 e:W.keepIn K (.ref f)=true
 m:mg x=some (.ref f)
theorem yF{X:Cx}{k:Nat}{f:Addr}{fd:FuncData}{ps:List Str}{sp:Sp}{x:Str}{p pos:Pos}{e:Expr}{es:List Expr}{t:TA}(D:Dp X.prog X.w X.K X.mg X.base k f fd ps sp x){j:Nat}(hr:Room j X.A)(ha:PA X (e::es) t)(hg:Gl X x:=by rfl)(M0:(x == ("__debug__":Str))=false:=by decide)(he:starEach (e::es) X.env=(false,eval e X.env)::starEach es X.env:=by rfl)(u0:(backTo pos (starEach es X.env)).any (·.1)=false:=by rfl)(hj:k<=j:=by decide):PE X (.Call (.Name x p) (e::es) [] pos) (qeI sp [] E0 t):=qhm D.g (hr.mono hj) D.m D.e D.b ha hg M0 he u0
theorem Fun.ok{x qual:Str}{st:Stmt}{f:Addr}{fd:FuncData}{N ps:List Str}{k:Nat}{sp:Sp}(F:Fun K x qual st f fd)(S:FnScope N ps (qd st))(len:∀ vs H Q E,sp vs H Q E->vs.length=ps.length)(x4:∀(cdv:Value)(A:Around)(outer:List Env)(s:Shared)(H:Hp)(vs:List V)(Q:VK)(E:XK),Room k (A.deeper (envOfC qual (qd st) s.heap.objs.size f cdv))->sp vs H Q E ->
   ∃ t,PSs (vW CX0 P w K mg base N qual (qd st) f cdv A outer s H E).nox (qw st) t/\t { nx:=λ _ H'=>Q .non H',rt:=Q } (yX N vs) H):FnOk P w K mg base CX0 (k+1) f fd ps sp:=by
 obtain⟨oc,od,kV,doc,pm,an,cdv,ct,osl,rfl,lk,A4⟩:=F.ex;refine qh6 lk A4 S len λ A outer s H vs Q E hr K9=>?_
 obtain⟨t,h,q⟩:=x4 cdv A outer s H vs Q E hr K9;exact⟨t,h.nox,q⟩
theorem Fun.okd{x qual:Str}{st:Stmt}{f:Addr}{fd:FuncData}{N ps:List Str}{k:Nat}{sp:Sp}(F:Fun K x qual st f fd)(S:FnScope N ps (qd st))(x4:∀(cdv:Value)(A:Around)(outer:List Env)(s:Shared)(H:Hp)(vs:List V)(Q:VK)(E:XK),Room k (A.deeper (envOfC qual (qd st) s.heap.objs.size f cdv))->sp vs H Q E ->
   ∃ t,PSs (vW CX0 P w K mg base N qual (qd st) f cdv A outer s H E).nox (qw st) t/\t { nx:=λ _ H'=>Q .non H',rt:=Q } (yX N vs) H)(len:∀ vs H Q E,sp vs H Q E->vs.length=ps.length:=by intro vs H Q E h;repeat (first|(obtain⟨rfl,_⟩:=h;rfl)|(obtain⟨_,h⟩:=h))):FnOk P w K mg base CX0 (k+1) f fd ps sp:=F.ok S len x4
theorem ls1{us:List Value}{n:Nat}(h:us.length=n):us=(List.range n).map (us.getD · .none):=by subst h;exact List.ext_getElem (by simp) (λ i h1 h2=>by simp[h1])
theorem Fun.binds{x qual:Str}{st:Stmt}{f:Addr}{fd:FuncData}{ps:List Str}(F:Fun K x qual st f fd)(h:∀(kV doc pm:Value)(an:Option Addr)(cdv ct:Value)(g:Nat → Value),bindArgs (W.fnOf x qual (qz st) (qw st) (qd st) .none kV doc pm an cdv ct) ⟨(List.range ps.length).map g,[]⟩=pure (ps.zip ((List.range ps.length).map g)):=by intros;rfl):jt K fd ps []:=by
 obtain⟨oc,od,kV,doc,pm,an,cdv,ct,osl,rfl,lk,A4⟩:=F.ex;exact .all λ us hl=>by rw[ls1 hl];exact h kV doc pm an cdv ct _
theorem q5{x qual:Str}{st:Stmt}{f:Addr}{oc:Value}{od an:Option Addr}{osl:Array (Option Value)}{kV doc pm cdv ct:Value}(l:K.lookup f=some ⟨oc,od,.func (W.fnOf x qual (qz st) (qw st) (qd st) .none kV doc pm an cdv ct),osl⟩)(c:W.codeIn K cdv qual=true)(k:W.keepIn K (.ref f)=true):Fun K x qual st f (W.fnOf x qual (qz st) (qw st) (qd st) .none kV doc pm an cdv ct):=⟨⟨oc,od,kV,doc,pm,an,cdv,ct,osl,rfl,l,c⟩,k⟩
end
theorem jV{A:Around}{k:Nat}(hr:Room k A):A.units+1<cLine:=Nat.lt_of_le_of_lt (Nat.add_le_add_left (by decide:1<=64) _) hr.units
section
variable {X:Cx}
theorem pv(i:Nat){x:Str}{pos:Pos}(hN:X.N[i]?=some x:=by rfl)(hv:Vis X.env.scope x:=by first | exact Or.inl rfl | exact Or.inr (Or.inl rfl) | exact Or.inr (Or.inr rfl))(hd:(x == ("__debug__":Str))=false:=by decide)(A4:(x == ("__classdict__":Str))=false:=by decide):PE X (.Name x pos) (qhU i):=qcF hN hv hd A4
end
theorem vY{A B:Prop}(h:B):if false=true then A else B:=by
 rw[Q8 Y2];exact h
theorem qgd{A B:Prop}(h:A):if true=true then A else B:=by
 rw[Q7 rfl];exact h
theorem qb3{c A B:Prop}[Decidable c](h1:c->A)(h2:¬ c->B):if c then A else B:=by
 by_cases h:c
 ·rw[Q7 h];exact h1 h
 ·rw[Q8 h];exact h2 h
def ql(H H':Hp):Prop:=∀ b o,H b=some o->H' b=some o
theorem ql.refl(H:Hp):ql H H:=λ _ _ h=>h
theorem ql.trans{H H1 H2:Hp}(a:ql H H1)(b:ql H1 H2):ql H H2:=λ c o h=>b c o (a c o h)
theorem ql.seq{K:W.Frag}{H H':Hp}{a:Addr}{xs:List V}(e:ql H H')(h:SqL K H a xs):SqL K H' a xs:=by
 rcases h with(h|⟨o,h⟩)|h
 ·exact .inl (.inl (e _ _ h))
 ·exact .inl (.inr ⟨o,e _ _ h⟩)
 ·exact .inr h
end L2
namespace Fs
abbrev Pr:=List Nat
theorem ve{α:Type}{r:α->α->Prop}(eK:∀ a,¬ r a a)(iS:∀ a b,r a b->¬ r b a):∀{l m:List α},l.Pairwise r->m.Pairwise r->(∀ x,x∈l ↔ x∈m)->l=m
 | [],[],_,_,_=>rfl
 | [],b::m,_,_,h=>by have:=(h b).mpr Y1;cases this
 |a::l,[],_,_,h=>by have:=(h a).mp Y1;cases this
 |a::l,b::m,hl,hm,h=>by
  have G0:=Y5.mp hl;have cP:=Y5.mp hm;have ab:a=b:=by
   rcases Js.mp ((h a).mp Y1) with e|e
   ·exact e
   ·rcases Js.mp ((h b).mpr Y1) with e' | e'
    ·exact e'.symm
    ·exact absurd (cP.1 a e) (iS _ _ (G0.1 b e'))
  subst ab
  have:l=m:=ve eK iS G0.2 cP.2 λ x=>by
   constructor
   ·intro hx;rcases Js.mp ((h x).mp (Ya _ hx)) with e | e
    ·subst e;exact absurd (G0.1 x hx) (eK x)
    ·exact e
   ·intro hx;rcases Js.mp ((h x).mpr (Ya _ hx)) with e | e
    ·subst e;exact absurd (cP.1 x hx) (eK x)
    ·exact e
  rw[this]
theorem qbn(a:Pr):¬ a<a:=List.lt_irrefl a
theorem qb4(a b:Pr)(h:a<b):¬ b<a:=λ h'=>qbn a (List.lt_trans h h')
structure Vf(F:List Pr):Prop where
 rise:F.Pairwise (·<·)
 prod:∀ p∈F,p.Pairwise (·<·)
theorem qO{α:Type}{r:α->α->Prop}(eK:∀ a,¬ r a a):∀{l:List α},l.Pairwise r->l.Nodup:=λ{l} h=>h.imp λ{a b} o7 e=>by subst e;exact eK _ o7
theorem Vf.nodup{F:List Pr}(h:Vf F):F.Nodup:=qO qbn h.rise
theorem Vf.ext{F G:List Pr}(hF:Vf F)(hG:Vf G)(h:∀ p,p∈F ↔ p∈G):F=G:=ve qbn qb4 hF.rise hG.rise h
def qo(ρ:Nat->Bool):List Pr->Bool
 | []=>false
 |p::F=>xor (p.all ρ) (qo ρ F)
theorem yq(ρ:Nat->Bool):∀ F G:List Pr,qo ρ (F++G)=xor (qo ρ F) (qo ρ G)
 | [],G=>by simp[qo]
 |p::F,G=>by
  show xor (p.all ρ) (qo ρ (F++G))=_
  rw[yq ρ F G];show _=xor (xor (p.all ρ) (qo ρ F)) (qo ρ G)
  rw[U8]
theorem j3(ρ:Nat->Bool){F G:List Pr}(h:F.Perm G):qo ρ F=qo ρ G:=by
 induction h with
 |nil=>rfl
 |cons x _ ih=>show xor _ _=xor _ _;rw[ih]
 |swap x y l=>show xor _ (xor _ _)=xor _ (xor _ _);rw[<- U8,<- U8,Bool.xor_comm (y.all ρ)]
 |trans _ _ a b=>exact a.trans b
theorem jv(ρ:Nat->Bool)(q:Pr->Bool):∀ F:List Pr,qo ρ F=xor (qo ρ (F.filter q)) (qo ρ (F.filter λ p=>!q p))
 | []=>rfl
 |p::F=>by
  have ih:=jv ρ q F;cases h:q p with
  |true =>
   rw[X0 h,X1 (by simp[h])];show xor _ _=xor (xor _ _) _
   rw[ih,U8]
  |false =>
   rw[X1 (by simp[h]),X0 (by simp[h])];show xor _ _=xor _ (xor _ _)
   rw[ih];cases p.all ρ <;> cases qo ρ (F.filter q) <;> cases qo ρ (F.filter λ p=>!q p) <;> rfl
def qbo(F G:List Pr):List Pr:=F.filter (λ p=>!G.contains p)++G.filter (λ p=>!F.contains p)
theorem qb5{F G:List Pr}{p:Pr}:p∈qbo F G ↔ ((p∈F/\p∉G)∨(p∈G/\p∉F)):=by
 simp[qbo,Ug,Uf]
theorem qcL(ρ:Nat->Bool){F G:List Pr}(hF:F.Nodup)(hG:G.Nodup):qo ρ (qbo F G)=xor (qo ρ F) (qo ρ G):=by
 have e1:=jv ρ (λ p=>G.contains p) F;have e2:=jv ρ (λ p=>F.contains p) G;have e3:qo ρ (F.filter λ p=>G.contains p)=qo ρ (G.filter λ p=>F.contains p):=by
  refine j3 ρ ?_;rw[Xh (hF.filter _) (hG.filter _)];intro p;simp only[Uf,XM];exact⟨λ ⟨a,b⟩=>⟨b,a⟩,λ ⟨a,b⟩=>⟨b,a⟩⟩
 rw[qbo,yq,e1,e2,e3];cases qo ρ (G.filter λ p=>F.contains p) <;> cases qo ρ (F.filter λ p=>!G.contains p) <;> cases qo ρ (G.filter λ p=>!F.contains p) <;> rfl
theorem qcM{F G:List Pr}(hF:F.Nodup)(hG:G.Nodup):(qbo F G).Nodup:=by
 refine Zj.mpr ⟨hF.filter _,hG.filter _,?_⟩;intro a ha b hb e;subst e;simp[Uf] at ha hb;exact hb.2 ha.1
theorem yt{α:Type}[DecidableEq α]:∀{l m:List α},l.Nodup->(∀ x∈l,x∈m)->l.length<=m.length
 | [],_,_,_=>Qm _
 |a::l,m,nd,h=>by
  have A7:=Uj.mp nd;have ha:a∈m:=h a Y1
  have:=yt (l:=l) (m:=m.erase a) A7.2 λ x hx=>(List.mem_erase_of_ne (λ(e:x=a)=>A7.1 (by rw[<- e];exact hx))).mpr (h x (Ya _ hx))
  rw[List.length_erase_of_mem ha] at this
  have:0<m.length:=List.length_pos_of_mem ha
  rw[Zz];omega
theorem qcN{p q:Pr}(hp:p.Pairwise (·<·))(hq:q.Pairwise (·<·))(h:∀ x∈q,x∈p)(hl:p.length<=q.length):q=p:=by
 have nd:q.Nodup:=qO Jr hq;refine ve (r:=(·<·)) Jr (λ a b=>Nat.lt_asymm) hq hp λ x=>⟨h x,λ hx=>?_⟩
 exact Xn λ hn=>by
  have D9:(x::q).length<=p.length:=by
   have aB:(x::q).Nodup:=Uj.mpr ⟨hn,nd⟩;exact yt aB (by intro y hy;rcases Js.mp hy with e|e;exact e ▸ hx;exact h y e)
  simp at D9;omega
theorem qb6:∀(D:List Pr),D≠[]->∃ p∈D,∀ q∈D,p.length<=q.length
 | [p],_=>⟨p,Y1,λ q hq=>by simp at hq;rw[hq];exact Ql _⟩
 |p::r::D,_=>by
  obtain⟨m,hm,h⟩:=qb6 (r::D) (by simp);by_cases lR:p.length<=m.length
  ·exact⟨p,Y1,λ q hq=>by
    rcases Js.mp hq with e|e
    ·rw[e];exact Ql _
    ·exact J7 lR (h q e)⟩
  ·exact⟨m,Ya _ hm,λ q hq=>by
    rcases Js.mp hq with e|e
    ·rw[e];omega
    ·exact h q e⟩
theorem qa2(ρ:Nat->Bool){p:Pr}:∀{D:List Pr},D.Nodup->p∈D->(∀ q∈D,q.all ρ=true ↔ q=p)->qo ρ D=true
 |q::D,nd,hp,h=>by
  have A7:=Uj.mp nd;have rest:∀(E:List Pr),(∀ q∈E,q.all ρ=true ↔ q=p)->p∉E->qo ρ E=false:=by
   intro E;induction E with
   |nil=>intro _ _;rfl
   |cons r E ih =>
    intro hE p6;have hr:r.all ρ=false:=by
     cases hb:r.all ρ with
     |false=>rfl
     |true=>exact absurd ((hE r Y1).mp hb) (λ e=>p6 (e ▸ Y1))
    show xor (r.all ρ) (qo ρ E)=false
    rw[hr,ih (λ q hq=>hE q (Ya _ hq)) (λ e=>p6 (Ya _ e))];rfl
  show xor (q.all ρ) (qo ρ D)=true
  rcases Js.mp hp with e|e
  ·subst e;rw[(h p Y1).mpr rfl,rest D (λ q hq=>h q (Ya _ hq)) A7.1];rfl
  ·have hq:q.all ρ=false:=by
    cases hb:q.all ρ with
    |false=>rfl
    |true=>exact absurd ((h q Y1).mp hb) (λ e'=>A7.1 (e' ▸ e))
   rw[hq,qa2 ρ A7.2 e λ q hq=>h q (Ya _ hq)];rfl
theorem Vf.only{F G:List Pr}(hF:Vf F)(hG:Vf G)(h:∀ ρ,qo ρ F=qo ρ G):F=G:=by
 by_cases hd:qbo F G=[]
 ·refine hF.ext hG λ p=>?_
  have:¬ p∈qbo F G:=by rw[hd];simp
  rw[qb5] at this;constructor
  ·intro hp;exact Xn λ hn=>this (.inl ⟨hp,hn⟩)
  ·intro hp;exact Xn λ hn=>this (.inr ⟨hp,hn⟩)
 ·obtain⟨p,hp,hl⟩:=qb6 _ hd;have ris:∀ q∈qbo F G,q.Pairwise (·<·):=λ q hq=>by
   rcases qb5.mp hq with⟨a,_⟩|⟨a,_⟩
   ·exact hF.prod q a
   ·exact hG.prod q a
  have w:=qa2 (λ x=>p.contains x) (qcM hF.nodup hG.nodup) hp λ q hq=>by
   constructor
   ·intro ha;refine qcN (ris p hp) (ris q hq) (λ x hx=>?_) (hl q hq)
    have:=Z1.mp ha x hx
    simpa using this
   ·intro e;subst e;exact Z1.mpr λ x hx=>by simpa using hx
  rw[qcL _ hF.nodup hG.nodup,h] at w;simp at w
def qT:List Nat->List Pr
 | []=>[[]]
 |l::ls=>qT ls++(qT ls).map (l::·)
theorem qA:∀ ls:List Nat,(qT ls).length=2^ls.length
 | []=>rfl
 |l::ls=>by rw[qT,Y4,Ul,qA ls,Zz,Qc];omega
theorem zz:∀{ls:List Nat}{p:Pr},p∈qT ls ↔ p.Sublist ls
 | [],p=>by simp[qT]
 |l::ls,p=>by
  rw[qT,Ug,Qd];constructor
  ·rintro(h | ⟨q,h,rfl⟩)
   ·exact(zz.mp h).cons _
   ·exact(zz.mp h).cons₂ _
  ·intro h;cases h with
   |cons _ h=>exact .inl (zz.mpr h)
   |cons_cons _ h=>exact .inr ⟨_,zz.mpr h,rfl⟩
theorem yR:∀{ls:List Nat},ls.Nodup->(qT ls).Nodup
 | [],_=>by simp[qT]
 |l::ls,h=>by
  have h':=Uj.mp h;rw[qT];refine Zj.mpr ⟨yR h'.2,?_,?_⟩
  ·have:=yR h'.2
   exact Zk.mpr (this.imp λ{a b} o7 e=>o7 (List.cons.inj e).2)
  ·intro a ha b hb e;subst e;obtain⟨q,hq,rfl⟩:=Qd.mp hb;exact h'.1 ((zz.mp ha).subset Y1)
def qR:Nat->List Bool->List Bool
 |0,t=>t
 |n+1,t=>qR n (t.take (2^n))++List.zipWith (· != ·) (qR n (t.take (2^n))) (qR n (t.drop (2^n)))
theorem qB:∀(n:Nat)(t:List Bool),t.length=2^n->(qR n t).length=2^n
 |0,t,h=>h
 |n+1,t,h=>by
  have hp:2^(n+1)=2^n+2^n:=by rw[Qc];omega
  have h1:(t.take (2^n)).length=2^n:=by rw[Zy];omega
  have h2:(t.drop (2^n)).length=2^n:=by rw[Z0];omega
  rw[qR,Y4,Yq,qB n _ h1,qB n _ h2];omega
def look(ρ:Nat->Bool):List Nat->List Bool->Bool
 | [],t=>t.headD false
 |l::ls,t=>if ρ l=true then look ρ ls (t.drop (2^ls.length)) else look ρ ls (t.take (2^ls.length))
def pol(ρ:Nat->Bool):List Nat->List Bool->Bool
 | [],t=>t.headD false
 |l::ls,t=>xor (pol ρ ls (t.take (2^ls.length))) (ρ l && pol ρ ls (t.drop (2^ls.length)))
theorem kJ(f:Bool->Bool->Bool)(ρ:Nat->Bool):∀(ls:List Nat)(t u:List Bool),t.length=2^ls.length->u.length=2^ls.length->look ρ ls (List.zipWith f t u)=f (look ρ ls t) (look ρ ls u)
 | [],[a],[b],_,_=>rfl
 |l::ls,t,u,ht,hu=>by
  rw[Zz,Qc] at ht hu;rw[look,look,look];by_cases h:ρ l=true
  ·rw[Q7 h,Q7 h,Q7 h,List.drop_zipWith];exact kJ f ρ ls _ _ (by rw[Z0];omega) (by rw[Z0];omega)
  ·rw[Q8 h,Q8 h,Q8 h,List.take_zipWith];exact kJ f ρ ls _ _ (by rw[Zy];omega) (by rw[Zy];omega)
theorem jN(ρ:Nat->Bool):∀(ls:List Nat)(t:List Bool),t.length=2^ls.length->look ρ ls (qR ls.length t)=pol ρ ls t
 | [],t,_=>rfl
 |l::ls,t,h=>by
  rw[Zz,Qc] at h;have h1:(t.take (2^ls.length)).length=2^ls.length:=by rw[Zy];omega
  have h2:(t.drop (2^ls.length)).length=2^ls.length:=by rw[Z0];omega
  have s1:=qB ls.length _ h1;have s2:=qB ls.length _ h2;have e1:(qR (ls.length+1) t).take (2^ls.length)=qR ls.length (t.take (2^ls.length)):=by
   rw[qR,Xb (by omega),XC (by omega)]
  have e2:(qR (ls.length+1) t).drop (2^ls.length)=List.zipWith (· != ·) (qR ls.length (t.take (2^ls.length))) (qR ls.length (t.drop (2^ls.length))):=by
   rw[qR,Xc (by omega),XD (by omega),Uq]
  rw[look,pol,Zz,e1,e2];rw[kJ (· != ·) ρ ls _ _ s1 s2,jN ρ ls _ h1,jN ρ ls _ h2];cases ρ l <;> simp <;> cases pol ρ ls (t.take (2^ls.length)) <;> cases pol ρ ls (t.drop (2^ls.length)) <;> rfl
theorem kK:∀(n:Nat)(t u:List Bool),t.length=2^n->u.length=2^n->qR n (List.zipWith (· != ·) t u)=List.zipWith (· != ·) (qR n t) (qR n u)
 |0,t,u,_,_=>rfl
 |n+1,t,u,ht,hu=>by
  have hp:2^(n+1)=2^n+2^n:=by rw[Qc];omega
  have t1:(t.take (2^n)).length=2^n:=by rw[Zy];omega
  have t2:(t.drop (2^n)).length=2^n:=by rw[Z0];omega
  have u1:(u.take (2^n)).length=2^n:=by rw[Zy];omega
  have u2:(u.drop (2^n)).length=2^n:=by rw[Z0];omega
  rw[qR,qR,qR,List.take_zipWith,List.drop_zipWith,kK n _ _ t1 u1,kK n _ _ t2 u2];rw[List.zipWith_append (by rw[qB n _ t1,qB n _ u1])];congr 1
  have q:∀(a b c d:List Bool),List.zipWith (· != ·) (List.zipWith (· != ·) a b) (List.zipWith (· != ·) c d)=List.zipWith (· != ·) (List.zipWith (· != ·) a c) (List.zipWith (· != ·) b d):=by
   intro a;induction a with
   |nil=>intro b c d;simp
   |cons x a ih =>
    intro b c d;cases b with
    |nil=>cases c <;> simp
    |cons y b =>
     cases c with
     |nil=>simp
     |cons z c =>
      cases d with
      |nil=>simp
      |cons w d =>
       simp only[List.zipWith_cons_cons,ih];cases x <;> cases y <;> cases z <;> cases w <;> rfl
  exact q _ _ _ _
theorem vg:∀(a b:List Bool),a.length=b.length->List.zipWith (· != ·) a (List.zipWith (· != ·) a b)=b
 | [],[],_=>rfl
 |x::a,y::b,h=>by
  simp only[List.zipWith_cons_cons];rw[vg a b (by simpa using h)];cases x <;> cases y <;> rfl
theorem vG:∀(n:Nat)(t:List Bool),t.length=2^n->qR n (qR n t)=t
 |0,t,_=>rfl
 |n+1,t,h=>by
  have hp:2^(n+1)=2^n+2^n:=by rw[Qc];omega
  have t1:(t.take (2^n)).length=2^n:=by rw[Zy];omega
  have t2:(t.drop (2^n)).length=2^n:=by rw[Z0];omega
  have s1:=qB n _ t1;have s2:=qB n _ t2;have e1:(qR (n+1) t).take (2^n)=qR n (t.take (2^n)):=by
   rw[qR,Xb (by omega),XC (by omega)]
  have e2:(qR (n+1) t).drop (2^n)=List.zipWith (· != ·) (qR n (t.take (2^n))) (qR n (t.drop (2^n))):=by
   rw[qR,Xc (by omega),XD (by omega),Uq]
  conv=>lhs;rw[qR]
  rw[e1,e2,kK n _ _ s1 s2,vG n _ t1,vG n _ t2,vg _ _ (by omega)];exact XN _ _
def zF(ls:List Nat)(t:List Bool):List Pr:=((qT ls).zip t).filterMap λ x=>if x.2=true then some x.1 else none
theorem je(ρ:Nat->Bool):∀(ls:List Nat)(t:List Bool),t.length=2^ls.length->qo ρ (zF ls t)=pol ρ ls t
 | [],[b],_=>by cases b <;> simp[zF,qT,qo,pol]
 |l::ls,t,h=>by
  rw[Zz,Qc] at h;have h1:(t.take (2^ls.length)).length=2^ls.length:=by rw[Zy];omega
  have h2:(t.drop (2^ls.length)).length=2^ls.length:=by rw[Z0];omega
  have e:zF (l::ls) t=zF ls (t.take (2^ls.length))++(zF ls (t.drop (2^ls.length))).map (l::·):=by
   unfold zF;rw[qT]
   conv=>lhs;rw[<- XN (2^ls.length) t]
   rw[List.zip_append (by rw[qA];omega),XO];congr 1
   rw[List.zip_map_left,List.filterMap_map,List.map_filterMap];congr 1
   funext x
   obtain⟨a,b⟩:=x;cases b <;> rfl
  have m:∀ F:List Pr,qo ρ (F.map (l::·))=(ρ l && qo ρ F):=by
   intro F;induction F with
   |nil=>simp[qo]
   |cons p F ih =>
    show xor ((l::p).all ρ) _=_
    rw[ih,List.all_cons];show _=(ρ l && xor (p.all ρ) (qo ρ F))
    cases ρ l <;> simp
  rw[e,yq,m,je ρ ls _ h1,je ρ ls _ h2,pol]
theorem kL{ls:List Nat}{t:List Bool}{p:Pr}(h:p∈zF ls t):p.Sublist ls:=by
 unfold zF at h;obtain⟨x,hx,e⟩:=List.mem_filterMap.mp h;split at e
 ·cases e;exact zz.mp (Uk hx).1
 ·cases e
theorem jf:∀(P:List Pr)(t:List Bool),((P.zip t).filterMap λ x=>if x.2=true then some x.1 else none).Sublist P
 | [],t=>by simp
 |p::P,[]=>by simp
 |p::P,b::t=>by
  rw[Y6,Yl];cases b with
  |true=>exact(jf P t).cons₂ _
  |false=>exact(jf P t).cons _
theorem jg{ls:List Nat}(t:List Bool)(h:ls.Nodup):(zF ls t).Nodup:=(yR h).sublist (jf _ _)
theorem kM(F:List Pr):∀(P:List Pr),((P.zip (P.map λ p=>F.contains p)).filterMap λ x=>if x.2=true then some x.1 else none)=P.filter λ p=>F.contains p
 | []=>rfl
 |p::P=>by
  rw[Jv,Y6,Yl,kM F P];cases h:F.contains p with
  |true=>rw[X0 h];rfl
  |false=>rw[X1 (by rw[h];exact Y2)];rfl
theorem qb7(ρ:Nat->Bool){ls:List Nat}{F:List Pr}(hl:ls.Nodup)(hF:F.Nodup)(h:∀ p∈F,p.Sublist ls):
  look ρ ls (qR ls.length ((qT ls).map λ p=>F.contains p))=qo ρ F:=by
 have len:((qT ls).map λ p=>F.contains p).length=2^ls.length:=by rw[Ul,qA]
 rw[jN ρ ls _ len,<- je ρ ls _ len];refine j3 ρ ?_;unfold zF;rw[kM,Xh ((yR hl).filter _) hF];intro p;rw[Uf,zz,XM];exact⟨λ x=>x.2,λ x=>⟨h p x,x⟩⟩
theorem plt_total{a b:Pr}(h1:¬ a<b)(h2:¬ b<a):a=b:=List.le_antisymm (List.not_lt.mp h2) (List.not_lt.mp h1)
def ins(a:Pr):List Pr->List Pr
 | []=>[a]
 |b::l=>if b<a then b::ins a l else a::b::l
def srt:List Pr->List Pr
 | []=>[]
 |a::l=>ins a (srt l)
theorem kN(a:Pr):∀ l:List Pr,(ins a l).Perm (a::l)
 | []=>U9 _
 |b::l=>by
  rw[ins];split
  ·exact((kN a l).cons b).trans (List.Perm.swap a b l)
  ·exact U9 _
theorem ye:∀ l:List Pr,(srt l).Perm l
 | []=>U9 _
 |a::l=>(kN a (srt l)).trans ((ye l).cons a)
theorem qeQ(a:Pr):∀{l:List Pr},l.Pairwise (λ x y=>¬ y<x)->(ins a l).Pairwise (λ x y=>¬ y<x)
 | [],_=>by simp[ins]
 |b::l,h=>by
  have h':=Y5.mp h;rw[ins];split
  ·rename_i hb;refine Y5.mpr ⟨λ x hx=>?_,qeQ a h'.2⟩;rcases Js.mp ((kN a l).mem_iff.mp hx) with e | e
   ·rw[e];exact qb4 _ _ hb
   ·exact h'.1 x e
  ·rename_i hb;refine Y5.mpr ⟨λ x hx=>?_,h⟩;rcases Js.mp hx with e | e
   ·rw[e];exact hb
   ·intro hxa;have i5:=h'.1 x e
    have:x<b:=by
     by_cases o7:a<b
     ·exact List.lt_trans hxa o7
     ·have:=plt_total o7 hb
      rw[<- this];exact hxa
    exact i5 this
theorem qbp:∀ l:List Pr,(srt l).Pairwise (λ x y=>¬ y<x)
 | []=>List.Pairwise.nil
 |a::l=>qeQ a (qbp l)
theorem qa3:∀{l m:List Pr},l.Perm m->l.Pairwise (λ x y=>¬ y<x)->m.Pairwise (λ x y=>¬ y<x)->l=m
 | [],m,h,_,_=>h.nil_eq
 |a::l,m,h,hl,hm=>by
  cases m with
  |nil=>exact absurd h.length_eq (by simp)
  |cons b m =>
   have G0:=Y5.mp hl;have cP:=Y5.mp hm;have ab:a=b:=by
    rcases Js.mp (h.mem_iff.mp Y1) with e|e
    ·exact e
    ·rcases Js.mp (h.mem_iff.mpr Y1) with e' | e'
     ·exact e'.symm
     ·exact plt_total (cP.1 a e) (G0.1 b e')
   subst ab;rw[qa3 (List.Perm.cons_inv h) G0.2 cP.2]
theorem srt_of{l m:List Pr}(h:l.Perm m)(hl:l.Pairwise (λ x y=>¬ y<x)):l=srt m:=qa3 (h.trans (ye m).symm) hl (qbp m)
theorem kO{l:List Pr}(h:l.Nodup):(srt l).Pairwise (·<·):=by
 have nd:(srt l).Nodup:=(ye l).nodup_iff.mpr h
 have:=qbp l
 exact(this.and nd).imp λ{a b} o7=>Xn λ hn=>o7.2 (plt_total hn o7.1)
theorem jO{l:List Pr}{p:Pr}:p∈srt l ↔ p∈l:=(ye l).mem_iff
theorem srt_perm_eq{l m:List Pr}(h:l.Perm m):srt l=srt m:=srt_of ((ye l).trans h) (qbp l)
def qgS(F G:List Pr):List Pr:=srt (qbo F G)
def jo{α:Type}[DecidableEq α]:List α->List α
 | []=>[]
 |a::l=>a::(jo l).filter λ b=>decide (b≠a)
theorem zA{α:Type}[DecidableEq α]{x:α}:∀{l:List α},x∈jo l ↔ x∈l
 | []=>by simp[jo]
 |a::l=>by
  rw[jo,Js,Uf,zA,Js];constructor
  ·rintro(h | h)
   ·exact .inl h
   ·exact .inr h.1
  ·rintro(h | h)
   ·exact .inl h
   ·by_cases e:x=a
    ·exact .inl e
    ·exact .inr ⟨h,by simpa using e⟩
theorem yf{α:Type}[DecidableEq α]:∀(l:List α),(jo l).Nodup
 | []=>by simp[jo]
 |a::l=>by
  rw[jo];refine Uj.mpr ⟨λ h=>?_,(yf l).filter _⟩
  have:=(Uf.mp h).2
  simp at this
def qb(F:List Pr):List Nat:=(srt (jo (F.flatten.map λ c=>[c]))).flatten
theorem qge{l:List Pr}(h:∀ p∈l,∃ c,p=[c]):l=l.flatten.map λ c=>[c]:=by
 induction l with
 |nil=>rfl
 |cons p l ih =>
  obtain⟨c,hc⟩:=h p Y1;subst hc;rw[Zh,Ur,<- ih λ q hq=>h q (Ya _ hq)];rfl
theorem zB(F:List Pr):srt (jo (F.flatten.map λ c=>[c]))=(qb F).map λ c=>[c]:=by
 refine qge λ p hp=>?_
 obtain⟨c,_,e⟩:=Qd.mp (zA.mp (jO.mp hp));exact⟨c,e.symm⟩
theorem zj{F:List Pr}{c:Nat}:c∈qb F ↔ ∃ p∈F,c∈p:=by
 have h:[c]∈(qb F).map (λ c=>[c]) ↔ c∈qb F:=by
  rw[Qd];exact⟨λ ⟨d,hd,e⟩=>by cases e;exact hd,λ hd=>⟨c,hd,rfl⟩⟩
 rw[<- h,<- zB,jO,zA,Qd];constructor
 ·rintro⟨d,hd,e⟩;cases e
  exact(List.mem_flatten.mp hd).imp λ p hp=>⟨hp.1,hp.2⟩
 ·rintro⟨p,hp,hc⟩;exact⟨c,List.mem_flatten.mpr ⟨p,hp,hc⟩,rfl⟩
theorem zn(F:List Pr):(qb F).Pairwise (·<·):=by
 have h:=kO (yf (F.flatten.map λ c=>[c]));rw[zB,Zk] at h;refine h.imp λ{a b} o7=>?_
 cases o7 with
 |rel h=>exact h
 |cons h=>cases h
theorem vh:∀{ls p:List Nat},ls.Pairwise (·<·)->p.Pairwise (·<·)->(∀ x∈p,x∈ls)->p.Sublist ls
 |_,[],_,_,_=>List.nil_sublist _
 | [],x::p,_,_,h=>absurd (h x Y1) (by simp)
 |l::ls,x::p,hl,hp,h=>by
  have G0:=Y5.mp hl;have p6:=Y5.mp hp;rcases Js.mp (h x Y1) with e|e
  ·subst e;refine(vh G0.2 p6.2 λ y hy=>?_).cons₂ x;rcases Js.mp (h y (Ya _ hy)) with e | e
   ·subst e;exact absurd (p6.1 _ hy) (Jr _)
   ·exact e
  ·refine(vh G0.2 hp λ y hy=>?_).cons l;rcases Js.mp (h y hy) with e' | e'
   ·subst e';rcases Js.mp hy with q | q
    ·subst q;exact e
    ·exact absurd (p6.1 _ q) (Nat.lt_asymm (G0.1 _ e))
   ·exact e'
def qL(F:List Pr)(ls:List Nat):List Bool:=qR ls.length ((qT ls).map λ p=>F.contains p)
theorem zi(F:List Pr)(ls:List Nat):(qL F ls).length=2^ls.length:=qB _ _ (by rw[Ul,qA])
theorem kP(ρ:Nat->Bool){ls:List Nat}{F:List Pr}(hl:ls.Pairwise (·<·))(hF:Vf F)(h:∀ p∈F,∀ c∈p,c∈ls):look ρ ls (qL F ls)=qo ρ F:=
 qb7 ρ (qO Jr hl) hF.nodup λ p hp=>vh hl (hF.prod p hp) (h p hp)
def formOf(ls:List Nat)(t:List Bool):List Pr:=srt (zF ls (qR ls.length t))
theorem vH{ls:List Nat}(hl:ls.Pairwise (·<·))(t:List Bool):Vf (formOf ls t):=
 ⟨kO (jg _ (qO Jr hl)),λ p hp=>hl.sublist (kL (jO.mp hp))⟩
theorem vi(ρ:Nat->Bool){ls:List Nat}{t:List Bool}(ht:t.length=2^ls.length):qo ρ (formOf ls t)=look ρ ls t:=by
 rw[formOf,j3 ρ (ye _),je ρ ls _ (qB _ _ ht),<- jN ρ ls _ (qB _ _ ht),vG _ _ ht]
theorem jw{ls:List Nat}{t:List Bool}{p:Pr}(hp:p∈formOf ls t):p.Sublist ls:=kL (jO.mp hp)
def qiS(F G:List Pr):List Pr:=formOf (qb (F++G)) (List.zipWith (· && ·) (qL F (qb (F++G))) (qL G (qb (F++G))))
def join(F G:List Pr):List Pr:=qgS (qgS F G) (qiS F G)
end Fs
namespace L2
open PySem PySem.Spec PyProof.Rows
def jT(env:Env):List (Str×NameKind)->List (Str×Addr)->List (Str×Addr)
 | [],d6=>d6
 |(n,k)::r,d6=>jT env r (if (k == NameKind.free)=true then(n,(env.cells.lookup n).getD 0)::d6 else d6)
theorem kQ(env:Env):∀(l:List (Str×NameKind))(d6:List (Str×Addr)),(∀ y∈l,y.2=.free->∃ c,env.cells.lookup y.1=some c) ->
  (forIn l d6 λ(x:Str×NameKind)(cs:List (Str×Addr))=>match x with
   |(name,kind)=>if (kind == NameKind.free)=true then do let a <- cellOf env name;pure (ForInStep.yield ((name,a)::cs)) else pure (ForInStep.yield cs):Sem (List (Str×Addr)))=pure (jT env l d6)
 | [],d6,_=>by rw[Ja];rfl
 |(n,k)::r,d6,h=>by
  rw[Us];by_cases hk:(k == NameKind.free)=true
  ·obtain⟨c,hc⟩:=h (n,k) Y1 (by simpa using hk);have e:cellOf env n=pure c:=by unfold cellOf;rw[hc]
   simp only[hk,Q4,e,pure_bind];rw[kQ env r _ λ y hy=>h y (Ya _ hy)];rw[jT,Q7 hk,hc];rfl
  ·have x3:(k == NameKind.free)=false:=by simpa using hk
   simp only[x3,Y7,Qy,pure_bind];rw[kQ env r _ λ y hy=>h y (Ya _ hy),jT,Q8 hk]
theorem yd{scope:Scope}{env:Env}(h:∀ y∈scope.names,y.2=.free->∃ c,env.cells.lookup y.1=some c):closureFor scope env=pure (jT env scope.names []):=by
 unfold closureFor
 have:=kQ env scope.names [] h
 simp only[bind_pure];exact this
theorem kR(env:Env):∀(l:List (Str×NameKind))(d6:List (Str×Addr)),(∀ y∈l,y.2=.free->∃ c,env.cells.lookup y.1=some c)->(∀ x c,d6.lookup x=some c->env.cells.lookup x=some c) ->
  ∀ x c,(jT env l d6).lookup x=some c->env.cells.lookup x=some c
 | [],d6,_,ha,x,c,e=>ha x c e
 |(n,k)::r,d6,h,ha,x,c,e=>by
  rw[jT] at e;refine kR env r _ (λ y hy=>h y (Ya _ hy)) ?_ x c e;clear e;intro x c e;by_cases hk:(k == NameKind.free)=true
  ·rw[Q7 hk] at e;obtain⟨c',hc⟩:=h (n,k) Y1 (by simpa using hk);rw[hc] at e;rw[Z2] at e;by_cases hx:(x == n)=true
   ·rw[hx] at e
    have:x=n:=by simpa using hx
    subst this;cases e
    exact hc
   ·rw[show(x == n)=false by simpa using hx] at e;exact ha x c e
  ·rw[Q8 hk] at e;exact ha x c e
theorem qb8(env:Env):∀(l:List (Str×NameKind))(d6:List (Str×Addr))(x:Str),(d6.lookup x).isSome=true->((jT env l d6).lookup x).isSome=true
 | [],_,_,h=>h
 |(n,k)::r,d6,x,h=>by
  rw[jT];refine qb8 env r _ x ?_;by_cases hk:(k == NameKind.free)=true
  ·rw[Q7 hk,Z2];cases x == n with
   |true=>rfl
   |false=>exact h
  ·rw[Q8 hk];exact h
theorem kS(env:Env):∀(l:List (Str×NameKind))(d6:List (Str×Addr))(x:Str),(x,NameKind.free)∈l->((jT env l d6).lookup x).isSome=true
 |(n,k)::r,d6,x,h=>by
  rw[jT];rcases Js.mp h with e|e
  ·cases e
   refine qb8 env r _ _ ?_;rw[Q7 (by decide),Z2];simp only[beq_self_eq_true,Option.isSome_some]
  ·exact kS env r _ x e
def q8(X:Cx)(NY:List Str)(scope:Scope)(C:Addr)(s:Shared)(H:Hp)(fp:List Addr)(pins:List (Addr×Obj)):Cx:=
 { X with N:=NY,s₀:=s,H₀:=H,env:=compEnvC scope (jT X.env scope.names []) C X.env,outer:=X.stack,ex:=fp,fn:=λ _=>false,pn:=X.pn++pins,xe:=λ _ _=>False }
structure CompScope(X:Cx)(NY:List Str)(o:Nat)(caps:List Nat)(scope:Scope):Prop where
 kind:scope.kind=.function
 nd:NY.Nodup
 nocell:∀ y∈scope.names,y.2≠.cell
 frees:∀ y∈scope.names,y.2=.free->(X.env.kindOf y.1=some .cell∨X.env.kindOf y.1=some .free)
 locs:∀ y∈scope.names,y.2=.local->scope.names.lookup y.1=some .local
 capOk:∀(j:Nat)(i:Nat),caps[j]?=some i->∃ x,NY[o+j]?=some x/\X.N[i]?=some x/\scope.names.lookup x=some .free
 len:NY.length=o+caps.length
def stY(o:Nat)(caps:List Nat)(σ:St):St:=List.replicate o none++caps.map λ i=>(σ[i]?).getD none
theorem vj{env:Env}:∀{names:List (Str×NameKind)}{x:Str},names.lookup x=some .free ->
  (names.map λ(n,k)=>if (k == NameKind.free && env.scope.kind == .function && env.kindOf n == some .cell) then(n,NameKind.cell) else(n,k)).lookup x=some .cell ∨
  (names.map λ(n,k)=>if (k == NameKind.free && env.scope.kind == .function && env.kindOf n == some .cell) then(n,NameKind.cell) else(n,k)).lookup x=some .free
 | [],_,h=>by simp at h
 |(n,k)::r,x,h=>by
  have ih:=@vj env r x;show List.lookup x ((if (k == NameKind.free && env.scope.kind == .function && env.kindOf n == some .cell)=true then(n,NameKind.cell) else(n,k))::_)=_∨List.lookup x ((if (k == NameKind.free && env.scope.kind == .function && env.kindOf n == some .cell)=true then(n,NameKind.cell) else(n,k))::_)=_
  cases hx:x == n with
  |true =>
   simp only[Z2,hx] at h;cases h
   by_cases hc:(NameKind.free == NameKind.free && env.scope.kind == .function && env.kindOf n == some .cell)=true
   ·rw[Q7 hc];left;simp only[Z2,hx]
   ·rw[Q8 hc];right;simp only[Z2,hx]
  |false =>
   simp only[Z2,hx] at h;by_cases hc:(k == NameKind.free && env.scope.kind == .function && env.kindOf n == some .cell)=true
   ·rw[Q7 hc];simp only[Z2,hx];exact ih h
   ·rw[Q8 hc];simp only[Z2,hx];exact ih h
theorem j4{env:Env}:∀{names:List (Str×NameKind)}{x:Str}{k:NameKind},(∀ y∈names,y.2≠.cell) ->
  (names.map λ(n,k)=>if (k == NameKind.free && env.scope.kind == .function && env.kindOf n == some .cell) then(n,NameKind.cell) else(n,k)).lookup x=some k->(k=.cell∨k=.free)->names.lookup x=some .free
 | [],_,_,_,h,_=>by simp at h
 |(n,k0)::r,x,k,nc,h,hk=>by
  have ih:=@j4 env r x k (λ y hy=>nc y (Ya _ hy));replace h:List.lookup x ((if (k0 == NameKind.free && env.scope.kind == .function && env.kindOf n == some .cell)=true then(n,NameKind.cell) else(n,k0))::(r.map λ(n,k)=>if (k == NameKind.free && env.scope.kind == .function && env.kindOf n == some .cell) then(n,NameKind.cell) else(n,k)))=some k:=h;have n0:=nc (n,k0) Y1;cases hx:x == n with
  |true =>
   by_cases hc:(k0 == NameKind.free && env.scope.kind == .function && env.kindOf n == some .cell)=true
   ·have:k0=.free:=by
     simp only[Z3] at hc;simpa using hc.1.1
    simp only[Z2,hx,this]
   ·rw[Q8 hc] at h;simp only[Z2,hx] at h ⊢;cases h
    rcases hk with e|e
    ·exact absurd e n0
    ·rw[e]
  |false =>
   by_cases hc:(k0 == NameKind.free && env.scope.kind == .function && env.kindOf n == some .cell)=true
   ·rw[Q7 hc] at h;simp only[Z2,hx] at h ⊢;exact ih h hk
   ·rw[Q8 hc] at h;simp only[Z2,hx] at h ⊢;exact ih h hk
theorem Un.but{fs ex:List Addr}{H H':Hp}{h h1 h2:Heap}{C:Addr}(u:Un fs ex H H' h h1)(hs:Heap.SameBut C h1 h2)(hC:h.objs.size<=C):Un fs ex H H' h h2:=by
 have ne:∀ b o,h.get? b=some o->b≠C:=λ b o e z=>by subst z;exact absurd (Y0 (J5 e) hC) (Jr _)
 refine⟨λ b o e n hb hx=>(hs.2 b (ne b o e)).trans (u.keep b o e n hb hx),λ b o e n hb hx=>?_,u.free,λ b o e hx=>?_,u.tups,u.frzs,u.tbls⟩
 ·obtain⟨sl,q⟩:=u.slot b o e n hb hx;exact⟨sl,(hs.2 b (ne b o e)).trans q⟩
 ·obtain⟨o',q⟩:=u.there b o e hx;exact⟨o',(hs.2 b (ne b o e)).trans q⟩
theorem HOk.but{P:Program}{w:World}{H:Hp}{h h':Heap}{C:Addr}(ok:HOk P w H h)(hs:Heap.SameBut C h h')(hC:H C=none):HOk P w H h':=λ a o e=>by
 refine(ok a o e).stay (λ b u hb q=>(hs.2 b ?_).trans q) (λ _ q=>q) λ _ _ q=>q
 rcases hb with z|z
 ·rw[z];exact λ y=>by rw[y,hC] at e;cases e
 ·exact λ y=>by rw[y,hC] at z;cases z
abbrev Adv:=Nat->St->Hp->(St->Hp->Prop)->Prop
structure Walk(Y:Cx)(tg:Expr)(fp:List Addr)(it:Addr)(tn:Nat->Heap->Prop)(adv:Adv)(stop:Nat->Hp->Prop):Prop where
 obj:∀ i h,tn i h->∀ b∈fp,∃ o,h.get? b=some o/\∀ v,o.data≠.cell v
 keep:∀ i h h',tn i h->(∀ b∈fp,∀ o,h.get? b=some o->h'.get? b=some o)->tn i h'
 item:∀(i:Nat)(pins:List (Addr×Obj))(s:Shared)(σ:St)(H:Hp)(N:St->Hp->Prop),Inv Y pins σ H s->(∀ b∈fp,yO Y pins H b)->tn i s.heap->adv i σ H N ->
  wpAny (model Y.prog Y.w) Y.A (pyNext (.ref it)) (λ r s1=>∃ u,r=some u/\wpAny (model Y.prog Y.w) Y.A (letOwnedTupleGo tg (.ref it) u) (λ _ s2 =>
   wpAny (model Y.prog Y.w) Y.A (assign tg Y.env u) (λ _ s3=>∃ σ' H',Inv Y pins σ' H' s3/\N σ' H'/\tn (i+1) s3.heap/\∀ b∈fp,H' b=none) Y.xe s2) Y.xe s1) Y.xe s
 done:∀(i:Nat)(pins:List (Addr×Obj))(s:Shared)(σ:St)(H:Hp),Inv Y pins σ H s->(∀ b∈fp,yO Y pins H b)->tn i s.heap->stop i H ->
  wpAny (model Y.prog Y.w) Y.A (pyNext (.ref it)) (λ r s1=>r=none/\Inv Y pins σ H s1) Y.xe s
 self:∀(A:Around)(i:Nat)(s:Shared)(Q:Value->Shared->Prop)(E:Value->Shared->Prop),tn i s.heap->Q (.ref it) s->wpAny (model Y.prog Y.w) A (pyIter (.ref it)) Q E s
theorem yS{Y:Cx}{tg:Expr}{fp:List Addr}{tn:Nat->Heap->Prop}{pins:List (Addr×Obj)}{s5 s6:Shared}{σ6:St}{H6:Hp}{i:Nat}(obj:∀ b∈fp,∃ o,s5.heap.get? b=some o/\∀ v,o.data≠.cell v)(keep:∀ h',(∀ b∈fp,∀ o,s5.heap.get? b=some o->h'.get? b=some o)->tn i h')(I6:Inv Y (pins++jZ fp s5.heap) σ6 H6 s6):Inv Y pins σ6 H6 s6/\tn i s6.heap/\∀ b∈fp,H6 b=none:=by
 refine⟨I6.unpinned,keep _ λ b hb o e=>(I6.pin (b,o) (XH _ (XH _ (zT hb e)))).1,λ b hb=>?_⟩;obtain⟨o,e,d⟩:=obj b hb;exact(I6.pin (b,o) (XH _ (XH _ (zT hb e)))).2.1
def qdz(J:It)(g:TG):Adv:=λ i σ H N=>J.go i H/\∀ x H',J.yld i H x H'->g x σ H' N
theorem Turn.walk{Y:Cx}{tg:Expr}{J:It}{fp:List Addr}{it:Addr}{tn:Nat->Heap->Prop}{g:TG}(hc:Y.calm=true)(T:Turn Y.prog Y.w Y.K tg J fp it tn)(hg:PG Y tg g):Walk Y tg fp it tn (qdz J g) J.stop where
 obj:=T.obj
 keep:=T.keep
 item:=by
  intro i pins s σ H N I hf st ⟨go,step⟩;refine thn (T.item Y rfl rfl rfl hc i pins s σ H Y.xe I hf st go) λ r s4 ⟨u,hr,h4⟩=>⟨u,hr,?_⟩
  refine thn h4 λ _ s5 ⟨x,H5,I5,r5,y5,G4,cC⟩=>?_
  have I5':=I5.pinned (λ b hb=>⟨cC b hb,(hf b hb).2⟩) (T.obj _ _ G4);refine thn (hg _ s5 σ H5 x u _ I5' r5 (step x H5 y5)) λ _ s6 ⟨σ6,H6,I6,q6⟩=>?_
  obtain⟨J1,J2,J3⟩:=yS (tg:=tg) (T.obj _ _ G4) (λ h' k=>T.keep _ _ _ G4 k) I6;exact⟨σ6,H6,J1,q6,J2,J3⟩
 done:=λ i pins s σ H I hf st hs=>T.done Y rfl rfl rfl hc i pins s σ H Y.xe I hf st hs
 self:=T.self
structure It2 where 
 go:Nat->Hp->Prop
 yld:Nat->Hp->List V->Hp->Prop
 stop:Nat->Hp->Prop
structure Turn2(P:Program)(w:World)(K:W.Frag)(tg:Expr)(J:It2)(fp:List Addr)(it:Addr)(tn:Nat->Heap->Prop):Prop where
 obj:∀ i h,tn i h->∀ b∈fp,∃ o,h.get? b=some o/\∀ v,o.data≠.cell v
 keep:∀ i h h',tn i h->(∀ b∈fp,∀ o,h.get? b=some o->h'.get? b=some o)->tn i h'
 item:∀(X:Cx),X.prog=P->X.w=w->X.K=K->X.calm=true->∀(i:Nat)(pins:List (Addr×Obj))(s:Shared)(σ:St)(H:Hp)(E:Value->Shared->Prop),Inv X pins σ H s->(∀ b∈fp,yO X pins H b)->tn i s.heap->J.go i H ->
  wpAny (model P w) X.A (pyNext (.ref it)) (λ r s1=>∃ p,r=some (.ref p) /\
   wpAny (model P w) X.A (letOwnedTupleGo tg (.ref it) (.ref p)) (λ _ s2=>∃ xs us H',Inv X pins σ H' s2/\IsTup s2.heap p us.toArray/\qI xs us/\J.yld i H xs H'/\tn (i+1) s2.heap/\∀ b∈fp,H' b=none) E s1) E s
 done:∀(X:Cx),X.prog=P->X.w=w->X.K=K->X.calm=true->∀(i:Nat)(pins:List (Addr×Obj))(s:Shared)(σ:St)(H:Hp)(E:Value->Shared->Prop),Inv X pins σ H s->(∀ b∈fp,yO X pins H b)->tn i s.heap->J.stop i H ->
  wpAny (model P w) X.A (pyNext (.ref it)) (λ r s1=>r=none/\Inv X pins σ H s1) E s
 self:∀(A:Around)(i:Nat)(s:Shared)(Q:Value->Shared->Prop)(E:Value->Shared->Prop),tn i s.heap->Q (.ref it) s->wpAny (model P w) A (pyIter (.ref it)) Q E s
def qcO(J:It2)(n:Nat)(t:TGs):Adv:=λ i σ H N=>J.go i H/\∀ xs H',J.yld i H xs H'->xs.length=n/\t xs σ H' N
theorem Turn2.walk{Y:Cx}{es:List Expr}{k:Nat}{pos:Pos}{J:It2}{fp:List Addr}{it:Addr}{tn:Nat->Heap->Prop}{t:TGs}{n:Nat}(hc:Y.calm=true)(T:Turn2 Y.prog Y.w Y.K (.Tuple es k pos) J fp it tn)(hg:PGs Y es t)(hn:(assignEach es Y.env).length=n:=by rfl)(t9:(assignEach es Y.env).findIdx? (·.1)=none:=by rfl):Walk Y (.Tuple es k pos) fp it tn (qcO J n t) J.stop where
 obj:=T.obj
 keep:=T.keep
 item:=by
  intro i pins s σ H N I hf st ⟨go,step⟩;refine thn (T.item Y rfl rfl rfl hc i pins s σ H Y.xe I hf st go) λ r s4 ⟨p,hr,h4⟩=>⟨.ref p,hr,?_⟩
  refine thn h4 λ _ s5 ⟨xs,us,H5,I5,ht,r5,y5,G4,cC⟩=>?_
  have I5':=I5.pinned (λ b hb=>⟨cC b hb,(hf b hb).2⟩) (T.obj _ _ G4);obtain⟨hl,hw⟩:=step xs H5 y5;refine assign_Tuple_tuple (I5.ok.hd hc) ht (by simp[hn,<- hl,r5.length]) t9 λ h' hx=>?_
  have I6:=I5'.kept (t':=s5.toks) λ b o e=>hx b o (J6 (J5 e)) e
  refine thn (hg _ _ σ H5 xs _ N I6 (by simpa using r5) hw) λ _ s6 ⟨σ6,H6,I7,q6⟩=>?_
  obtain⟨J1,J2,J3⟩:=yS (tg:=.Tuple es k pos) (T.obj _ _ G4) (λ h' k=>T.keep _ _ _ G4 k) I7;exact⟨σ6,H6,J1,q6,J2,J3⟩
 done:=λ i pins s σ H I hf st hs=>T.done Y rfl rfl rfl hc i pins s σ H Y.xe I hf st hs
 self:=T.self
abbrev TI2:=St->Hp->(It2->Hp->Prop)->Prop
def PI2(X:Cx)(tg iter:Expr)(wi:TI2):Prop:=
 ∀(pins:List (Addr×Obj))(s:Shared)(σ:St)(H:Hp)(R:It2->Hp->Prop),Inv X pins σ H s->wi σ H R ->
  wpAny (model X.prog X.w) X.A (eval iter X.env) (λ v s1=>wpAny (model X.prog X.w) X.A (pyIter v) (λ T6 s2 =>
   ∃(it:Addr)(fp:List Addr)(tn:Nat->Heap->Prop)(J:It2)(H':Hp),T6=.ref it/\Inv X pins σ H' s2/\Turn2 X.prog X.w X.K tg J fp it tn/\tn 0 s2.heap/\(∀ b∈fp,yO X pins H' b)/\R J H') X.xe s1) X.xe s
def PTs(X:Cx)(p4:List Expr)(tt:TT):Prop:=∀(pins:List (Addr×Obj))(s:Shared)(σ:St)(H:Hp)(Q:Bool->Hp->Prop),Inv X pins σ H s->tt σ H Q ->
 wpAny (model X.prog X.w) X.A (forIn p4 true λ c r=>if r=true then do let ok <- isTrue c X.env (eval c X.env);pure (ForInStep.yield ok) else pure (ForInStep.yield r)) (TP X pins σ Q) X.xe s
def qiT:TT:=λ _ H Q=>Q true H
theorem zd{X:Cx}:PTs X [] qiT:=λ _ _ _ H _ I h=>wpAny_tests_nil ⟨H,I,h⟩
theorem qbq{X:Cx}{c:Expr}{tt:TT}(hc:PT X c tt):PTs X [c] tt:=λ pins s σ H Q I h=>wpAny_tests_one (hc pins s σ H Q I h)
section
variable {prog:Program}{w:World}{A:Around}{R:Result->Shared->Prop}{s:Shared}
theorem qbr{r6 w5 iter:Expr}{p4:List Expr}{scope:Scope}{pos:Pos}{it d6:Value}{env:Env}(I:Nat->Shared->Prop)(n5:∀ n s,I n s->wpAny (model prog w) A (pyNext it) (λ r s₁=>match r with
   |none=>R (.ok .next) s₁
   |some v=>wpAny (model prog w) A (letOwnedTupleGo w5 it v) (λ _ s₁'=>wpAny (model prog w) A (assign w5 env v) (λ _ s₂ =>
     wpAny (model prog w) A (forIn p4 true λ c r=>if r=true then do let ok <- isTrue c env (eval c env);pure (ForInStep.yield ok) else pure (ForInStep.yield r)) (λ ok s₃ =>
      if ok=true then wpAny (model prog w) A (eval r6 env) (λ x s₄ =>
       wpAny (model prog w) A (call (.builtin "list.append") [d6,x]) (λ _ s₅=>∃ m,m<n/\I m s₅) (λ _ _=>False) s₄) (λ _ _=>False) s₃
      else ∃ m,m<n/\I m s₃) (λ _ _=>False) s₂) (λ _ _=>False) s₁') (λ _ _=>False) s₁) (λ _ _=>False) s)(n:Nat)(h:I n s):
  codeAny (model prog w) A (.compLoop (.ListComp r6 [⟨w5,iter,p4,0⟩] scope pos) 0 it d6 env) R s:=by
 refine codeAny_loop rfl I (λ n s hI=>?_) n h;refine wpAny_noted ?_;rw[compTurn_list];have no:∀{E:Value->Shared->Prop}(x:Value)(s':Shared),False->E x s':=λ _ _ f=>f.elim
 refine Qs (wpAny_standAt (Qs (Qq (n5 n s hI) (λ r s₁ h₁=>?_) no)));cases r with
 |none=>exact Qr h₁
 |some v =>
  refine Qs (Qq h₁ (λ _ s₁' h₁'=>?_) no);refine Qs (Qq h₁' (λ _ s₂ h₂=>Qs (Qq h₂ (λ ok s₃ h₃=>?_) no)) no);cases ok with
  |false=>exact Qr ⟨rfl,h₃⟩
  |true =>
   exact Qs (Qs (Qq h₃ (λ x s₄ h₄=>Qs (Qq h₄ (λ _ s₅ h₅=>Qr (Qr ⟨rfl,h₅⟩)) no)) no))
end
def Kp(o:Nat)(σ0 σ:St):Prop:=σ.drop o=σ0.drop o/\σ.length=σ0.length
theorem Kp.get{o:Nat}{caps:List Nat}{σ σ2:St}(k:Kp o (stY o caps σ) σ2):∀(j:Nat)(v:V),(stY o caps σ)[j]?=some (some v)->σ2[j]?=some (some v):=by
 intro j v e;by_cases hj:j<o
 ·unfold stY at e;rw[Xm (by simpa using hj),Xz,Q7 hj] at e;cases e
 ·have e1:(σ2.drop o)[j-o]?=((stY o caps σ).drop o)[j-o]?:=by rw[k.1]
  rw[Y8,Y8,show o+(j-o)=j by omega] at e1;rw[e1];exact e
theorem qhn{o:Nat}{caps:List Nat}{σ:St}{j:Nat}{v:V}(e:(stY o caps σ)[j]?=some (some v)):∃ j' i,j=o+j'/\caps[j']?=some i/\σ[i]?=some (some v):=by
 unfold stY at e;by_cases hj:j<o
 ·rw[Xm (by simpa using hj),Xz,Q7 hj] at e;cases e
 ·rw[Xg (by simpa using hj),XI,Ze] at e;cases q:caps[j-o]? with
  |none=>rw[q] at e;cases e
  |some i =>
   rw[q] at e;refine⟨j-o,i,by omega,q,?_⟩;cases q2:σ[i]? with
   |none=>rw[Uo,q2] at e;cases e
   |some z =>
    rw[Uo,q2] at e;have e':z=some v:=Option.some.inj e;rw[e']
def yG(o:Nat)(caps:List Nat)(adv:Adv)(stop:Nat->Hp->Prop)(tt:TT)(te:TE)(σ:St)(H1:Hp)(Q:VK):Prop:=
 ∀ D,H1 D=none->∃ W:Nat->Nat->List V->Hp->Prop,(∃ m,W 0 m [] (upd H1 D (.lst [])))/\∀ i m ys H,W i m ys H ->
  (stop i H/\Q (.ref D) H)∨adv i (stY o caps σ) H λ σ2 H2=>Kp o (stY o caps σ) σ2/\tt σ2 H2 λ b H3=>if b=true then te σ2 H3 λ y H4=>H4 D=some (.lst ys)/\ys.length<sizeLine/\∃ m',m'<m/\W (i+1) m' (ys++[y]) (upd H4 D (.lst (ys++[y])))
   else ∃ m',m'<m/\W (i+1) m' ys H3
section
variable {X:Cx}
theorem qeR{pins:List (Addr×Obj)}{σ:St}{H2:Hp}{s2:Shared}{NY:List Str}{o:Nat}{caps:List Nat}{scope:Scope}{fp:List Addr}{h₁:Heap}(S:CompScope X NY o caps scope)(I2:Inv X pins σ H2 s2)(B0:∀ b∈fp,yO X pins H2 b)(cN:∀ b∈fp,∃ ob,s2.heap.get? b=some ob)(hns:h₁.Ns (s2.heap.objs.size+1) λ _=>none)(o8:∀ b ob,s2.heap.get? b=some ob->h₁.get? b=some ob)(hD:∃ n,h₁.get? s2.heap.objs.size=some { cls:=.type "list",data:=.seq ([]:List Value).toArray n })(t':Nat):
  Inv (q8 X NY scope (s2.heap.objs.size+1) s2 H2 fp pins) [] (stY o caps σ) (upd H2 s2.heap.objs.size (.lst [])) { s2 with heap:=h₁,toks:=t' }:=by
 have frees:=λ y hy e=>I2.ok.has _ (S.frees y hy e)
 have w6:=kR X.env scope.names [] frees (λ x c e=>by simp at e);have D4:=I2.hok.fresh (Ql _);have uW:=I2.hok.fresh (Qn _);have ltC:∀ b ob,s2.heap.get? b=some ob->b≠s2.heap.objs.size+1:=λ b ob e=>J6 (Zl (J5 e))
 have ltD:∀ b ob,s2.heap.get? b=some ob->b≠s2.heap.objs.size:=λ b ob e=>J6 (J5 e)
 have bO:HOk X.prog X.w (upd H2 s2.heap.objs.size (.lst [])) h₁:=by
  obtain⟨n,hD⟩:=hD;exact I2.hok.laid o8 (Ql _) ⟨Qm _,[],n,.nil,hD⟩
 refine⟨?_,rfl,I2.bare,?_,?_,?_,?_,?_,?_,bO,?_⟩
 ·refine⟨I2.ok.mod,S.kind,I2.ok.glob,I2.ok.blt,Qn _,λ x y c h1 h2=>I2.ok.inj x y c (w6 x c h1) (w6 y c h2),λ x hx=>?_,λ x c e=>absurd e Y2,I2.ok.hd,I2.ok.frames,.inl rfl,λ b hb=>?_,
   I2.bs,J7 I2.ok.bsz I2.sz,λ b ob e hb=>?_,λ b hb z=>?_,I2.stack,I2.stkFree⟩
  ·have i5:scope.names.lookup x=some .free:=by
    rcases hx with q|q
    ·exact j4 S.nocell q (.inl rfl)
    ·exact j4 S.nocell q (.inr rfl)
   exact Xt.mp (kS X.env scope.names [] x (Yo i5))
  ·obtain⟨ob,e⟩:=cN b hb;exact⟨ltC b ob e,λ x c q=>(B0 b hb).2.2.2.2.1 x c (w6 x c q)⟩
  ·rcases(B0 b hb).2.2.2.1 with q | q
   ·exact I2.ok.noex b ob e q
   ·exact absurd (Y0 (J5 e) (J7 I2.ok.bsz q)) (Jr _)
  ·rcases Js.mp (I2.stkSub b z) with q | q
   ·exact(B0 b hb).2.1 q
   ·exact(B0 b hb).2.2.1 q
 ·exact Un.laid o8 (Ql _) D4
 ·refine⟨_,hns,λ j x v e1 e2 e3=>?_⟩;obtain⟨j',i,ej,ec,es⟩:=qhn e2;obtain⟨x',n1,n2,n3⟩:=S.capOk j' i ec;rw[<- ej] at n1;have ex:x=x':=Option.some.inj ((show NY[j]?=some x from e1).symm.trans n1);subst ex;have hk:=S.frees (x,.free) (Yo n3) rfl;obtain⟨m,_,hl⟩:=I2.loc;have hv:Vis X.env.scope x:=hk.elim (λ q=>.inr (.inl q)) λ q=>.inr (.inr q)
  obtain⟨u,ru,lk⟩:=hl i x v n2 es hv;refine⟨u,ru,.inr ⟨vj (env:=X.env) n3,?_⟩⟩;rcases lk with⟨q,_⟩|⟨_,c,ec,cell⟩
  ·rcases hk with z | z
   ·rw[show X.env.kindOf x=some .cell from z] at q;cases q
   ·rw[show X.env.kindOf x=some .free from z] at q;cases q
  ·obtain⟨c',A0⟩:=Xt.mp (kS X.env scope.names [] x (Yo n3))
   have:=w6 x c' A0
   rw[ec] at this;cases this
   obtain⟨ob,e,d⟩:=cell;exact⟨c,A0,ob,o8 c ob e,d⟩
 ·intro x c e;obtain⟨v,ob,q,d⟩:=I2.cell x c (w6 x c e);exact⟨v,ob,o8 c ob q,d⟩
 ·show upd H2 s2.heap.objs.size (.lst []) (s2.heap.objs.size+1)=none
  rw[qg (Z4 _)];exact uW
 ·intro x c e;obtain⟨v,ob,q,d⟩:=I2.cell x c (w6 x c e);rw[qg (ltD c ob q)];exact I2.freeC x c (w6 x c e)
 ·intro p hp;have p6:p∈X.pn++pins:=by
   have:p∈(X.pn++pins)++[]:=hp
   simpa using this
  obtain⟨e,n,ne,nf,d⟩:=I2.pin p p6;refine⟨o8 _ _ e,by rw[qg (ltD _ _ e)];exact n,ltC _ _ e,λ z=>?_,d⟩;rcases Js.mp (I2.stkSub p.1 z) with q|q
  ·exact ne q
  ·exact nf q
 ·show(stY o caps σ).length=NY.length
  unfold stY;rw[Y4,XI,Ul,S.len]
def cxL(X:Cx)(NY:List Str)(L:List (Str×Addr))(fn:Str->Bool)(scope:Scope)(C:Addr)(s:Shared)(H:Hp)(fp:List Addr)(pins:List (Addr×Obj)):Cx:=
 { X with N:=NY,s₀:=s,H₀:=H,env:=compEnvC scope L C X.env,outer:=X.stack,ex:=fp,fn:=fn,pn:=X.pn++pins,xe:=λ _ _=>False }
theorem qd0{pins:List (Addr×Obj)}{σ:St}{H2:Hp}{s2:Shared}{NY:List Str}{o:Nat}{caps:List Nat}{scope:Scope}{fp:List Addr}{it:Addr}{tn:Nat->Heap->Prop}{adv:Adv}{stop:Nat->Hp->Prop}{r6 tg iter:Expr}{p4:List Expr}{pos:Pos}{tt:TT}{te:TE}{Q:VK}{R:Result->Shared->Prop}{L:List (Str×Addr)}{fn:Str->Bool}{h₁:Heap}{tk:Nat}(I2:Inv X pins σ H2 s2)(B0:∀ b∈fp,yO X pins H2 b)(d9:tn 0 s2.heap)(o8:∀ b ob,s2.heap.get? b=some ob->h₁.get? b=some ob)(Wk:Walk (cxL X NY L fn scope (s2.heap.objs.size+1) s2 H2 fp pins) tg fp it tn adv stop)(ht:PTs (cxL X NY L fn scope (s2.heap.objs.size+1) s2 H2 fp pins) p4 tt)(he:PE (cxL X NY L fn scope (s2.heap.objs.size+1) s2 H2 fp pins) r6 te)(h:yG o caps adv stop tt te σ H2 Q)(I4:Inv (cxL X NY L fn scope (s2.heap.objs.size+1) s2 H2 fp pins) [] (stY o caps σ) (upd H2 s2.heap.objs.size (.lst [])) { s2 with heap:=h₁,toks:=tk })(fin:∀(s4:Shared)(H3:Hp)(m:Str->Option Value),s4.heap.Ns (s2.heap.objs.size+1) m->(∀ h',Heap.SameBut (s2.heap.objs.size+1) s4.heap h'->Inv X pins σ H3 { s4 with heap:=h' })->H3 (s2.heap.objs.size+1)=none->Q (.ref s2.heap.objs.size) H3->R (.ok .next) s4):
  codeAny (model X.prog X.w) X.A (.compStart (.ListComp r6 [⟨tg,iter,p4,0⟩] scope pos) 0 (.ref it) (.ref s2.heap.objs.size) (compEnvC scope L (s2.heap.objs.size+1) X.env)) R { s2 with heap:=h₁,toks:=tk }:=by
 have D4:H2 s2.heap.objs.size=none:=I2.hok.fresh (Ql _);obtain⟨W,⟨m0,w0⟩,n5⟩:=h _ D4;have ob0:=Wk.obj 0 s2.heap d9;have st4:tn 0 h₁:=Wk.keep _ _ _ d9 λ b _ ob e=>o8 b ob e
 have fr4:∀ b∈fp,upd H2 s2.heap.objs.size (.lst []) b=none:=λ b hb=>by
  obtain⟨ob,e,_⟩:=ob0 b hb;rw[qg (J6 (J5 e))];exact(B0 b hb).1
 have loop:codeAny (model X.prog X.w) X.A (.compLoop (.ListComp r6 [⟨tg,iter,p4,0⟩] scope pos) 0 (.ref it) (.ref s2.heap.objs.size) (compEnvC scope L (s2.heap.objs.size+1) X.env))
   R { s2 with heap:=h₁,toks:=tk }:=by
  generalize hY:cxL X NY L fn scope (s2.heap.objs.size+1) s2 H2 fp pins=Y at Wk ht he I4;have xE:∀{H':Hp},(∀ b∈fp,H' b=none)->∀ b∈fp,yO Y [] H' b:=λ{H'} hn b hb=>by
   subst hY;obtain⟨ob,e,_⟩:=ob0 b hb;have k:=I4.ok.exf b hb;refine⟨hn b hb,k.1,I4.ok.exfs b hb,.inl hb,k.2,λ p hp=>?_⟩;have p6:p∈X.pn++pins:=by
    have:p∈(X.pn++pins)++[]:=hp
    simpa using this
   exact(B0 b hb).2.2.2.2.2 p p6
  refine qbr (λ n s'=>∃ i ys H',Inv Y [] (stY o caps σ) H' s'/\tn i s'.heap/\(∀ b∈fp,H' b=none)/\W i n ys H') ?_ m0 ⟨0,[],_,I4,st4,fr4,w0⟩;rintro n s3 ⟨i,ys,H3,I3,B3,aP,w3⟩;have eE:Y.xe=λ _ _=>False:=by subst hY;rfl
  have ePw:Y.prog=X.prog/\Y.w=X.w/\Y.A=X.A/\Y.env=compEnvC scope L (s2.heap.objs.size+1) X.env:=by subst hY;exact⟨rfl,rfl,rfl,rfl⟩
  obtain⟨eP,ew,eA,ee⟩:=ePw;rw[<- eP,<- ew,<- eA,<- ee,<- eE];rcases n5 i n ys H3 w3 with⟨dJ,qn⟩|av
  ·refine thn (Wk.done i [] s3 _ H3 I3 (xE aP) B3 dJ) λ r s4 ⟨hr,I5⟩=>?_
   subst hr;obtain⟨m,hn,_⟩:=id I5.loc;have eC:Y.env.locals=s2.heap.objs.size+1:=by rw[ee];rfl
   rw[eC] at hn;have u:=I5.base;have uF:=I5.hok;have A9:=I5.free;rw[eC] at A9;have fY:=I5.bare;have hos:=I5.os;subst hY;refine fin s4 H3 m hn (λ h' hs=>?_) A9 qn;have u2:Un (frs X.stack) fp H2 H3 s2.heap h':=Un.but u hs (Qn _);have bM:HOk X.prog X.w H3 h':=HOk.but uF hs A9;obtain⟨hh,g,d,t,rA⟩:=s4;obtain rfl:rA=s2.os:=hos;exact Inv.call (s:=s2) (h':=h') (g':=g) (d':=d) (t':=t) (ch:=fp) I2 u2 bM fY λ b hb=>⟨(B0 b hb).2.2.2.1,(B0 b hb).2.1,(B0 b hb).2.2.2.2.1,(B0 b hb).2.2.2.2.2⟩
  ·refine thn (Wk.item i [] s3 _ H3 _ I3 (xE aP) B3 av) λ r s4 ⟨u,hr,h4⟩=>?_
   subst hr;refine thn h4 λ _ s5 h5=>thn h5 λ _ s6 ⟨σ6,H6,I6,⟨kp,q6⟩,dL,fr6⟩=>?_
   have I6':=I6.pinned (fp:=fp) (xE fr6) (Wk.obj _ _ dL);refine thn (ht _ s6 σ6 H6 _ I6' q6) λ b s7 ⟨H7,I7,q7⟩=>?_
   cases b with
   |false =>
    obtain⟨m',hm,w7⟩:=q7;obtain⟨J1,J2,J3⟩:=yS (tg:=tg) (tn:=tn) (i:=i+1) (Wk.obj _ _ dL) (λ h' k=>Wk.keep _ _ _ dL k) I7;exact⟨m',hm,i+1,ys,H7,J1.weak kp.2.symm kp.get,J2,J3,w7⟩
   |true =>
    refine thn (he _ s7 σ6 H7 _ I7 q7) λ y s8 ⟨yv,H8,I8,r8,hD8,lM,m',hm,w8⟩=>?_
    refine thn (zV (X:=Y) _ s8 σ6 H8 (.ref s2.heap.objs.size) [yv] _ _ (λ v H'=>v=.non/\H'=upd H8 s2.heap.objs.size (.lst (ys++[yv]))) I8 rfl (.cons r8 .nil) ⟨_,ys,yv,rfl,rfl,hD8,lM,rfl,rfl⟩) λ v s9 ⟨_,H9,I9,_,_,e9⟩=>?_
    subst e9;obtain⟨J1,J2,J3⟩:=yS (tg:=tg) (tn:=tn) (i:=i+1) (Wk.obj _ _ dL) (λ h' k=>Wk.keep _ _ _ dL k) I9;exact⟨m',hm,i+1,ys++[yv],_,J1.weak kp.2.symm kp.get,J2,J3,w8⟩
 exact codeAny_compStart_list loop (Wk.self _ 0 _ _ _ st4 loop)
theorem qb9{pins:List (Addr×Obj)}{σ:St}{H2:Hp}{s2:Shared}{NY:List Str}{o:Nat}{caps:List Nat}{scope:Scope}{fp:List Addr}{it:Addr}{tn:Nat->Heap->Prop}{adv:Adv}{stop:Nat->Hp->Prop}{r6 tg iter:Expr}{p4:List Expr}{pos:Pos}{tt:TT}{te:TE}{Q:VK}{R:Result->Shared->Prop}(S:CompScope X NY o caps scope)(I2:Inv X pins σ H2 s2)(B0:∀ b∈fp,yO X pins H2 b)(d9:tn 0 s2.heap)(Wk:∀ C,Walk (q8 X NY scope C s2 H2 fp pins) tg fp it tn adv stop)(ht:∀ C,PTs (q8 X NY scope C s2 H2 fp pins) p4 tt)(he:∀ C,PE (q8 X NY scope C s2 H2 fp pins) r6 te)(h:yG o caps adv stop tt te σ H2 Q)(fin:∀(s4:Shared)(H3:Hp)(m:Str->Option Value),s4.heap.Ns (s2.heap.objs.size+1) m->(∀ h',Heap.SameBut (s2.heap.objs.size+1) s4.heap h'->Inv X pins σ H3 { s4 with heap:=h' })->H3 (s2.heap.objs.size+1)=none->Q (.ref s2.heap.objs.size) H3->R (.ok .next) s4):
  wpAny (model X.prog X.w) X.A (newList []) (λ d6 s₃=>wpAny (model X.prog X.w) X.A (newFunctionEnv scope X.env.globals (jT X.env scope.names []) [] X.env.qual none .none (some X.env)) (λ x8 s₄ =>
   d6=.ref s2.heap.objs.size/\x8.locals=s2.heap.objs.size+1/\codeAny (model X.prog X.w) X.A (.compStart (.ListComp r6 [⟨tg,iter,p4,0⟩] scope pos) 0 (.ref it) d6 { x8 with scope:=relabel scope X.env }) R s₄) X.xe s₃) X.xe s2:=by
 refine Zu (wpAny_newFunctionEnv S.nocell (by intro y hy;simp at hy) (λ h₁ hns₁ L0₁=>?_) S.kind);have hC:(s2.heap.push { cls:=.type "list",dict:=none,data:=.seq ([]:List Value).toArray }).objs.size=s2.heap.objs.size+1:=Jb _ _;rw[hC] at hns₁ L0₁ ⊢;have o8:∀ b ob,s2.heap.get? b=some ob->h₁.get? b=some ob:=λ b ob e =>
  (L0₁.2 b (J6 (Zl (J5 e)))).trans (X9 _ (X9 _ e))
 have hD:∃ n,h₁.get? s2.heap.objs.size=some { cls:=.type "list",data:=.seq ([]:List Value).toArray n }:=
  ⟨_,(L0₁.2 _ (J6 (Z5 _))).trans (X9 _ (Yn _ rfl))⟩
 have I4:=qeR S I2 B0 (λ b hb=>((Wk 0).obj 0 _ d9 b hb).imp λ _ q=>q.1) (hns:=hns₁) o8 hD (s2.toks+([]:List (Str×Value)).length);exact⟨rfl,rfl,qd0 (L:=jT X.env scope.names []) (fn:=λ _=>false) I2 B0 d9 o8 (Wk _) (ht _) (he _) h I4 fin⟩
theorem kU{pins:List (Addr×Obj)}{σ:St}{H2:Hp}{s2:Shared}{NY:List Str}{o:Nat}{caps:List Nat}{scope:Scope}{fp:List Addr}{it:Addr}{tn:Nat->Heap->Prop}{adv:Adv}{stop:Nat->Hp->Prop}{r6 tg iter:Expr}{p4:List Expr}{pos:Pos}{tt:TT}{te:TE}{Q:VK}(S:CompScope X NY o caps scope)(I2:Inv X pins σ H2 s2)(B0:∀ b∈fp,yO X pins H2 b)(d9:tn 0 s2.heap)(Wk:∀ C,Walk (q8 X NY scope C s2 H2 fp pins) tg fp it tn adv stop)(ht:∀ C,PTs (q8 X NY scope C s2 H2 fp pins) p4 tt)(he:∀ C,PE (q8 X NY scope C s2 H2 fp pins) r6 te)(h:yG o caps adv stop tt te σ H2 Q):
  wpAny (model X.prog X.w) X.A (newList []) (λ d6 s₃=>wpAny (model X.prog X.w) X.A (newFunctionEnv scope X.env.globals (jT X.env scope.names []) [] X.env.qual none .none (some X.env)) (λ x8 s₄ =>
   codeAny (model X.prog X.w) X.A (.compStart (.ListComp r6 [⟨tg,iter,p4,0⟩] scope pos) 0 (.ref it) d6 { x8 with scope:=relabel scope X.env }) (compPost (model X.prog X.w) X.A X.xe none (EP X pins σ Q) d6 x8.locals) s₄) X.xe s₃) X.xe s2:=by
 refine thn (qb9 (iter:=iter) (pos:=pos) (R:=compPost (model X.prog X.w) X.A X.xe none (EP X pins σ Q) (.ref s2.heap.objs.size) (s2.heap.objs.size+1)) S I2 B0 d9 Wk ht he h λ s4 H3 m hn tL _ q=>⟨m,hn,λ h' hs=>⟨.ref s2.heap.objs.size,H3,tL h' hs,rfl,q⟩⟩) λ d6 s3 h3=>thn h3 λ x8 s4 h4=>?_
 obtain⟨rfl,eC,h4⟩:=h4;rw[eC] at h4 ⊢;exact h4
def qgT(o:Nat)(caps:List Nat)(wi:TI)(g:TG)(tt:TT)(te:TE):TE:=λ σ H Q=>wi σ H λ J H1=>yG o caps (qdz J g) J.stop tt te σ H1 Q
theorem zu{r6 iter tg:Expr}{p4:List Expr}{scope:Scope}{pos:Pos}{NY:List Str}{o:Nat}{caps:List Nat}{wi:TI}{g:TG}{tt:TT}{te:TE}(S:CompScope X NY o caps scope)(hc:X.calm=true)(hi:PI X tg iter wi)(hg:∀ C s H fp pins,PG (q8 X NY scope C s H fp pins) tg g)(ht:∀ C s H fp pins,PTs (q8 X NY scope C s H fp pins) p4 tt)(he:∀ C s H fp pins,PE (q8 X NY scope C s H fp pins) r6 te)(hs:∀ x,foldedSetIterable iter X.env x=pure x:=by intro _;rfl):PE X (.ListComp r6 [⟨tg,iter,p4,0⟩] scope pos) (qgT o caps wi g tt te):=by
 intro pins s σ H Q I h;rw[eval_ListComp];refine Xy rfl hs (yd λ y hy e=>I.ok.has _ (S.frees y hy e)) S.kind S.locs ?_;refine thn (hi pins s σ H _ I h) λ v s1 h1=>thn h1 λ T6 s2 h2=>?_
 obtain⟨it,fp,tn,J,H2,e,I2,T,d9,f2,hr⟩:=h2;subst e;exact kU S I2 f2 d9 (λ C=>Turn.walk hc T (hg _ _ _ _ _)) (λ C=>ht _ _ _ _ _) (λ C=>he _ _ _ _ _) hr
def qeS(o:Nat)(caps:List Nat)(wi:TI2)(n:Nat)(t:TGs)(tt:TT)(te:TE):TE:=λ σ H Q=>wi σ H λ J H1=>yG o caps (qcO J n t) J.stop tt te σ H1 Q
theorem qca{r6 iter:Expr}{es:List Expr}{k n:Nat}{i9:Pos}{p4:List Expr}{scope:Scope}{pos:Pos}{NY:List Str}{o:Nat}{caps:List Nat}{wi:TI2}{t:TGs}{tt:TT}{te:TE}(S:CompScope X NY o caps scope)(hc:X.calm=true)(hi:PI2 X (.Tuple es k i9) iter wi)(hg:∀ C s H fp pins,PGs (q8 X NY scope C s H fp pins) es t)(hn:∀ env,(assignEach es env).length=n)(t9:∀ env,(assignEach es env).findIdx? (·.1)=none)(ht:∀ C s H fp pins,PTs (q8 X NY scope C s H fp pins) p4 tt)(he:∀ C s H fp pins,PE (q8 X NY scope C s H fp pins) r6 te)(hs:∀ x,foldedSetIterable iter X.env x=pure x:=by intro _;rfl):PE X (.ListComp r6 [⟨.Tuple es k i9,iter,p4,0⟩] scope pos) (qeS o caps wi n t tt te):=by
 intro pins s σ H Q I h;rw[eval_ListComp];refine Xy rfl hs (yd λ y hy e=>I.ok.has _ (S.frees y hy e)) S.kind S.locs ?_;refine thn (hi pins s σ H _ I h) λ v s1 h1=>thn h1 λ T6 s2 h2=>?_
 obtain⟨it,fp,tn,J,H2,e,I2,T,d9,f2,hr⟩:=h2;subst e;exact kU S I2 f2 d9 (λ C=>Turn2.walk hc T (hg _ _ _ _ _) (hn _) (t9 _)) (λ C=>ht _ _ _ _ _) (λ C=>he _ _ _ _ _) hr
end
def ItV(n:Nat)(val:Nat->V):It:=⟨λ i _=>i<n,λ i H x H'=>H'=H/\x=val i,λ i _=>i=n⟩
theorem j5{P:Program}{w:World}{K:W.Frag}{tg:Expr}{it:Addr}{n:Nat}{Pv:Nat->Value->Prop}{St:Nat->Heap->Prop}(val:Nat->V)(W:∀ A:Around,A.handled=none->Walks P w A it [it] [it] n Pv St)(hv:∀ i v,Pv i v->qF (val i) v)(ob:∀ i h,St i h->∃ o nm vs,h.get? it=some o/\o.cls=.type nm/\o.data=.fields vs/\["enumerate","zip","dict_itemiterator","dict_reverseitemiterator","odict_iterator","itertools.zip_longest","itertools.pairwise"].contains nm=false)(self:∀(A:Around)(i:Nat)(s:Shared)(Q:Value->Shared->Prop)(E:Value->Shared->Prop),St i s.heap->Q (.ref it) s->wpAny (model P w) A (pyIter (.ref it)) Q E s):
  Turn P w K tg (ItV n val) [it] it St where
 mem:=by simp
 obj:=λ i h st b hb=>by
  have e:b=it:=by simpa using hb
  subst e;obtain⟨o,nm,vs,e,_,d,_⟩:=ob i h st;exact⟨o,e,λ v z=>by rw[d] at z;cases z⟩
 keep:=λ i h h' st k=>by
  have ha:callerA.handled=none:=rfl;exact(W callerA ha).frame i h h' st k
 item:=by
  intro X hP hw hK hc i pins s σ H E I hf st hg;subst hP hw hK;obtain⟨f0,f1,f2,f3,f4,f5⟩:=hf it (by simp);refine(W X.A (I.ok.hd hc)).item i s _ _ hg st λ v h' tk O2 b0 kk=>?_
  have I1:Inv X pins σ H { s with heap:=h',toks:=tk }:=I.turned (λ b o hb e=>kk b o (by simpa using hb) e) f0 f1 f3 f4 f5;obtain⟨o,nm,vs,e,c,d,nn⟩:=ob _ _ b0;exact⟨_,rfl,qdq (s:={ s with heap:=h',toks:=tk }) e c d nn ⟨val i,H,I1,hv i v O2,⟨rfl,rfl⟩,b0,λ b hb=>(hf b hb).1⟩⟩
 done:=by
  intro X hP hw hK hc i pins s σ H E I hf st hg;subst hP hw hK;obtain⟨f0,f1,f2,f3,f4,f5⟩:=hf it (by simp);have hg:i=n:=hg;subst hg;exact(W X.A (I.ok.hd hc)).done s _ _ st λ h' tk kk=>⟨rfl,I.turned (λ b o hb e=>kk b o (by simpa using hb) e) f0 f1 f3 f4 f5⟩
 self:=self
theorem qgf{n:Nat}{val:Nat->V}{g:TG}{tb:TS}{D:Ends}{σ:St}{H:Hp}(Pv:Nat->St->Hp->Prop)(h0:Pv 0 σ H)(hs:∀ i σ H,i<n->Pv i σ H->g (val i) σ H λ σ2 H2=>tb { D with nx:=Pv (i+1),ct:=Pv (i+1),bk:=D.nx } σ2 H2)(hd:∀ σ H,Pv n σ H->D.nx σ H):
  ∃ W:Nat->Nat->St->Hp->Prop,(∃ m,W 0 m σ H)/\∀ i m σ H,W i m σ H ->
   ((ItV n val).stop i H/\D.nx σ H)∨((ItV n val).go i H/\∃ N:St->Hp->Prop,(∀ σ' H',N σ' H'->∃ m',m'<m/\W (i+1) m' σ' H')/\∀ x H',(ItV n val).yld i H x H'->g x σ H' λ σ2 H2=>tb { D with nx:=N,ct:=N,bk:=D.nx } σ2 H2):=by
 refine⟨λ i m σ H=>m=n-i/\i<=n/\Pv i σ H,⟨n,by simp,Qm _,h0⟩,?_⟩;rintro i m σ H ⟨rfl,hi,p⟩;by_cases d4:i<n
 ·refine .inr ⟨d4,Pv (i+1),λ σ' H' p'=>⟨n-(i+1),by omega,rfl,d4,p'⟩,λ x H' y=>?_⟩;obtain⟨e,y⟩:=y;subst e y;exact hs i σ _ d4 p
 ·have e:i=n:=by omega
  subst e;exact .inl ⟨rfl,hd σ H p⟩
def sgn(z:Str)(i:Nat):V:=.str ⟨#[z.cps.getD i 0]⟩
theorem qbs{z:Str}{i:Nat}{v:Value}(h:SignAt z i v):qF (sgn z i) v:=by
 obtain⟨c,u,e,rfl⟩:=h;refine⟨u,?_⟩
 have:z.cps.getD i 0=c:=by rw[Xe,e];rfl
 rw[this]
def qiU(te:TE):TI:=λ σ H R=>te σ H λ x H1=>∃ z,x=.str z/\R (ItV z.cps.size (sgn z)) H1
theorem jx{X:Cx}{tg e:Expr}{te:TE}(he:PE X e te):PI X tg e (qiU te):=by
 intro pins s σ H R I h;refine thn (he pins s σ H _ I h) λ v s1 ⟨x,H1,I1,r1,z,ez,q⟩=>?_
 subst ez;obtain⟨t,rfl⟩:=r1;cases ha:z.cps.all (·<128) with
 |false =>
  refine wpAny_pyIter_wide ha ⟨s1.heap.objs.size,[s1.heap.objs.size],_,_,H1,rfl,I1.kept (t':=s1.toks) λ b o e=>X9 _ e,
   j5 (sgn z) (λ A hA=>Walks.strWide hA _ z t) (λ i v=>qbs) (λ i h st=>?_) (λ _ _ _ _ _ st h=>wpAny_pyIter_striter_wide st h),⟨_,Yn _ rfl,rfl,rfl⟩,λ b hb=>?_,q⟩
  ·obtain⟨o,e,c,d⟩:=st;exact⟨o,_,_,e,c,d,by decide⟩
  ·have e:b=s1.heap.objs.size:=by simpa using hb
   subst e;exact I1.fpOk (Ql _) (I1.hok.fresh (Ql _))
 |true =>
  refine wpAny_pyIter_ascii ha ⟨s1.heap.objs.size,[s1.heap.objs.size],_,_,H1,rfl,I1.kept (t':=s1.toks) λ b o e=>X9 _ e,
   j5 (sgn z) (λ A hA=>Walks.strAscii hA _ z t) (λ i v=>qbs) (λ i h st=>?_) (λ _ _ _ _ _ st h=>wpAny_pyIter_striter_ascii st h),⟨_,Yn _ rfl,rfl,rfl⟩,λ b hb=>?_,q⟩
  ·obtain⟨o,e,c,d⟩:=st;exact⟨o,_,_,e,c,d,by decide⟩
  ·have e:b=s1.heap.objs.size:=by simpa using hb
   subst e;exact I1.fpOk (Ql _) (I1.hok.fresh (Ql _))
theorem qcb{X:Cx}{T:String}{x:Str}{a:Expr}{ta:TA}{p pos:Pos}{pins:List (Addr×Obj)}{s:Shared}{σ:St}{H:Hp}{Q:Value->Shared->Prop}{R:List V->Hp->Prop}(hg:Gl X x)(hm:X.mg x=none)(hv:bootBuiltins x=some (.type T))(ha:PA X [a] ta)(I:Inv X pins σ H s)(h:ta σ H R)(hk:∀ us s1 vs H1,Inv X pins σ H1 s1->qI vs us->R vs H1->wpAny (model X.prog X.w) X.A (call (.type T) us) Q X.xe s1)(hn:x≠"__name__":=by decide)(hd:(x == ("__debug__":Str))=false:=by decide)(hs:starEach [a] X.env=[(false,eval a X.env)]:=by rfl):wpAny (model X.prog X.w) X.A (eval (.Call (.Name x p) [a] [] pos) X.env) Q X.xe s:=by
 refine Call_ (y9 I hg hm hv (Xd (thn (ha pos pins s σ H _ I h) λ us s1 ⟨vs,H1,I1,r1,q1⟩=>hk us s1 vs H1 I1 r1 q1) hs rfl) hn hd)
def ItZ(K:W.Frag)(a b:Addr):It2:=
 ⟨λ i H=>∃ xs ys x y,SqL K H a xs/\SqL K H b ys/\xs[i]?=some x/\ys[i]?=some y,λ i H zs H'=>H'=H/\∃ x y,zs=[x,y]/\(∀ xs,SqL K H a xs->xs[i]?=some x)/\(∀ ys,SqL K H b ys->ys[i]?=some y),
  λ i H=>∃ xs ys,SqL K H a xs/\SqL K H b ys/\(xs.length<=i∨ys.length<=i)⟩
def qie(z TI TO i1 i2 a b:Addr)(i:Nat)(h:Heap):Prop:=IsZip h z TI TO .none/\IsPair h TI (.ref i1) (.ref i2)/\(∃ c d,IsPair h TO c d)/\h.IsListIter i1 a i/\h.IsListIter i2 b i
theorem qeT{P:Program}{w:World}{K:W.Frag}{es:List Expr}{k:Nat}{pos:Pos}{a b z TI TO i1 i2:Addr}(D:ZipApart z TI TO i1 i2 a b):
  Turn2 P w K (.Tuple es k pos) (ItZ K a b) [z,TI,TO,i1,i2] z (qie z TI TO i1 i2 a b) where
 obj:=λ i h st c hc=>by
  obtain⟨hz,p9,⟨c1,d1,i6⟩,⟨o1,R6,cc1,dd1⟩,⟨o2,uI,cc2,xZ⟩⟩:=st;have hc:c=z∨c=TI∨c=TO∨c=i1∨c=i2:=by simpa using hc
  rcases hc with e|e|e|e|e
  ·subst e;exact⟨_,hz,λ v q=>by cases q⟩
  ·subst e;exact⟨_,p9,λ v q=>by cases q⟩
  ·subst e;exact⟨_,i6,λ v q=>by cases q⟩
  ·subst e;exact⟨o1,R6,λ v q=>by rw[dd1] at q;cases q⟩
  ·subst e;exact⟨o2,uI,λ v q=>by rw[xZ] at q;cases q⟩
 keep:=λ i h h' st k=>by
  obtain⟨hz,p9,⟨c1,d1,i6⟩,h1,h2⟩:=st;exact⟨k z (by simp) _ hz,k TI (by simp) _ p9,⟨c1,d1,k TO (by simp) _ i6⟩,h1.at λ o q=>k i1 (by simp) o q,h2.at λ o q=>k i2 (by simp) o q⟩
 item:=by
  intro X hP hw hK hc i pins s σ H E I hf st hg;subst hP hw hK;obtain⟨xs,ys,x,y,aE,E9,hx,hy⟩:=hg;obtain⟨eJ,lB,p1,eQ⟩:=I.list aE;obtain⟨i4,R5,p2,eO⟩:=I.list E9;obtain⟨u1,t6,aZ⟩:=lB.get hx;obtain⟨u2,lO,S8⟩:=R5.get hy;obtain⟨hz,p9,⟨c1,d1,i6⟩,h1,h2⟩:=st;refine wpAny_pyNext_zip_item D hz p9 i6 h1 h2 p1.isList p2.isList (x:=u1) (y:=u2) (by simpa using t6) (by simpa using lO) λ h' tN bV cW L5 hp hsz hk=>?_
  refine⟨s.heap.objs.size,rfl,wpAny_letOwnedTupleGo_zip tN λ L5 L8 i3=>?_⟩;rename_i cX;replace i3:Heap.SameBut z h' L5:=i3;have eN:z<s.heap.objs.size:=J5 hz;have k2:∀ c o,c≠z->c≠TO->c≠i1->c≠i2->s.heap.get? c=some o->L5.get? c=some o:=λ c o a1 a2 a3 a4 q=>i3.extBut c o a1 (hk c o a1 a2 a3 a4 q)
  have fz:=hf z (by simp);have fO:=hf TO (by simp);have f1:=hf i1 (by simp);have f2:=hf i2 (by simp);have nn:∀ c,c∉[z,TO,i1,i2]->c≠z/\c≠TO/\c≠i1/\c≠i2:=λ c d3=>by simpa using d3
  have I1:Inv X pins σ H { s with heap:=L5 }:=by
   refine I.step (g':=s.gens) (d':=s.drawn) (t':=s.toks) (ch:=[z,TO,i1,i2]) (λ c d3=>?_) (λ c o _ _ d3 q _=>k2 c o (nn c d3).1 (nn c d3).2.1 (nn c d3).2.2.1 (nn c d3).2.2.2 q)
    (λ c o _ _ d3 q _=>⟨o.slots,k2 c o (nn c d3).1 (nn c d3).2.1 (nn c d3).2.2.1 (nn c d3).2.2.2 q⟩) (λ _ _ _ _ n=>n) (λ c o d3 q=>⟨o,k2 c o (nn c d3).1 (nn c d3).2.1 (nn c d3).2.2.1 (nn c d3).2.2.2 q⟩)
    (λ _ _ q=>q) (λ _ _ _ q=>q) (λ c ps q=>⟨#[],by rw[q];simp⟩) (λ m hm=>?_) (λ c u q=>?_) I.bare
   ·have:yO X pins H c:=by
     have d3:c=z∨c=TO∨c=i1∨c=i2:=by simpa using d3
     rcases d3 with e|e|e|e <;> subst e <;> assumption
    exact⟨this.2.2.2.1,this.2.1,this.2.2.2.2.1,this.2.2.2.2.2⟩
   ·obtain⟨o,t4,ep,ho,r⟩:=hm;exact⟨o,t4,ep,k2 _ o (Q2 fz.2.1) (Q2 fO.2.1) (Q2 f1.2.1) (Q2 f2.2.1) ho,r⟩
   ·have no:∀ b',H b'=none->∀ c',(c'=c∨H c'=some (.own c))->c'≠b':=λ b' O8 c' A0 e=>by
     subst e;rcases A0 with e|e
     ·subst e;rw[O8] at q;cases q
     ·rw[O8] at e;cases e
    exact(I.hok c u q).stay (λ c' v d3 r=>k2 c' v (no z fz.1 c' d3) (no TO fO.1 c' d3) (no i1 f1.1 c' d3) (no i2 f2.1 c' d3) r) (λ _ r=>r) λ _ _ r=>r
  have bJ:IsPair L5 s.heap.objs.size u1 u2:=i3.extBut _ _ (J9 eN) hp;refine⟨[x,y],[u1,u2],H,I1,⟨_,bJ,rfl,_,rfl⟩,.cons aZ (.cons S8 .nil),⟨rfl,x,y,rfl,λ ws hw=>by rw[I.list_inj hw aE];exact hx,λ ws hw=>by rw[I.list_inj hw E9];exact hy⟩,?_,λ c d3=>(hf c d3).1⟩;refine⟨L8,i3.extBut _ _ D.TIz (hk _ _ D.TIz D.TITO D.TIi1 D.TIi2 p9),⟨_,_,i3.extBut _ _ D.TOz bV⟩,cW.extBut i3.extBut D.i1z,cX.extBut i3.extBut D.i2z⟩
 done:=by
  intro X hP hw hK hc i pins s σ H E I hf st hg;subst hP hw hK;obtain⟨xs,ys,aE,E9,hx⟩:=hg;obtain⟨eJ,lB,p1,eQ⟩:=I.list aE;obtain⟨i4,R5,p2,eO⟩:=I.list E9;obtain⟨hz,p9,⟨c1,d1,i6⟩,h1,h2⟩:=st;have aM:=lB.length;have F0:=R5.length;have fz:=hf z (by simp);have fO:=hf TO (by simp);have f1:=hf i1 (by simp);have f2:=hf i2 (by simp);have nn:∀ c,c∉[z,TO,i1,i2]->c≠z/\c≠TO/\c≠i1/\c≠i2:=λ c d3=>by simpa using d3
  refine wpAny_pyNext_zip_end (I.ok.hd hc) D hz p9 i6 h1 h2 p1.isList p2.isList (by rcases hx with q|q;left;simp;omega;right;simp;omega) λ h' k2=>⟨rfl,?_⟩
  refine I.step (g':=s.gens) (d':=s.drawn) (t':=s.toks) (ch:=[z,TO,i1,i2]) (λ c d3=>?_) (λ c o _ _ d3 q _=>k2 c o (nn c d3).1 (nn c d3).2.1 (nn c d3).2.2.1 (nn c d3).2.2.2 q)
   (λ c o _ _ d3 q _=>⟨o.slots,k2 c o (nn c d3).1 (nn c d3).2.1 (nn c d3).2.2.1 (nn c d3).2.2.2 q⟩) (λ _ _ _ _ n=>n) (λ c o d3 q=>⟨o,k2 c o (nn c d3).1 (nn c d3).2.1 (nn c d3).2.2.1 (nn c d3).2.2.2 q⟩)
   (λ _ _ q=>q) (λ _ _ _ q=>q) (λ c ps q=>⟨#[],by rw[q];simp⟩) (λ m hm=>?_) (λ c u q=>?_) I.bare
  ·have:yO X pins H c:=by
    have d3:c=z∨c=TO∨c=i1∨c=i2:=by simpa using d3
    rcases d3 with e|e|e|e <;> subst e <;> assumption
   exact⟨this.2.2.2.1,this.2.1,this.2.2.2.2.1,this.2.2.2.2.2⟩
  ·obtain⟨o,t4,ep,ho,r⟩:=hm;exact⟨o,t4,ep,k2 _ o (Q2 fz.2.1) (Q2 fO.2.1) (Q2 f1.2.1) (Q2 f2.2.1) ho,r⟩
  ·have no:∀ b',H b'=none->∀ c',(c'=c∨H c'=some (.own c))->c'≠b':=λ b' O8 c' A0 e=>by
    subst e;rcases A0 with e|e
    ·subst e;rw[O8] at q;cases q
    ·rw[O8] at e;cases e
   exact(I.hok c u q).stay (λ c' v d3 r=>k2 c' v (no z fz.1 c' d3) (no TO fO.1 c' d3) (no i1 f1.1 c' d3) (no i2 f2.1 c' d3) r) (λ _ r=>r) λ _ _ r=>r
 self:=λ A i s Q E st h=>Ub st.1 h
def qiV(K:W.Frag)(ta:TA):TI2:=λ σ H R=>ta σ H λ vs H1=>∃ a b,vs=[.ref a,.ref b]/\(∃ xs,SqL K H1 a xs)/\(∃ ys,SqL K H1 b ys)/\R (ItZ K a b) H1
theorem qcP{X:Cx}{es:List Expr}{k:Nat}{i9:Pos}{l1 l2:Expr}{ta:TA}{p pos:Pos}(hg:Gl X "zip")(hm:X.mg "zip"=none)(ha:PA X [l1,l2] ta)(hs:starEach [l1,l2] X.env=[(false,eval l1 X.env),(false,eval l2 X.env)]:=by rfl)(i3:starEach [l2] X.env=[(false,eval l2 X.env)]:=by rfl):
  PI2 X (.Tuple es k i9) (.Call (.Name "zip" p) [l1,l2] [] pos) (qiV X.K ta):=by
 intro pins s σ H R I h;refine Call_ (y9 I hg hm boot_zip (Xd (thn (ha pos pins s σ H _ I h) λ us s1 ⟨vs,H1,I1,r1,q1⟩=>?_) (by rw[hs,i3]) (by rw[i3];rfl)));obtain⟨a,b,e,⟨xs,aE⟩,⟨ys,E9⟩,q⟩:=q1;subst e;obtain⟨u1,u2,rfl,aZ,S8⟩:=qaQ r1;cases aZ
 cases S8
 obtain⟨eJ,lB,p1,eQ⟩:=I1.list aE;obtain⟨i4,R5,p2,eO⟩:=I1.list E9;have a1:a<s1.heap.objs.size:=by obtain⟨_,e,_⟩:=p1.isList;exact J5 e
 have a2:b<s1.heap.objs.size:=by obtain⟨_,e,_⟩:=p2.isList;exact J5 e
 refine call_zip_2 p1.isList p2.isList λ h' hz p9 i6 hi1 hi2 hsz hk=>Ub hz ?_
 refine⟨s1.heap.objs.size+4,[s1.heap.objs.size+4,s1.heap.objs.size+2,s1.heap.objs.size+3,s1.heap.objs.size,s1.heap.objs.size+1],_,_,H1,rfl,I1.kept (t':=s1.toks) hk,qeT (zipApart_new a1 a2),⟨hz,p9,⟨_,_,i6⟩,hi1,hi2⟩,λ c hc=>?_,q⟩;have hc:c=s1.heap.objs.size+4∨c=s1.heap.objs.size+2∨c=s1.heap.objs.size+3∨c=s1.heap.objs.size∨c=s1.heap.objs.size+1:=by simpa using hc
 have u5:s1.heap.objs.size<=c:=by rcases hc with e|e|e|e|e <;> rw[e] <;> omega
 exact I1.fpOk u5 (I1.hok.fresh u5)
abbrev cs(z:Str):List Nat:=z.cps.toList
def qi(l:List Nat):Str:=⟨l.toArray⟩
theorem qeU(z:Str):qi (cs z)=z:=rfl
theorem qbt{a b:Str}(h:cs a=cs b):a=b:=by rw[<- qeU a,<- qeU b,h]
abbrev vS(l:List Nat):V:=.str (qi l)
theorem jh:∀{ss:List Str}{us:List Value},qI (ss.map V.str) us->StrsAre us ss
 | [],_,r=>by cases r;exact .nil
 |x::ss,_,r=>by
  rw[Jv] at r;cases r with
  |cons h t =>
   obtain⟨t',rfl⟩:=h;exact .cons _ _ (jh t)
theorem ji:∀{ss:List Str}{us:List Value},StrsAre us ss->qI (ss.map V.str) us
 |_,_,.nil=>.nil
 |_,_,.cons x t h=>.cons ⟨t,rfl⟩ (ji h)
section
variable {X:Cx}
def qif(K:W.Frag):V->List V->Hp->VK->Prop:=λ x vs H Q=>∃ z p ss,x=.str z/\vs=[.ref p]/\(SqL K H p (ss.map V.str)∨SqT K H p (ss.map V.str))/\(ss.map (·.length)).sum+ss.length*z.length<=16777216/\Q (.str (Txt.join z ss)) H
theorem yT:MtR X "str.join" (qif X.K):=by
 intro pins s σ H x vs v us Q I rx rv h;obtain⟨z,p,ss,rfl,rfl,hq,hz,q⟩:=h;obtain⟨t,rfl⟩:=rx;obtain⟨u,rfl,ru⟩:=yn rv;cases ru
 rcases hq with hq|hq
 ·obtain⟨its,r,pl,_⟩:=I.list hq;exact join_list pl.isList (jh (by simpa using r)) hz λ t' k=>⟨.str (Txt.join z ss),H,I.tok _,⟨_,rfl⟩,q⟩
 ·obtain⟨its,r,pl,_⟩:=I.tuple hq;exact join_tuple pl (jh (by simpa using r)) hz λ t' k=>⟨.str (Txt.join z ss),H,I.tok _,⟨_,rfl⟩,q⟩
def vk(ss:List Str):List Str:=(Fs.srt (ss.map cs)).map qi
theorem qd1(a b:List Nat):ltCps a b=decide (a<b):=ltCps_eq a b
theorem qbu{ss p8:List Str}(hp:p8.Perm ss)(hs:sortedS p8=true):p8=vk ss:=by
 have key:∀(p:Str)(l:List Str),risingS p l=true->(∀ x∈l,¬ cs x<cs p)/\(l.map cs).Pairwise (λ x y=>¬ y<x):=by
  intro p l;induction l generalizing p with
  |nil=>intro _;exact⟨by simp,by simp⟩
  |cons a l ih =>
   intro h;simp only[risingS,Z3,Bool.not_eq_true'] at h;obtain⟨h1,h2⟩:=h;have ha:¬ cs a<cs p:=by
    have:=h1
    rw[qd1] at this;exact of_decide_eq_false this
   obtain⟨i1,i2⟩:=ih a h2;refine⟨λ x hx=>?_,?_⟩
   ·rcases Js.mp hx with e | e
    ·rw[e];exact ha
    ·intro d4
     have:=i1 x e
     by_cases lW:cs p<cs a
     ·exact this (List.lt_trans d4 lW)
     ·have e':=Fs.plt_total lW ha;rw[e'] at d4;exact this d4
   ·rw[Jv];exact Y5.mpr ⟨λ y hy=>by
     obtain⟨x,hx,rfl⟩:=Qd.mp hy;exact i1 x hx,i2⟩
 have hpw:(p8.map cs).Pairwise (λ x y=>¬ y<x):=by
  cases p8 with
  |nil=>simp
  |cons a l =>
   have h:risingS a l=true:=hs;obtain⟨i1,i2⟩:=key a l h;rw[Jv];exact Y5.mpr ⟨λ y hy=>by
    obtain⟨x,hx,rfl⟩:=Qd.mp hy;exact i1 x hx,i2⟩
 have e:=Fs.srt_of (hp.map cs) hpw;unfold vk;rw[<- e,Qe]
 have:qi ∘ cs=id:=funext λ z=>qeU z
 rw[this,List.map_id]
structure Kind{α:Type}(f:α->V):Prop where
 flat:∀ a,qeM (f a)=true
 eq:∀ a b,eqV (f a) (f b)=true ↔ a=b
theorem vm:Kind V.str:=⟨λ _=>rfl,λ a b=>by show(a == b)=true ↔ a=b;exact beq_iff_eq⟩
def kW{α:Type}(f:α->V)(as bs:List α)(j:Nat):Bool:=match as[j]?,bs[j]? with
 |some a,some b=>eqV (f a) (f b)
 |_,_=>true
theorem qa4{α:Type}[DecidableEq α]{f:α->V}(k:Kind f):∀(as bs:List α),((List.range (min as.length bs.length)).all (kW f as bs) && as.length == bs.length)=decide (as=bs):=by
 intro as bs;rw[Uh,Z3,decide_eq_true_iff,Z1];constructor
 ·rintro⟨h1,h2⟩;have hl:as.length=bs.length:=by simpa using h2
  refine Zm λ j=>?_
  by_cases hj:j<as.length
  ·have:=h1 j (by rw[U6];omega)
   have ea:as[j]?=some as[j]:=Xv hj;have eb:bs[j]?=some (bs[j]'(by omega)):=Xv (by omega);unfold kW at this;rw[ea,eb] at this;rw[ea,eb,(k.eq _ _).mp this]
  ·rw[XQ (by omega),XQ (by omega)]
 ·rintro rfl;refine⟨λ j hj=>?_,by simp⟩;unfold kW;cases e:as[j]? with
  |none=>rfl
  |some a=>exact(k.eq a a).mpr rfl
theorem qcc{α:Type}{f:α->V}(k:Kind f){A:Around}{s:Shared}{as bs:List α}{us vs:List Value}(ra:qI (as.map f) us)(rb:qI (bs.map f) vs)(j:Nat)(h1:j<us.toArray.size)(h2:j<vs.toArray.size):
  SeqAt.EqAt A s us.toArray[j] vs.toArray[j] (kW f as bs j):=by
 have l1:=ra.length;have l2:=rb.length;rw[Ul] at l1 l2;rw[Zg] at h1 h2;have ea:as[j]?=some (as[j]'(by omega)):=Xv (by omega);have eb:bs[j]?=some (bs[j]'(by omega)):=Xv (by omega);obtain⟨u,hu,ru⟩:=ra.get (i:=j) (x:=f (as[j]'(by omega))) (by rw[Ze,ea];rfl);obtain⟨v,hv,rv⟩:=rb.get (i:=j) (x:=f (bs[j]'(by omega))) (by rw[Ze,eb];rfl);have eV:us.toArray[j]=u:=by
  have:us[j]?=some us[j]:=Xv h1
  rw[hu] at this;simpa using(Option.some.inj this).symm
 have O2:vs.toArray[j]=v:=by
  have:vs[j]?=some vs[j]:=Xv h2
  rw[hv] at this;simpa using(Option.some.inj this).symm
 rw[eV,O2];unfold kW;rw[ea,eb];exact qhi ru rv (k.flat _) (k.flat _)
theorem qcd{H:Hp}{p:Addr}(h:H p=none)(o:HO):ql H (upd H p o):=λ b u q=>by rw[qg (qr q h)];exact q
theorem qce(hc:X.calm=true):yB X (.builtin "all") (λ xs H Q=>∃(p:Addr)(bs:List Bool),xs=[.ref p]/\SqL X.K H p (bs.map V.bl)/\Q (.bl (bs.all id)) H):=by
 intro pins s σ H xs us Q I r h;obtain⟨p,bs,rfl,hq,q⟩:=h;obtain⟨u,rfl,ru⟩:=yn r;cases ru
 obtain⟨its,rv,pl,hz⟩:=I.list hq;have hl:=rv.length;rw[Ul] at hl;have hh:X.A.in1.handled=none:=by simp[I.ok.hd hc]
 have bA:p<s.heap.objs.size:=by obtain⟨_,e,_⟩:=pl.isList;exact J5 e
 refine call_all_walk (Zt pl.isList ⟨s.heap.objs.size,_,_,_,_,_,λ i=>bs.getD i true,rfl,Walks.list hh s.heap.objs.size p (J6 bA) its.toArray,
  ⟨⟨_,Yn _ rfl,rfl,rfl⟩,pl.isList.push _⟩,λ i v s Q E hv hQ=>?_,λ h' tk hk=>?_⟩)
 ·have e:its[i]?=some v:=by simpa using hv
  have hi:i<bs.length:=by rw[hl];exact(Xl.mp e).1
  obtain⟨u,hu,ru⟩:=rv.get (i:=i) (x:=.bl bs[i]) (by rw[Ze,Xv hi];rfl);rw[e] at hu;cases hu
  cases ru
  refine Zs ?_
  have:bs.getD i true=bs[i]:=by rw[Xi,Xv hi];rfl
  have hQ':Q (bs.getD i true) s:=hQ;rw[this] at hQ';exact hQ'
 ·have hf:=I.hok.fresh (Ql s.heap.objs.size);refine⟨.bl (bs.all id),H,?_,?_,q⟩
  ·have I1:Inv X pins σ H { s with heap:=s.heap.push { cls:=.type "list_iterator",data:=.fields #[.ref p,.int 0 0] } }:=I.kept (t':=s.toks) λ _ _ e=>X9 _ e
   refine I.kept (t':=tk) λ b o e=>hk b o (λ z=>?_) (X9 _ e)
   have:b=s.heap.objs.size:=by simpa using z
   exact absurd (J5 e) (by rw[this];exact Jr _)
  ·show Value.bool _=Value.bool _
   congr 1
   rw[Zg,<- hl,Uh,Z1,Z1];constructor
   ·intro h b hb;obtain⟨i,hi,e⟩:=Yr hb
    have:=h i (U6.mpr hi)
    rw[Xi,Xv hi,e] at this;exact this
   ·intro h i hi;have hi:=U6.mp hi;rw[Xi,Xv hi];exact h _ (Z6 hi)
end
theorem j6{α:Type}:∀(l:List α)(i:Nat)(h:i<l.length),(l[i]::l.eraseIdx i).Perm l
 |x::l,0,_=>U9 _
 |x::l,i+1,h=>by
  have:=j6 l i (by simpa using h)
  rw[List.getElem_cons_succ,List.eraseIdx_cons_succ];exact(List.Perm.swap _ _ _).trans (this.cons x)
section
variable {prog:Program}{w:World}{A:Around}{E:Value->Shared->Prop}{s:Shared}
theorem qbv{M:Model}{iW:Source}{n:Nat}{Q:Nat->Shared->Prop}(hn:n≠0)(h:∀ i d,i<n->Q i { s with drawn:=d }):wpAny M A (choose iW n) Q E s:=λ Γ p hΓ=>by
 show Sem.wp M Γ (Sem.choose iW n Sem.pure) _ _ p s
 rw[Sem.wp];refine⟨hn,?_⟩;rw[Sem.wp];exact h _ _ (Nat.mod_lt _ (Nat.pos_of_ne_zero hn))
theorem jp{M:Model}{α:Type}:∀(n:Nat)(xs:List α)(s:Shared)(Q:List α->Shared->Prop),xs.length=n->(∀ ys d,ys.Perm xs->Q ys { s with drawn:=d })->wpAny M A (drawOrder n xs) Q E s
 |0,xs,s,Q,hl,h=>by
  have:xs=[]:=List.eq_nil_of_length_eq_zero hl
  subst this;unfold drawOrder;have e:=h [] s.drawn (U9 _);cases s
  exact Qr e
 |n+1,[],s,Q,hl,h=>by simp at hl
 |n+1,x::xs,s,Q,hl,h=>by
  unfold drawOrder;refine Qs (qbv (by simp) λ i d hi=>?_);have e:(x::xs)[i]?=some (x::xs)[i]:=Xv hi;rw[e];dsimp only;refine Qs (jp n ((x::xs).eraseIdx i) _ _ ?_ λ ys d' hp=>Qr ?_)
  ·rw[List.length_eraseIdx_of_lt hi];omega
  ·refine h _ d' ((hp.cons _).trans ?_);exact j6 (x::xs) i hi
def byT(w:World):Prop:=w.params.followText "set-order"=true
def qbw(P:Program)(w:World)(x:Str)(e:Int×Value):Prop:=e.1=(qk P w).hash (.inr x)/\∃ t,e.2=.str x t
def zv(P:Program)(w:World)(h:Heap)(a:Addr)(ys:List Str):Prop:=
 ∃ o es ep t,h.get? a=some o/\o.ExactSet/\o.data=.set es ep t/\Paired (qbw P w) ys es.toList/\ys.Nodup/\ys.length<scanBound/\t.fits es.size=true/\(t.led=true∨byT w)/\(ys=[]∨t.plain=false)
theorem qcQ{P:Program}{w:World}{ys:List Str}{l:List (Int×Value)}(h:Paired (qbw P w) ys l):ElemsOf (qk P w) l:=by
 induction h with
 |nil=>intro e he;cases he
 |cons h _ ih =>
  intro e he;rcases Js.mp he with z|z
  ·subst z;obtain⟨h1,t,h2⟩:=h;exact⟨⟨.inr _,by rw[h2];exact qV _ _ _ _,h1⟩,by rw[h2];rfl⟩
  ·exact ih e z
theorem qcf{P:Program}{w:World}{ys:List Str}{l:List (Int×Value)}(h:Paired (qbw P w) ys l)(k:Key):(∃ e∈l,(qk P w).is k e.2=true) ↔ ∃ y∈ys,k=.inr y:=by
 induction h with
 |nil=>simp
 | @cons y e ys l h _ ih =>
  obtain⟨h1,t,h2⟩:=h;have hk:(qk P w).is k e.2=true ↔ k=.inr y:=by
   rw[h2];constructor
   ·intro q;exact(qk P w).inj _ _ _ q (qV P w y t)
   ·rintro rfl;exact qV P w y t
  simp only[Js,exists_eq_or_imp,ih,hk]
theorem jy{α β:Type}{F:α->β->Prop}{xs:List α}{l l':List β}(h:Paired F xs l)(p:l'.Perm l):∃ dB,dB.Perm xs/\Paired F dB l':=by
 induction p generalizing xs with
 |nil=>cases h;exact⟨[],U9 _,.nil⟩
 |cons b p ih =>
  cases h with
  |cons h t =>
   obtain⟨dB,h1,h2⟩:=ih t;exact⟨_::dB,h1.cons _,.cons h h2⟩
 |swap a b l =>
  cases h with
  |cons h t =>
   cases t with
   |cons h' t=>exact⟨_,List.Perm.swap _ _ _,.cons h' (.cons h t)⟩
 |trans _ _ i1 i2 =>
  obtain⟨dB,h1,h2⟩:=i2 h;obtain⟨nI,h3,h4⟩:=i1 h2;exact⟨nI,h3.trans h1,h4⟩
theorem qE{α β:Type}{F:α->β->Prop}:∀{xs ys:List α}{us vs:List β},Paired F xs us->Paired F ys vs->Paired F (xs++ys) (us++vs)
 |_,_,_,_,.nil,s=>s
 |_,_,_,_,.cons r t,s=>.cons r (qE t s)
theorem qd2(t:SetTable)(es:Array (Int×Value))(h:Int)(x:Value):(layNew t es h x).2.1.led=t.led/\(t.plain=false->(layNew t es h x).2.1.plain=false):=by
 unfold layNew;split
 ·rename_i slot wd e;dsimp only;unfold SetTable.orStandIn;split
  ·exact⟨rfl,λ h=>h⟩
  ·exact⟨rfl,λ _=>rfl⟩
 ·exact⟨rfl,λ _=>rfl⟩
theorem qcR{w9 cD dW:Nat}{led plain:Bool}{hs:Array Int}{r:SetTable×Array Nat}(h:SetTable.laid w9 cD dW led plain hs=some r):r.1.led=led/\r.1.plain=plain:=by
 unfold SetTable.laid at h;cases e:SetTable.layClean w9 hs with
 |none=>rw[e] at h;cases h
 |some o=>rw[e] at h;cases h;exact⟨rfl,rfl⟩
theorem qcg(t:SetTable)(es:Array (Int×Value))(n:Nat):(relayAll t es n).2.1.led=t.led/\(t.plain=false->(relayAll t es n).2.1.plain=false):=by
 unfold relayAll;split
 ·rename_i t' order e;have f:=qcR (show SetTable.laid _ _ _ _ _ _=some (t',order) from e);dsimp only;split
  ·exact⟨f.1,λ h=>f.2.trans h⟩
  ·exact⟨rfl,λ _=>rfl⟩
 ·exact⟨rfl,λ _=>rfl⟩
theorem qa5{P:Program}{w:World}{h:Heap}{a:Addr}{o:Obj}{es:Array (Int×Value)}{ep:Nat}{t:SetTable}(ho:h.get? a=some o)(hex:o.ExactSet)(hd:o.data=.set es ep t){t4:Array (Int×Value)}{t':SetTable}{ys:List Str}(hp:Paired (qbw P w) ys t4.toList)(nd:ys.Nodup)(hb:ys.length<scanBound)(hf:t'.fits t4.size=true)(hl:t'.led=true∨byT w)(u0:ys=[]∨t'.plain=false):
  (h.update a (Obj.putSet t4 t')).get? a=some { o with data:=.set t4 (ep+1) t' }/\zv P w (h.update a (Obj.putSet t4 t')) a ys:=by
 have hg:(h.update a (Obj.putSet t4 t')).get? a=some { o with data:=.set t4 (ep+1) t' }:=by
  have:=XR (Obj.putSet t4 t') ho (by rw[putSet_of t4 t' hd];rfl)
  rw[putSet_of t4 t' hd] at this;exact this
 exact⟨hg,_,t4,ep+1,t',hg,hex,rfl,hp,nd,hb,hf,hl,u0⟩
theorem qch{g:Bool->Sem Unit}(hg:∀(b:Bool)(s₁:Shared)(Q':Unit->Shared->Prop),Q' () s₁->wpAny (model prog w) A (g b) Q' E s₁){a:Addr}{o:Obj}{es:Array (Int×Value)}{ep:Nat}{t:SetTable}(ho:s.heap.get? a=some o)(hex:o.ExactSet)(hd:o.data=.set es ep t){B1:Array (Int×Value)}{t2:SetTable}{ys:List Str}(G9:Paired (qbw prog w) ys B1.toList)(nd:ys.Nodup)(M1:ys.length<scanBound)(wC:t2.fits B1.size=true)(hl:t2.led=true∨byT w)(u0:t2.plain=false){D5:Bool}{R:Option Bool->Shared->Prop}(h:∀ h' i7,Heap.SameBut a s.heap h'->i7.Perm ys->zv prog w h' a i7->R (some true) { s with heap:=h' }):
  wpAny (model prog w) A (do
    storeSet a B1 t2
    if (!D5 && t2.tooFull)=true then do
        g (relayAll t2 B1 (SetTable.grown B1.size)).2.2
        storeSet a (relayAll t2 B1 (SetTable.grown B1.size)).1 (relayAll t2 B1 (SetTable.grown B1.size)).2.1
        pure (some true)
     else pure (some true)) R E s:=by
 have d5:B1.size<scanBound:=by rw[<- Ym,<- G9.length];exact M1
 refine Qs (wpAny_storeSet_of ho hd ?_ (fits_of_scanBound d5));obtain⟨R6,aO⟩:=qa5 (P:=prog) (w:=w) ho hex hd G9 nd M1 wC hl (.inr u0);have eY:=Ys s.heap a (Obj.putSet B1 t2);split
 ·have hp:=relayAll_perm t2 B1 (SetTable.grown B1.size);have D4:=relayAll_fits t2 B1 (SetTable.grown B1.size);have R8:=qcg t2 B1 (SetTable.grown B1.size);generalize hRl:relayAll t2 B1 (SetTable.grown B1.size)=Rl at hp D4 R8 ⊢;obtain⟨es2,t3,aA2⟩:=Rl;dsimp only at hp D4 R8 ⊢;obtain⟨i7,hy,aG⟩:=jy G9 hp;have fP:es2.size<scanBound:=by rw[<- Ym,hp.length_eq,Ym];exact d5
  refine Qs (hg _ _ _ ?_);refine Qs (wpAny_storeSet_of R6 rfl ?_ (fits_of_scanBound fP));obtain⟨_,gD⟩:=qa5 (P:=prog) (w:=w) R6 hex rfl aG (hy.nodup_iff.mpr nd) (by rw[hy.length_eq];exact M1) D4 (by rw[R8.1];exact hl) (.inr (R8.2 u0));exact Qr (h _ i7 (eY.trans (Ys _ a _)) hy gD)
 ·exact Qr (h _ ys eY (U9 _) aO)
theorem qeV{a:Addr}{ys:List Str}{x:Str}{t0:Tok}{Q:Bool->Shared->Prop}(hS:zv prog w s.heap a ys)(eZ:ys.length+1<scanBound)(h0:x∈ys->Q false s)(h1:x∉ys->∀ h' i7,Heap.SameBut a s.heap h'->i7.Perm (ys++[x])->zv prog w h' a i7->Q true { s with heap:=h' }):
  wpAny (model prog w) A (setAddHashed a (.str x t0) ((qk prog w).hash (.inr x))) Q E s:=by
 obtain⟨o,es,ep,t,ho,hex,hd,hp,nd,hb,hf,hl,u0⟩:=hS;have cT:=qcQ hp;have A3:(qk prog w).is (.inr x) (.str x t0)=true:=qV _ _ _ _;have hsc:(Value.str x t0).scannable=true:=rfl;have d5:es.size<scanBound:=by rw[<- Ym,<- hp.length];exact hb
 unfold setAddHashed setAddHashedIn;refine Jy (Qs (Zv ho hd hf ?_));dsimp only;rw[byScan_of hsc d5 cT];simp only[↓reduceIte];unfold setAddByScan;refine Qs ?_;refine Qs (Qv ?_);refine Qs (wpAny_setScan_of A3 ho hd hf cT ?_);cases hr:List.findIdx? (λ e=>(qk prog w).is (.inr x) e.2) es.toList with
 |some j =>
  dsimp only;obtain⟨hj,uB,_⟩:=List.findIdx?_eq_some_iff_getElem.mp hr;obtain⟨y,hy,e⟩:=(qcf hp (.inr x)).mp ⟨es.toList[j],Z6 hj,uB⟩;cases e
  exact Qr (Qr (h0 hy))
 |none =>
  dsimp only;have hx:x∉ys:=λ hx=>by
   obtain⟨e,he,q⟩:=(qcf hp (.inr x)).mpr ⟨x,hx,rfl⟩
   have:=List.findIdx?_eq_none_iff.mp hr e he
   rw[q] at this;exact Bool.noConfusion this
  have hgw:∀(b:Bool){s₁:Shared}{Q':Unit->Shared->Prop},Q' () s₁->wpAny (model prog w) A (match b with | true=>rule "set.scan.the-table-gave-way" | false=>pure ()) Q' E s₁:=
   λ b s₁ Q' hq=>by cases b <;> first|exact Qr hq|exact Qv hq
  have L1:=layNew_perm t es ((qk prog w).hash (.inr x)) (.str x t0);have L3:=layNew_fits t es ((qk prog w).hash (.inr x)) (.str x t0);have R8:=qd2 t es ((qk prog w).hash (.inr x)) (.str x t0);generalize hL:layNew t es ((qk prog w).hash (.inr x)) (.str x t0)=L at L1 L3 R8 ⊢;obtain⟨B1,t1,D5,gave⟩:=L;dsimp only at L1 L3 R8 ⊢;rw[Zn] at L1;obtain⟨nH,eR,G9⟩:=jy (qE hp (.cons (F:=qbw prog w) (a:=x) (b:=((qk prog w).hash (.inr x),.str x t0)) ⟨rfl,t0,rfl⟩ .nil)) L1;have nd1:nH.Nodup:=by
   rw[eR.nodup_iff];exact Zj.mpr ⟨nd,by simp,λ a ha b hb e=>by simp at hb;subst hb;subst e;exact hx ha⟩
  have M1:nH.length<scanBound:=by rw[eR.length_eq,Y4];exact eZ
  refine Qs (hgw _ ?_);have fS:∀ h' i7,Heap.SameBut a s.heap h'->i7.Perm nH->zv prog w h' a i7->Q true { s with heap:=h' }:=λ h' i7 L0 hq S3=>h1 hx h' i7 L0 (hq.trans eR) S3
  split
  ·refine Qs ?_;rw[hashByValue_scannable 8 hsc];refine Qr ?_;refine qch (t2:=_) ?_ ho hex hd G9 nd1 M1 (SetTable.fits_plain_off L3) (by show t1.led=true∨_;rw[R8.1];exact hl) rfl ?_
   ·intro b s₁ Q' hq;cases b <;> first|exact Qr hq|exact Qv hq
   ·intro h' i7 L0 hq S3;dsimp only;exact Qr (fS h' i7 L0 hq S3)
  ·rename_i hnp;refine Qs (Qr ?_);simp only[↓reduceIte];refine qch ?_ ho hex hd G9 nd1 M1 L3 (by rw[R8.1];exact hl) (by simpa using hnp) ?_
   ·intro b s₁ Q' hq;cases b <;> first|exact Qr hq|exact Qv hq
   ·intro h' i7 L0 hq S3;dsimp only;exact Qr (fS h' i7 L0 hq S3)
abbrev qM(w:World):Obj:={ cls:=.type "set",dict:=none,data:=.set #[] 0 (.fresh 0 0 (!(w.params.followText "set-order"))) }
theorem jz{h:Heap}{a:Addr}(e:h.get? a=some (qM w)):zv prog w h a []:=
 ⟨_,#[],0,_,e,⟨rfl,rfl,rfl⟩,rfl,.nil,List.nodup_nil,by decide,rfl,by
  unfold byT;cases w.params.followText "set-order"
  ·exact .inl rfl
  ·exact .inr rfl,.inl rfl⟩
theorem qd3(a:Value){Q₁:Value->Shared->Prop}(h:Q₁ (.ref s.heap.objs.size) { s with heap:=s.heap.push (qM w) }):
  codeAny (model prog w) A (.call (.builtin "set.__new__") ⟨[.type "set",a],[]⟩) (wants Q₁ E) s:=by
 refine codeAny_of_tree ?_;show wpAny _ A.in1 (do checkBuiltinCall "set.__new__" ⟨[.type "set",a],[]⟩;again (.builtin "set.__new__" ⟨[.type "set",a],[]⟩)) _ _ s
 refine Qs (Qo (F.newCall_set_1 a) (Qr ⟨Jz F.plain_set_new _,U3 F.entry_set_new ?_⟩));rw[Ye F.plain_set_new _];unfold Builtin.«set.__new__» Builtin.Frozenset.newClass;have D9:=sub_set_self;obtain⟨hp,g,d,tk,os⟩:=s;dsimp only
 wp_walk
 refine Uc (Qr ?_);dsimp only;simp only[newObj];refine Qs (wpAny_alloc (Qr ?_));exact Qr h
set_option maxHeartbeats 3200000 in
theorem jA(a:Value){Q:Value->Shared->Prop}(h:wpAny (model prog w) A.in1.in1 (Builtin.Frozenset.updateFrom "set.__init__" s.heap.objs.size a) (λ _ s2=>s2.TypeIs (.ref s.heap.objs.size) "set"/\Q (.ref s.heap.objs.size) s2) E { s with heap:=s.heap.push (qM w) }):
  wpAny (model prog w) A (call (.type "set") [a]) Q E s:=by
 obtain⟨c,tl,hmro⟩:=F.called_set.mro;have aA1:=F.called_set.made;have D9:=F.called_set.sub;refine wpAny_call (codeAny_of_tree ?_);show wpAny _ _ (callAny (.type "set") _) _ _ _
 refine Qr ⟨Code.quiet_builtin _ (by decide +kernel),U3 F.entry_type_call ?_⟩;rw[Around.under_plain (weight_type_call_type "set" [a] []) rfl];have h1:=F.called_set.notType;have h2:=F.called_set.canCreate;have mC:=F.typeCall_set_1 a
 repeat (any_goals (first|assumption|wp_step))
 refine Qi (qd3 a (E:=E) (Q₁:=λ obj s₁=>obj=.ref s.heap.objs.size/\s₁={ s with heap:=s.heap.push (qM w) }) ⟨rfl,rfl⟩) λ r s₁ hr=>?_
 cases r with
 |error e=>exact hr
 |ok fl =>
  cases fl with
  |ret obj =>
   obtain⟨rfl,rfl⟩:=hr;have hS:(s.heap.push (qM w)).get? s.heap.objs.size=some (qM w):=Yn _ rfl;have hT:Shared.TypeIs { s with heap:=s.heap.push (qM w) } (.ref s.heap.objs.size) "set":=⟨_,hS,rfl⟩;have hli:=F.called_set.init.lookup;have hbi:=F.called_set.init.bind (.ref s.heap.objs.size)
   repeat (any_goals (first|assumption|wp_step))
   refine Qi (codeAny_call_builtin (R:=wants (λ r s₂=>r=.none/\s₂.TypeIs (.ref s.heap.objs.size) "set"/\Q (.ref s.heap.objs.size) s₂) E) F.called_set.init.plain F.entry_set_init (check_set_init_1 hT ?_)) λ r₂ s₂ hr₂=>?_
   ·unfold Builtin.«set.__init__» noKeywords;generalize hUF:Builtin.Frozenset.updateFrom=UF at h ⊢
    wp_walk
    refine Qq h (λ _ s2 h2=>?_) (λ _ _ x=>x);show wpAny _ _ (ret Value.none) _ _ _
    exact Qr ⟨rfl,h2⟩
   ·cases r₂ with
    |error e=>exact hr₂
    |ok fl₂ =>
     cases fl₂ with
     |ret r =>
      obtain⟨rfl,hT2,hq⟩:=hr₂
      repeat (any_goals (first|assumption|wp_step))
     |_=>exact hr₂.elim
  |_=>exact hr.elim
theorem qeW{x:Value}{T:String}{Q:Bool->Shared->Prop}(hT:s.TypeIs x T)(h1:isSubtype (.type T) (.type "set")=pure false)(h2:isSubtype (.type T) (.type "frozenset")=pure false)(h:Q false s):
  wpAny (model prog w) A (Builtin.Frozenset.isAnySet x) Q E s:=by
 unfold Builtin.Frozenset.isAnySet;refine Qs (Ud hT h1 ?_);show wpAny _ _ (isInstance x (.type "frozenset")) _ _ s
 exact Ud hT h2 h
theorem ym{id:String}{S:Addr}{x:Value}{T:String}{Q:Unit->Shared->Prop}(hT:s.TypeIs x T)(h1:isSubtype (.type T) (.type "set")=pure false)(h2:isSubtype (.type T) (.type "frozenset")=pure false)(h3:(Value.type T == Value.type "dict")=false)(h:wpAny (model prog w) A (pyIter x) (λ it s2=>codeAny (model prog w) A (.builtin "set.update.loop" ⟨[.ref S,it],[]⟩) (λ r s3=>r=.ok (.ret .none)/\Q () s3) s2) E s):
  wpAny (model prog w) A (Builtin.Frozenset.updateFrom id S x) Q E s:=by
 unfold Builtin.Frozenset.updateFrom;refine Qs (qeW hT h1 h2 ?_);simp only[Y7,Qy];refine Qs (Qj hT ?_);simp only[h3,Y7,Qy];refine Qs (Qq h (λ it s2 h2=>?_) λ _ _ e=>e);refine Qs (wpAny_runValue (Qi h2 λ r s3 hr=>?_));obtain⟨rfl,hq⟩:=hr;exact Qr hq
theorem jB{I:Addr}{fp wr:List Addr}{n:Nat}{P:Nat->Value->Prop}{St:Nat->Heap->Prop}{R:Result->Shared->Prop}(W:Walks prog w A.in1 I fp wr n P St)(S:Addr)(hSf:S∉fp)(val:Nat->Str)(tT:∀ i v,P i v->∃ t,v=.str (val i) t)(hb:n+1<scanBound):
  ∀(k i:Nat)(s:Shared)(ys:List Str),n-i=k->i<=n->St i s.heap->zv prog w s.heap S ys->ys.length<=i->(∀ x,x∈ys ↔ ∃ j,j<i/\val j=x) ->
   (∀ h' tk i7,(∀ b o,b∉S::wr->s.heap.get? b=some o->h'.get? b=some o)->zv prog w h' S i7->(∀ x,x∈i7 ↔ ∃ j,j<n/\val j=x)->R (.ok (.ret .none)) { s with heap:=h',toks:=tk }) ->
   codeAny (model prog w) A (.builtin "set.update.loop" ⟨[.ref S,.ref I],[]⟩) R s:=by
 have hSw:S∉wr:=λ h=>hSf (W.sub _ h)
 have stay:∀{h h':Heap}{ys:List Str},zv prog w h S ys->(∀ o,h.get? S=some o->h'.get? S=some o)->zv prog w h' S ys:=λ hS k=>by
  obtain⟨o,es,ep,t,ho,rest⟩:=hS;exact⟨o,es,ep,t,k o ho,rest⟩
 intro k;induction k with
 |zero =>
  intro i s ys hk hi t9 hS hl hm hR;have L9:i=n:=by omega
  subst L9;refine U3 F.entry_set_update_loop ?_;rw[Ye X2 _];show wpAny _ A.in1 (pyNext (.ref I) >>= _) _ _ s
  refine Qs (W.done s _ _ t9 λ h' tk A2=>?_);show wpAny _ A.in1 (ret Value.none) _ _ _
  exact Qr (hR h' tk ys (λ b o hb e=>A2 b o (λ z=>hb (Ya _ z)) e) (stay hS λ o e=>A2 S o hSw e) hm)
 |succ k ih =>
  intro i s ys hk hi t9 hS hl hm hR;have d4:i<n:=by omega
  refine U3 F.entry_set_update_loop ?_;rw[Ye X2 _];show wpAny _ A.in1 (pyNext (.ref I) >>= _) _ _ s
  refine Qs (W.item i s _ _ d4 t9 λ v h1 tk hP eX A2=>?_);obtain⟨t,rfl⟩:=tT i v hP;have aO:zv prog w h1 S ys:=stay hS λ o e=>A2 S o hSw e
  refine Qs (Jy ?_);unfold setAdd;refine Jy ?_;refine Qs ((qk prog w).pyHash (k:=.inr (val i)) (qV _ _ _ _) ?_);have dX:∀ x,(x∈ys∨x=val i) ↔ ∃ j,j<i+1/\val j=x:=λ x=>by
   rw[hm x];constructor
   ·rintro(⟨j,hj,e⟩ | e)
    ·exact⟨j,by omega,e⟩
    ·exact⟨i,by omega,e.symm⟩
   ·rintro⟨j,hj,e⟩;by_cases hji:j=i
    ·subst hji;exact .inr e.symm
    ·exact .inl ⟨j,by omega,e⟩
  refine qeV (s:={ s with heap:=h1,toks:=tk+1 }) aO (by omega) (λ hx=>?_) (λ hx h2 ys2 L0 hp gD=>?_)
  ·refine Qr ⟨Jz X2 _,ih (i+1) _ ys (by omega) d4 eX aO (by omega) (λ x=>?_) λ h3 nK nG cR wN uN=>?_⟩
   ·rw[<- dX x];exact⟨.inl,λ z=>z.elim id λ e=>e ▸ hx⟩
   ·exact hR h3 nK nG (λ b o hb e=>cR b o hb (A2 b o (λ z=>hb (Ya _ z)) e)) wN uN
  ·refine Qr ⟨Jz X2 _,ih (i+1) _ ys2 (by omega) d4 (W.frame _ _ _ eX λ b hb o e=>?_) gD (by rw[hp.length_eq,Y4];simp;omega) (λ x=>?_) λ h3 nK nG cR wN uN=>?_⟩
   ·exact(L0.2 b (λ z=>hSf (z ▸ hb))).trans e
   ·rw[<- dX x,hp.mem_iff,Ug,Y9]
   ·refine hR h3 nK nG (λ b o hb e=>cR b o hb ((L0.2 b (λ z=>hb (z ▸ Y1))).trans (A2 b o (λ z=>hb (Ya _ z)) e))) wN uN
end
def qd4(P:Program)(w:World)(a:Addr)(xs:List Str):HO:=.ext λ h=>∃ ys,ys.Perm xs/\zv P w h a ys
theorem qgg{P:Program}{w:World}{H:Hp}{h:Heap}{a:Addr}{xs ys:List Str}(hp:ys.Perm xs)(hS:zv P w h a ys):qQ P w H h a (qd4 P w a xs):=by
 refine⟨⟨ys,hp,hS⟩,?_,?_⟩
 ·obtain⟨o,_,_,_,e,_⟩:=hS;exact⟨o,e⟩
 ·rintro h1 h2 ⟨zs,hz,o,es,ep,t,e,rest⟩ k;exact⟨zs,hz,o,es,ep,t,k o e,rest⟩
theorem Inv.set{X:Cx}{pins:List (Addr×Obj)}{σ:St}{H:Hp}{s:Shared}{a:Addr}{xs:List Str}(I:Inv X pins σ H s)(h:H a=some (qd4 X.prog X.w a xs)):∃ ys,ys.Perm xs/\zv X.prog X.w s.heap a ys:=
 (I.hok a _ h).1
theorem zv.typeIs{P:Program}{w:World}{s:Shared}{a:Addr}{ys:List Str}(h:zv P w s.heap a ys):s.TypeIs (.ref a) "set":=by
 obtain⟨o,es,ep,t,e,hx,_⟩:=h;exact⟨o,e,hx.1⟩
namespace F
theorem sub_tuple_set:isSubtype (.type "tuple") (.type "set")=pure false:=by rw[Jk];kernel_rfl
theorem sub_tuple_frozenset:isSubtype (.type "tuple") (.type "frozenset")=pure false:=by rw[Jk];kernel_rfl
theorem sub_str_set:isSubtype (.type "str") (.type "set")=pure false:=by rw[Jk];kernel_rfl
theorem sub_str_frozenset:isSubtype (.type "str") (.type "frozenset")=pure false:=by rw[Jk];kernel_rfl
end F
section
variable {X:Cx}
def qiW(K:W.Frag)(P:Program)(w:World):List V->Hp->VK->Prop:=λ xs H Q=>∃ ss:List Str,(((∃ p,xs=[.ref p]/\(SqL K H p (ss.map V.str)∨SqT K H p (ss.map V.str)))∨∃ z,xs=[.str z]/\ss=(cs z).map λ c=>qi [c]))/\ss.length+1<scanBound /\
 ∀ l ys,H l=none->ys.Nodup->(∀ x,x∈ys ↔ x∈ss)->Q (.ref l) (upd H l (qd4 P w l ys))
theorem kX(hc:X.calm=true):yB X (.type "set") (qiW X.K X.prog X.w):=by
 intro pins s σ H xs us Q I r h;obtain⟨ss,iW,hb,q⟩:=h;have hf:H s.heap.objs.size=none:=I.hok.fresh (Ql _);have hh:X.A.in1.in1.in1.handled=none:=by simp[I.ok.hd hc]
 have o6:(s.heap.push (qM X.w)).get? s.heap.objs.size=some (qM X.w):=Yn _ rfl;have fin:∀(h':Heap)(tk:Nat)(i7:List Str),(∀ b o,b<s.heap.objs.size->s.heap.get? b=some o->h'.get? b=some o)->zv X.prog X.w h' s.heap.objs.size i7->(∀ x,x∈i7 ↔ x∈ss) ->
   Shared.TypeIs { s with heap:=h',toks:=tk } (.ref s.heap.objs.size) "set"/\EP X pins σ Q (.ref s.heap.objs.size) { s with heap:=h',toks:=tk }:=by
  intro h' tk i7 hk hS hm;refine⟨hS.typeIs (s:={ s with heap:=h',toks:=tk }),.ref s.heap.objs.size,_,I.laid (a:=s.heap.objs.size) (o:=qd4 X.prog X.w s.heap.objs.size i7) (t':=tk) (λ b o e=>hk b o (J5 e) e) (Ql _) (qgg (U9 _) hS),rfl,q _ i7 hf ?_ hm⟩;obtain⟨_,_,_,_,_,_,_,_,nd,_⟩:=hS;exact nd
 have G8:∀(i7:List Str),(∀ x,x∈i7 ↔ ∃ j,j<ss.length/\ss.getD j default=x)->∀ x,x∈i7 ↔ x∈ss:=λ i7 hm x=>by
  rw[hm x];constructor
  ·rintro⟨j,hj,e⟩;rw[Xi,Xv hj] at e;rw[<- e];exact Z6 hj
  ·intro hx;obtain⟨j,hj,e⟩:=Yr hx;exact⟨j,hj,by rw[Xi,Xv hj];exact e⟩
 have gJ:∀{its:List Value},qI (ss.map V.str) its->∀(i:Nat)(v:Value),its.toArray[i]?=some v->∃ t,v=.str (ss.getD i default) t:=λ{its} rv i v hv=>by
  have e:its[i]?=some v:=by simpa using hv
  have hl:=rv.length;rw[Ul] at hl;have hi:i<ss.length:=by rw[hl];exact(Xl.mp e).1
  obtain⟨u,hu,ru⟩:=rv.get (i:=i) (x:=.str ss[i]) (by rw[Ze,Xv hi];rfl);rw[e] at hu;cases hu
  obtain⟨t,rfl⟩:=ru;exact⟨t,by rw[Xi,Xv hi];rfl⟩
 rcases iW with⟨p,rfl,hq⟩|⟨z,rfl,ez⟩
 ·obtain⟨u,rfl,ru⟩:=yn r;cases ru
  rcases hq with hq|hq
  ·obtain⟨its,rv,pl,hz⟩:=I.list hq;have hl:=rv.length;rw[Ul] at hl;have bA:p<s.heap.objs.size:=by obtain⟨_,e,_⟩:=pl.isList;exact J5 e
   have aM:(s.heap.push (qM X.w)).IsList p its.toArray:=pl.isList.push _;have sz:(s.heap.push (qM X.w)).objs.size=s.heap.objs.size+1:=Jb _ _;refine jA (.ref p) (ym (s:={ s with heap:=s.heap.push (qM X.w) }) aM.typeIs F.sub_list_set F.sub_list_frozenset (by decide) (Zt aM ?_));refine jB (Walks.list hh _ p (by rw[sz];exact J6 (Zl bA)) its.toArray) s.heap.objs.size (by rw[sz];simp;exact J9 bA) (λ i=>ss.getD i default) (gJ rv) (by rw[Zg,<- hl];exact hb)
    (its.toArray.size-0) 0 _ [] rfl (Qm _) ⟨⟨_,Yn _ rfl,rfl,rfl⟩,aM.push _⟩ (jz (X9 _ o6)) (Ql _) (by simp) λ h' tk i7 hk hS hm=>⟨rfl,?_⟩
   refine fin h' tk i7 (λ b o hb e=>hk b o (by simp[sz];exact⟨J6 hb,J6 (Zl hb)⟩) (X9 _ (X9 _ e))) hS (G8 i7 λ x=>?_);rw[hm x,Zg,<- hl]
  ·obtain⟨its,rv,pl,hz⟩:=I.tuple hq;have hl:=rv.length;rw[Ul] at hl;have bA:p<s.heap.objs.size:=by obtain⟨_,e,_⟩:=pl;exact J5 e
   have aM:(s.heap.push (qM X.w)).IsTuple p its.toArray:=by
    obtain⟨o,e,rest⟩:=pl;exact⟨o,X9 _ e,rest⟩
   have sz:(s.heap.push (qM X.w)).objs.size=s.heap.objs.size+1:=Jb _ _;have hT:Shared.TypeIs { s with heap:=s.heap.push (qM X.w) } (.ref p) "tuple":=by
    obtain⟨o,e,c,rest⟩:=aM;exact⟨o,e,c⟩
   refine jA (.ref p) (ym (s:={ s with heap:=s.heap.push (qM X.w) }) hT F.sub_tuple_set F.sub_tuple_frozenset (by decide) (wpAny_pyIter_tuple aM ?_));have F0:((s.heap.push (qM X.w)).push { cls:=.type "tuple_iterator",data:=.fields #[.ref p,.int 0 0] }).IsTuple p its.toArray:=by
    obtain⟨o,e,rest⟩:=aM;exact⟨o,X9 _ e,rest⟩
   refine jB (Walks.tuple hh _ p (by rw[sz];exact J6 (Zl bA)) its.toArray) s.heap.objs.size (by rw[sz];simp;exact J9 bA) (λ i=>ss.getD i default) (gJ rv) (by rw[Zg,<- hl];exact hb)
    (its.toArray.size-0) 0 _ [] rfl (Qm _) ⟨⟨_,Yn _ rfl,rfl,rfl⟩,F0⟩ (jz (X9 _ o6)) (Ql _) (by simp) λ h' tk i7 hk hS hm=>⟨rfl,?_⟩
   refine fin h' tk i7 (λ b o hb e=>hk b o (by simp[sz];exact⟨J6 hb,J6 (Zl hb)⟩) (X9 _ (X9 _ e))) hS (G8 i7 λ x=>?_);rw[hm x,Zg,<- hl]
 ·obtain⟨u,rfl,ru⟩:=yn r;obtain⟨t,rfl⟩:=ru;have hl:ss.length=z.cps.size:=by rw[ez,Ul];simp
  have sz:(s.heap.push (qM X.w)).objs.size=s.heap.objs.size+1:=Jb _ _;refine jA (.str z t) (ym (s:={ s with heap:=s.heap.push (qM X.w) }) (Qt _ z t) F.sub_str_set F.sub_str_frozenset (by decide) (wpAny_pyIter_str λ o St W t9=>?_));refine jB (W _ hh) s.heap.objs.size (by rw[sz];simp) (λ i=>ss.getD i default) (λ i v hv=>?_) (by rw[<- hl];exact hb)
   (z.cps.size-0) 0 _ [] rfl (Qm _) t9 (jz (X9 _ o6)) (Ql _) (by simp) λ h' tk i7 hk hS hm=>⟨rfl,?_⟩
  ·obtain⟨c,u,e,rfl⟩:=hv;refine⟨u,?_⟩;have e':(cs z)[i]?=some c:=by rw[XS];exact e
   rw[Xi,ez,Ze,e'];rfl
  ·refine fin h' tk i7 (λ b o hb e=>hk b o (by simp[sz];exact⟨J6 hb,J6 (Zl hb)⟩) (X9 _ (X9 _ e))) hS (G8 i7 λ x=>?_);rw[hm x,<- hl]
end
def qig(w9 i:Nat):Nat:=(i*5+1) % (w9+1)
def lit(w9:Nat):Nat->Nat->Nat
 |0,i=>i
 |k+1,i=>lit w9 k (qig w9 i)
def pos(w9:Nat):Nat->Nat->Nat->Nat
 |0,i,_=>i
 |t+1,i,p=>pos w9 t (SetTable.leap w9 i p).1 (SetTable.leap w9 i p).2
namespace F
theorem slot_set_iterator_next:Slot "set_iterator" "__next__" "set_iterator.__next__":=
 .of (owner:="set_iterator") (n:="__next__") (by rw[U4,XZ];kernel_rfl) (by decide +kernel) (by decide +kernel) (by decide +kernel)
  (by first|exact .inl (by decide +kernel)|exact .inr (by decide +kernel)) (by rw[Jk];kernel_rfl)
theorem entry_set_iterator_next:entryFor table "set_iterator.__next__"=some Builtin.«set_iterator.__next__»:=entryFor_of_fast (by kernel_rfl)
theorem args_set_iterator_next_1(a:Value):argsOk "set_iterator.__next__" ⟨[a],[]⟩:=by unfold argsOk;kernel_rfl
theorem slot_set_iterator_iter:Slot "set_iterator" "__iter__" "set_iterator.__iter__":=
 .of (owner:="set_iterator") (n:="__iter__") (by rw[U4,XZ];kernel_rfl) (by decide +kernel) (by decide +kernel) (by decide +kernel)
  (by first|exact .inl (by decide +kernel)|exact .inr (by decide +kernel)) (by rw[Jk];kernel_rfl)
theorem entry_set_iterator_iter:entryFor table "set_iterator.__iter__"=some Builtin.«dict_keyiterator.__iter__»:=
 Jl (id':="dict_keyiterator.__iter__") (by kernel_rfl) rfl (by decide +kernel) (by kernel_rfl)
theorem args_set_iterator_iter_1(a:Value):argsOk "set_iterator.__iter__" ⟨[a],[]⟩:=by unfold argsOk;kernel_rfl
theorem entry_set_iter:entryFor table "set.__iter__"=some Builtin.«frozenset.__iter__»:=
 Jl (id':="frozenset.__iter__") (by kernel_rfl) rfl (by decide +kernel) (by kernel_rfl)
theorem args_set_iter_1(a:Value):argsOk "set.__iter__" ⟨[a],[]⟩:=by unfold argsOk;kernel_rfl
end F
theorem vo{α:Type}(next:Nat->Nat):∀(fuel k:Nat)(left:List α)(out:Array α),fuel=left.length->(pickOrder.go next fuel k left out).toList.Perm (out.toList++left)
 |0,k,left,out,h=>by
  have:left=[]:=List.eq_nil_of_length_eq_zero h.symm
  subst this;unfold pickOrder.go;rw[Ui]
 |fuel+1,k,left,out,h=>by
  unfold pickOrder.go;have d4:next k % left.length<left.length:=Nat.mod_lt _ (by omega);rw[Xv d4];dsimp only;refine(vo next fuel (k+1) _ _ (by rw[List.length_eraseIdx_of_lt d4];omega)).trans ?_;rw[Zn,Zi];exact List.Perm.append_left _ (j6 left _ d4)
theorem qd5{α:Type}(next:Nat->Nat)(xs:Array α):(pickOrder next xs).toList.Perm xs.toList:=by
 unfold pickOrder
 have:=vo next xs.size 0 xs.toList #[] (by simp)
 simpa using this
section
variable {prog:Program}{w:World}{A:Around}{E:Value->Shared->Prop}{s:Shared}
abbrev itO(first:Value)(i:Nat)(S:Addr)(n ep:Nat):Obj:={ cls:=.type "set_iterator",data:=.fields #[first,.int i 0,.ref S,.int n 0,.int ep 0] }
theorem qci{I S:Addr}{sl i n ep nx:Nat}{x:Value}{o:Obj}{es:Array (Int×Value)}{t:SetTable}{Q:Option Value->Shared->Prop}(h8:s.heap.get? I=some (itO (.int sl 0) i S n ep))(ho:s.heap.get? S=some o)(hd:o.data=.set es ep t)(hf:t.fits es.size=true)(hn:es.size=n)(hN:∀(Q:Option (Value×Nat)->Shared->Prop)(E:Value->Shared->Prop),Q (some (x,nx)) s->wpAny (model prog w) A.in1 (setNext S sl i ep) Q E s)(hQ:∀ h',h'.get? I=some (itO (.int nx 0) (i+1) S n ep)->Heap.SameBut I s.heap h'->Q (some x) { s with heap:=h' }):wpAny (model prog w) A (pyNext (.ref I)) Q E s:=by
 have hT:s.TypeIs (.ref I) "set_iterator":=⟨_,h8,rfl⟩;unfold pyNext;refine Qs (J0 (X7 (name:=Str.ofString "__next__") hT F.slot_set_iterator_next
  (Ue F.slot_set_iterator_next hT F.entry_set_iterator_next ?_ (F.args_set_iterator_next_1 _))))
 unfold Builtin.«set_iterator.__next__»;show wpAny _ _ (fieldsOf (.ref I) >>= _) _ _ s
 refine Qs (Jm h8 rfl ?_);show wpAny _ _ (setEntries S >>= _) _ _ s
 refine Qs (Yz ho hd hf ?_);rw[hn];simp only[Zw,Y7,Qy];show wpAny _ _ (setNext S (sl:Int).toNat (i:Int).toNat (ep:Int).toNat >>= _) _ _ s
 simp only[Zf];refine Qs (hN _ _ ?_);dsimp only;refine Qs (Zd h8 (by simp) λ h1 B4 T7=>?_);refine Qs (Zd B4 (by simp) λ h2 uT i3=>?_);refine Qr ⟨x,rfl,Qr (hQ h2 ?_ (T7.trans i3))⟩;rw[uT];rfl
theorem qcj{I S:Addr}{sl i n ep:Nat}{o:Obj}{es:Array (Int×Value)}{t:SetTable}{Q:Option Value->Shared->Prop}(hh:A.handled=none)(h8:s.heap.get? I=some (itO (.int sl 0) i S n ep))(ho:s.heap.get? S=some o)(hd:o.data=.set es ep t)(hf:t.fits es.size=true)(hn:es.size=n)(hN:∀(Q:Option (Value×Nat)->Shared->Prop)(E:Value->Shared->Prop),Q none s->wpAny (model prog w) A.in1 (setNext S sl i ep) Q E s)(hQ:∀ h',Heap.ExtBut I s.heap h'->Q none { s with heap:=h' }):wpAny (model prog w) A (pyNext (.ref I)) Q E s:=by
 have hT:s.TypeIs (.ref I) "set_iterator":=⟨_,h8,rfl⟩;unfold pyNext;refine Qs (J0 (X7 (name:=Str.ofString "__next__") hT F.slot_set_iterator_next
  (Ue F.slot_set_iterator_next hT F.entry_set_iterator_next ?_ (F.args_set_iterator_next_1 _))))
 unfold Builtin.«set_iterator.__next__»;show wpAny _ _ (fieldsOf (.ref I) >>= _) _ _ s
 refine Qs (Jm h8 rfl ?_);show wpAny _ _ (setEntries S >>= _) _ _ s
 refine Qs (Yz ho hd hf ?_);rw[hn];simp only[Zw,Y7,Qy];show wpAny _ _ (setNext S (sl:Int).toNat (i:Int).toNat (ep:Int).toNat >>= _) _ _ s
 simp only[Zf];refine Qs (hN _ _ ?_);dsimp only;refine Qs (wpAny_setField h8 rfl (by simp) ?_);show wpAny _ _ (newExc (.type "StopIteration") [] >>= _) _ _ _
 refine Qs ?_;simp only[newExc,newTuple];refine Qs (Zu ?_ (by size_fits));refine Qs (m:=firstArgMember _ _) (Qo (a:=Value.none) (by first|rfl|(simp only[firstArgMember];rfl)) ?_);refine Zu ?_ (by size_fits);simp only[raiseNew];refine Qs (wpAny_handled ?_)
 first|rw[show A.in1.handled=none from hh]|rw[hh]
 refine Qs (Qr (wpAny_throw ?_));refine Qs (Ud (T:="StopIteration") (b:=true) ⟨_,Yn _ rfl,rfl⟩ Jn ?_);exact Qr (hQ _ (((Ys ..).extBut.push _).push _))
theorem qeX{I S T:Addr}{i n ep k:Nat}{pl:Array Value}{x:Value}{hx:Int}{o:Obj}{es:Array (Int×Value)}{t:SetTable}{Q:Option Value->Shared->Prop}(h8:s.heap.get? I=some (itO (.ref T) i S n ep))(hp:s.heap.IsTuple T pl)(ho:s.heap.get? S=some o)(hd:o.data=.set es ep t)(hf:t.fits es.size=true)(hn:es.size=n)(hk:pl[i]?=some (.int k 0))(hx:es[k]?=some (hx,x))(hQ:∀ h',h'.get? I=some (itO (.ref T) (i+1) S n ep)->Heap.SameBut I s.heap h'->Q (some x) { s with heap:=h' }):wpAny (model prog w) A (pyNext (.ref I)) Q E s:=by
 have hT:s.TypeIs (.ref I) "set_iterator":=⟨_,h8,rfl⟩;obtain⟨ot,aH,_,nt,V1⟩:=hp;unfold pyNext;refine Qs (J0 (X7 (name:=Str.ofString "__next__") hT F.slot_set_iterator_next
  (Ue F.slot_set_iterator_next hT F.entry_set_iterator_next ?_ (F.args_set_iterator_next_1 _))))
 unfold Builtin.«set_iterator.__next__»;show wpAny _ _ (fieldsOf (.ref I) >>= _) _ _ s
 refine Qs (Jm h8 rfl ?_);show wpAny _ _ (setEntries S >>= _) _ _ s
 refine Qs (Yz ho hd hf ?_);rw[hn];simp only[Zw,Y7,Qy];show wpAny _ _ (seqItems? (.ref T) >>= _) _ _ s
 refine Qs (Jo aH V1 ?_);simp only[Zf,hk];show wpAny _ _ (setNextDrawn S (k:Int).toNat (ep:Int).toNat >>= _) _ _ s
 simp only[Zf];unfold setNextDrawn;refine Qs (Qs (Zv ho hd hf ?_));simp only[Zw,Y7,Qy,hx];refine Qr ?_;refine Qs (Zd h8 (by simp) λ h1 B4 T7=>?_);refine Qr ⟨x,rfl,Qr (hQ h1 ?_ T7)⟩;rw[B4];rfl
theorem qeY{I S T:Addr}{i n ep:Nat}{pl:Array Value}{o:Obj}{es:Array (Int×Value)}{t:SetTable}{Q:Option Value->Shared->Prop}(hh:A.handled=none)(h8:s.heap.get? I=some (itO (.ref T) i S n ep))(hp:s.heap.IsTuple T pl)(ho:s.heap.get? S=some o)(hd:o.data=.set es ep t)(hf:t.fits es.size=true)(hn:es.size=n)(hk:pl[i]?=none)(hQ:∀ h',Heap.ExtBut I s.heap h'->Q none { s with heap:=h' }):wpAny (model prog w) A (pyNext (.ref I)) Q E s:=by
 have hT:s.TypeIs (.ref I) "set_iterator":=⟨_,h8,rfl⟩;obtain⟨ot,aH,_,nt,V1⟩:=hp;unfold pyNext;refine Qs (J0 (X7 (name:=Str.ofString "__next__") hT F.slot_set_iterator_next
  (Ue F.slot_set_iterator_next hT F.entry_set_iterator_next ?_ (F.args_set_iterator_next_1 _))))
 unfold Builtin.«set_iterator.__next__»;show wpAny _ _ (fieldsOf (.ref I) >>= _) _ _ s
 refine Qs (Jm h8 rfl ?_);show wpAny _ _ (setEntries S >>= _) _ _ s
 refine Qs (Yz ho hd hf ?_);rw[hn];simp only[Zw,Y7,Qy];show wpAny _ _ (seqItems? (.ref T) >>= _) _ _ s
 refine Qs (Jo aH V1 ?_);simp only[Zf,hk];refine Qs (Zd h8 (by simp) λ h1 B4 T7=>?_);refine Qs (wpAny_setField B4 rfl (by simp) ?_);show wpAny _ _ (newExc (.type "StopIteration") [] >>= _) _ _ _
 refine Qs ?_;simp only[newExc,newTuple];refine Qs (Zu ?_ (by size_fits));refine Qs (m:=firstArgMember _ _) (Qo (a:=Value.none) (by first|rfl|(simp only[firstArgMember];rfl)) ?_);refine Zu ?_ (by size_fits);simp only[raiseNew];refine Qs (wpAny_handled ?_)
 first|rw[show A.in1.handled=none from hh]|rw[hh]
 refine Qs (Qr (wpAny_throw ?_));refine Qs (Ud (T:="StopIteration") (b:=true) ⟨_,Yn _ rfl,rfl⟩ Jn ?_);exact Qr (hQ _ ((((T7.trans (Ys ..))).extBut.push _).push _))
theorem qbx{I S:Addr}{i n ep:Nat}{first:Value}{Q:Value->Shared->Prop}(h8:s.heap.get? I=some (itO first i S n ep))(h:Q (.ref I) s):wpAny (model prog w) A (pyIter (.ref I)) Q E s:=by
 have hT:s.TypeIs (.ref I) "set_iterator":=⟨_,h8,rfl⟩;refine wpAny_pyIter_slot hT F.slot_set_iterator_iter (Ue F.slot_set_iterator_iter hT F.entry_set_iterator_iter ?_ (F.args_set_iterator_iter_1 _));show wpAny _ _ (ret (.ref I)) _ _ s
 exact Qr ⟨_,rfl,"set_iterator",_,hT,F.slot_set_iterator_next.lookup,h⟩
theorem yU{α β:Type}{F:α->β->Prop}:∀{xs:List α}{l:List β},Paired F xs l->∀(k:Nat)(a:α),xs[k]?=some a->∃ b,l[k]?=some b/\F a b
 |_,_,.nil,k,b,h=>by simp at h
 |_,_,.cons r t,0,b,h=>by simp at h;subst h;exact⟨_,rfl,r⟩
 |_,_,.cons r t,k+1,b,h=>by
  obtain⟨a,h1,h2⟩:=yU t k b (by simpa using h);exact⟨a,by simpa using h1,h2⟩
abbrev kZ(zs:List Str)(i:Nat)(v:Value):Prop:=∃ t,v=.str (zs.getD i default) t
theorem qa6{α:Type}[Inhabited α]{l:List α}{i:Nat}{x:α}(h:l[i]?=some x):l.getD i default=x:=by rw[Xi,h];rfl
theorem qaa{ys:List Str}{p:List Nat}(hp:p.Perm (List.range ys.length)):(p.map λ k=>ys.getD k default).Perm ys:=by
 refine(hp.map _).trans ?_
 have:∀(l:List Str),(List.range l.length).map (λ k=>l.getD k default)=l:=by
  intro l;refine List.ext_getElem (by simp) λ i h1 h2=>?_
  simp at h1;simp[h1]
 rw[this]
theorem Walks.setDrawn(hh:A.handled=none){I S T:Addr}(hIT:T≠I)(gG:S≠I){ys:List Str}{p:List Nat}(hp:p.Perm (List.range ys.length)){o:Obj}{es:Array (Int×Value)}{ep:Nat}{t:SetTable}(hd:o.data=.set es ep t)(hf:t.fits es.size=true)(D3:Paired (qbw prog w) ys es.toList):
  Walks prog w A I [I,T,S] [I] ys.length (kZ (p.map λ k=>ys.getD k default)) (λ i h=>h.get? I=some (itO (.ref T) i S ys.length ep)/\h.IsTuple T ((p.map λ k=>(.int (k:Nat) 0:Value)).toArray)/\h.get? S=some o) where
 sub:=λ b hb=>by simp at hb;simp[hb]
 frame:=λ i h h' st k=>⟨k I (by simp) _ st.1,let ⟨o,ho,r⟩:=st.2.1;⟨o,k T (by simp) _ ho,r⟩,k S (by simp) _ st.2.2⟩
 item:=λ i s Q E hi st hQ=>by
  have hn:es.size=ys.length:=by rw[<- Ym,<- D3.length]
  have uU:i<p.length:=by rw[hp.length_eq,Zo];exact hi
  have hk:p[i]<ys.length:=U6.mp (hp.mem_iff.mp (Z6 uU));obtain⟨e,he,h1,t',h2⟩:=yU D3 p[i] ys[p[i]] (Xv hk);have fT:es[p[i]]?=some (e.1,e.2):=by rw[<- XS];exact he
  refine qeX (k:=p[i]) (x:=e.2) (hx:=e.1) st.1 st.2.1 st.2.2 hd hf hn ?_ fT λ h' B5 u8=>?_
  ·simp[uU]
  ·refine hQ _ h' s.toks ⟨t',?_⟩ ⟨B5,?_,?_⟩ λ b o hb e=>u8.extBut b o (λ h=>hb (by simp[h])) e
   ·rw[h2];congr 1
    rw[Xi,Ze,Xv uU];show _=ys.getD p[i] default
    rw[Xi,Xv hk];rfl
   ·obtain⟨o,ho,r⟩:=st.2.1;exact⟨o,(u8.2 T hIT).trans ho,r⟩
   ·exact(u8.2 S gG).trans st.2.2
 done:=λ s Q E st hQ=>by
  have hn:es.size=ys.length:=by rw[<- Ym,<- D3.length]
  refine qeY hh st.1 st.2.1 st.2.2 hd hf hn ?_ λ h' bS=>hQ h' s.toks λ b o hb e=>bS b o (λ h=>hb (by simp[h])) e
  have:p.length=ys.length:=by rw[hp.length_eq,Zo]
  simp[this]
 self:=λ i s Q E st hQ=>qbx st.1 hQ
theorem Walks.setText(hb:byT w)(hh:A.handled=none){I S:Addr}(gG:S≠I){ys zs:List Str}{o:Obj}{es t4:Array (Int×Value)}{ep:Nat}{t:SetTable}(hd:o.data=.set es ep t)(hf:t.fits es.size=true)(hn:es.size=ys.length)(he:t4=pickOrder (w.params.setOrder S ep) es)(D3:Paired (qbw prog w) zs t4.toList)(hz:zs.length=ys.length):
  Walks prog w A I [I,S] [I] ys.length (kZ zs) (λ i h=>h.get? I=some (itO (.int (0:Nat) 0) i S ys.length ep)/\h.get? S=some o) where
 sub:=λ b hb=>by simp at hb;simp[hb]
 frame:=λ i h h' st k=>⟨k I (by simp) _ st.1,k S (by simp) _ st.2⟩
 item:=λ i s Q E hi st hQ=>by
  obtain⟨e,fT,h1,t',h2⟩:=yU D3 i (zs[i]'(by omega)) (Xv (by omega));refine qci (nx:=0) (x:=e.2) st.1 st.2 hd hf hn ?_ λ h' B5 u8=>?_
  ·intro Q E h;unfold setNext;refine Qs (Zv st.2 hd hf ?_);dsimp only;unfold setsByText;refine Qs (Qs (Uc (Qr ?_)));dsimp only;refine U5 (λ _=>?_) (λ bQ=>absurd hb bQ);simp only[Zw,Y7,Qy];unfold setWalk;refine Qs (Qs (Zv st.2 hd hf ?_));dsimp only;unfold setsByText;refine Qs (Qs (Uc (Qr ?_)));dsimp only;refine U5 (λ _=>?_) (λ bQ=>absurd hb bQ);refine Qs (Uc (Qr (Qr ?_)));have e1:(pickOrder (w.params.setOrder S ep) es)[i]?=some e:=by rw[<- he,<- XS];exact fT
   show Q (((pickOrder (w.params.setOrder S ep) es)[i]?).map λ e=>(e.2,0)) s
   rw[e1];exact h
  ·refine hQ _ h' s.toks ⟨t',?_⟩ ⟨B5,(u8.2 S gG).trans st.2⟩ λ b o hb e=>u8.extBut b o (λ h=>hb (by simp[h])) e
   rw[h2,qa6 (Xv (by omega))]
 done:=λ s Q E st hQ=>by
  refine qcj hh st.1 st.2 hd hf hn ?_ λ h' bS=>hQ h' s.toks λ b o hb e=>bS b o (λ h=>hb (by simp[h])) e
  intro Q E h;unfold setNext;refine Qs (Zv st.2 hd hf ?_);dsimp only;unfold setsByText;refine Qs (Qs (Uc (Qr ?_)));dsimp only;refine U5 (λ _=>?_) (λ bQ=>absurd hb bQ);simp only[Zw,Y7,Qy];unfold setWalk;refine Qs (Qs (Zv st.2 hd hf ?_));dsimp only;unfold setsByText;refine Qs (Qs (Uc (Qr ?_)));dsimp only;refine U5 (λ _=>?_) (λ bQ=>absurd hb bQ);refine Qs (Uc (Qr (Qr ?_)));have e1:(pickOrder (w.params.setOrder S ep) es)[ys.length]?=none:=by
   rw[<- he,<- XS,XQ];rw[<- D3.length];omega
  show Q (((pickOrder (w.params.setOrder S ep) es)[ys.length]?).map λ e=>(e.2,0)) s
  rw[e1];exact h
 self:=λ i s Q E st hQ=>qbx st.1 hQ
theorem Walks.setOne(hb:¬ byT w)(hh:A.handled=none){I S:Addr}(gG:S≠I){ys:List Str}{o:Obj}{es:Array (Int×Value)}{ep:Nat}{t:SetTable}(hd:o.data=.set es ep t)(hf:t.fits es.size=true)(hl:t.led=true)(D3:Paired (qbw prog w) ys es.toList)(h1:ys.length<=1):
  Walks prog w A I [I,S] [I] ys.length (kZ ys) (λ i h=>h.get? I=some (itO (.int (if i=0 then 0 else t.place.getD 0 0+1:Nat) 0) i S ys.length ep)/\h.get? S=some o) where
 sub:=λ b hb=>by simp at hb;simp[hb]
 frame:=λ i h h' st k=>⟨k I (by simp) _ st.1,k S (by simp) _ st.2⟩
 item:=λ i s Q E hi st hQ=>by
  have hi0:i=0:=by omega
  subst hi0;have hn:es.size=ys.length:=by rw[<- Ym,<- D3.length]
  obtain⟨e,fT,q1,t',q2⟩:=yU D3 0 (ys[0]'hi) (Xv hi);have lQ:t.place.size=1:=by
   simp only[SetTable.fits,Z3,beq_iff_eq] at hf;omega
  have u0:t.place[0]?=some (t.place.getD 0 0):=by
   rw[Xe,Xo (by omega)];rfl
  refine qci (nx:=t.place.getD 0 0+1) (x:=e.2) st.1 st.2 hd hf hn ?_ λ h' B5 u8=>?_
  ·intro Q E h;unfold setNext;refine Qs (Zv st.2 hd hf ?_);dsimp only;unfold setsByText;refine Qs (Qs (Uc (Qr ?_)));dsimp only;refine U5 (λ V2=>absurd V2 hb) (λ _=>?_);refine U5 (λ V2=>absurd V2 ?_) (λ _=>?_)
   ·show ¬ ((!t.plain && decide (es.size > 1))=true)
    rw[show decide (es.size > 1)=false from Uz (by omega),Bool.and_false];exact Y2
   refine Qs ?_;show wpAny _ _ (if (!t.led && !es.isEmpty)=true then _ else _) _ _ s
   rw[hl];simp only[Jw,U7,Y7,Qy];refine Qr ?_;have eb:SetTable.below t.place 0=0:=by
    unfold SetTable.below;rw[lQ];unfold SetTable.below.go;simp
    unfold SetTable.below.go;rfl
   refine Qr ?_;simp only[Q4,eb];have ee:es[0]?=some (e.1,e.2):=by rw[<- XS];exact fT
   rw[ee,u0];exact h
  ·refine hQ _ h' s.toks ⟨t',?_⟩ ⟨?_,(u8.2 S gG).trans st.2⟩ λ b o hb e=>u8.extBut b o (λ h=>hb (by simp[h])) e
   ·rw[q2,qa6 (Xv hi)]
   ·rw[B5,Q8 (by omega)]
 done:=λ s Q E st hQ=>by
  have hn:es.size=ys.length:=by rw[<- Ym,<- D3.length]
  refine qcj hh st.1 st.2 hd hf hn ?_ λ h' bS=>hQ h' s.toks λ b o hb e=>bS b o (λ h=>hb (by simp[h])) e
  intro Q E h;unfold setNext;refine Qs (Zv st.2 hd hf ?_);dsimp only;unfold setsByText;refine Qs (Qs (Uc (Qr ?_)));dsimp only;refine U5 (λ V2=>absurd V2 hb) (λ _=>?_);refine U5 (λ V2=>absurd V2 ?_) (λ _=>?_)
  ·show ¬ ((!t.plain && decide (es.size > 1))=true)
   rw[show decide (es.size > 1)=false from Uz (by omega),Bool.and_false];exact Y2
  refine Qs ?_;show wpAny _ _ (if (!t.led && !es.isEmpty)=true then _ else _) _ _ s
  rw[hl];simp only[Jw,U7,Y7,Qy];refine Qr (Qr ?_);have lQ:t.place.size=ys.length:=by
   simp only[SetTable.fits,Z3,beq_iff_eq] at hf;omega
  have key:es[SetTable.below t.place (if ys.length=0 then 0 else t.place.getD 0 0+1)]?=none:=by
   by_cases h0:ys.length=0
   ·rw[Array.getElem?_eq_none (by omega)]
   ·rw[Q8 h0];have eR:ys.length=1:=by omega
    have eb:SetTable.below t.place (t.place.getD 0 0+1)=1:=by
     unfold SetTable.below;rw[lQ,eR];unfold SetTable.below.go
     have:t.place.getD 0 (t.place.getD 0 0+1)<t.place.getD 0 0+1:=by
      have e:t.place.getD 0 (t.place.getD 0 0+1)=t.place.getD 0 0:=by
       rw[Xe,Xe,Xo (by omega)];rfl
      rw[e];exact Z5 _
     simp only[Nat.zero_lt_one,Q4,Nat.reduceAdd,Nat.reduceDiv,this];unfold SetTable.below.go;rfl
    rw[eb,Array.getElem?_eq_none (by omega)]
  rw[key];exact h
 self:=λ i s Q E st hQ=>qbx st.1 hQ
theorem qeZ{S:Addr}{ys:List Str}{Q:Value->Shared->Prop}(hS:zv prog w s.heap S ys)(h:∀(I:Addr)(h':Heap)(d:Drawn)(zs:List Str)(fp:List Addr)(St:Nat->Heap->Prop),zs.Perm ys->(∀ b o,s.heap.get? b=some o->h'.get? b=some o)->s.heap.objs.size<=I->I∈fp->(∀ b∈fp,b<h'.objs.size/\(b=S∨s.heap.objs.size<=b)) ->
   (∀ A:Around,A.handled=none->Walks prog w A I fp [I] ys.length (kZ zs) St)->St 0 h'->Q (.ref I) { s with heap:=h',drawn:=d }):wpAny (model prog w) A (pyIter (.ref S)) Q E s:=by
 have hTy:=hS.typeIs (s:=s);obtain⟨o,es,ep,t,ho,hex,hd,D3,nd,hb,hf,hl,u0⟩:=hS;have hn:es.size=ys.length:=by rw[<- Ym,<- D3.length]
 have d4:S<s.heap.objs.size:=J5 ho;have hsz:ys.length<=sizeLine:=J8 (Y0 hb (by decide));refine wpAny_pyIter_slot hTy PySem.F.slot_set_iter (Ue PySem.F.slot_set_iter hTy F.entry_set_iter ?_ (F.args_set_iter_1 _));unfold Builtin.«frozenset.__iter__»;show wpAny _ _ (Builtin.Frozenset.sizeOf S >>= _) _ _ s
 unfold Builtin.Frozenset.sizeOf;refine Qs (Qs (Yz ho hd hf (Qr ?_)));unfold setDrawn;refine Qs (Qs (Zv ho hd hf ?_));dsimp only;unfold setsByText;refine Qs (Qs (Uc (Qr (Qr ?_))));show wpAny _ _ (if (!w.params.followText "set-order" && (!t.plain && decide (es.size > 1)))=true then _ else _) _ _ s
 refine U5 (λ hc=>?_) (λ hc=>?_)
 ·refine Qs (jp es.size (List.range es.size) _ _ (by simp) λ p d hp=>?_);rw[hn] at hp;have uA:p.length=ys.length:=by rw[hp.length_eq,Zo]
  refine Qs (Jp (items:=p.map λ(i:Nat)=>rawInt i) ?_ (by rw[Ul,uA];exact hsz));refine Qs (wpAny_setEpoch_of (X9 _ ho) hd hf ?_);rw[hn];refine Qs (Zu (Qr ⟨_,rfl,"set_iterator",_,⟨_,Yn _ rfl,rfl⟩,F.slot_set_iterator_next.lookup,?_⟩));have aV:(s.heap.push { cls:=Value.type "tuple",data:=Data.seq (p.map λ(i:Nat)=>rawInt i).toArray }).objs.size=s.heap.objs.size+1:=Jb _ _;refine h _ _ d (p.map λ k=>ys.getD k default) [_,s.heap.objs.size,S] _ (qaa hp) (λ b o e=>X9 _ (X9 _ e)) ?_ (by simp) ?_ (λ A hA=>Walks.setDrawn hA (I:=(s.heap.push { cls:=Value.type "tuple",data:=Data.seq (p.map λ(i:Nat)=>rawInt i).toArray }).objs.size) (T:=s.heap.objs.size) (by rw[aV];exact J6 (Z5 _)) (by rw[aV];exact J6 (Zl d4)) hp hd hf D3) ⟨?_,?_,?_⟩
  ·show _<=(s.heap.push _).objs.size
   rw[aV];omega
  ·intro b hb;rw[Jb,aV];simp only[aV,Js,Z7,or_false] at hb;rcases hb with e | e | e <;> rw[e]
   ·exact⟨Z5 _,.inr (Qn _)⟩
   ·exact⟨Zl (Z5 _),.inr (Ql _)⟩
   ·exact⟨Zl (Zl d4),.inl rfl⟩
  ·exact Yn _ rfl
  ·exact⟨_,X9 _ (Yn _ rfl),rfl,_,rfl⟩
  ·exact X9 _ (X9 _ ho)
 ·refine Qs (Qr ?_);refine Qs (wpAny_setEpoch_of ho hd hf ?_);rw[hn];refine Qs (Zu (Qr ⟨_,rfl,"set_iterator",_,⟨_,Yn _ rfl,rfl⟩,F.slot_set_iterator_next.lookup,?_⟩));have szb:∀ b∈[s.heap.objs.size,S],b<(s.heap.push (itO (.int (0:Nat) 0) 0 S ys.length ep)).objs.size/\(b=S∨s.heap.objs.size<=b):=by
   intro b hb;rw[Jb];simp only[Js,Z7,or_false] at hb;rcases hb with e|e <;> rw[e]
   ·exact⟨Z5 _,.inr (Ql _)⟩
   ·exact⟨Zl d4,.inl rfl⟩
  by_cases hbt:byT w
  ·obtain⟨zs,hz,hpz⟩:=jy D3 (qd5 (w.params.setOrder S ep) es);exact h s.heap.objs.size _ s.drawn zs [s.heap.objs.size,S] _ hz (λ b o e=>X9 _ e) (Ql _) (by simp) szb (λ A hA=>Walks.setText hbt hA (J6 d4) hd hf hn rfl hpz hz.length_eq) ⟨Yn _ rfl,X9 _ ho⟩
  ·have d5:ys.length<=1:=by
    have hft:w.params.followText "set-order"=false:=Bool.eq_false_iff.mpr hbt;rw[hft] at hc;rcases u0 with e | e
    ·rw[e];simp
    ·rw[e] at hc;simp only[Bool.not_false,Bool.true_and,decide_eq_true_eq] at hc;omega
   exact h s.heap.objs.size _ s.drawn ys [s.heap.objs.size,S] _ (U9 _) (λ b o e=>X9 _ e) (Ql _) (by simp) szb (λ A hA=>Walks.setOne hbt hA (J6 d4) hd hf (hl.resolve_right hbt) D3 d5) ⟨Yn _ rfl,X9 _ ho⟩
theorem qe0{r:Addr}{Q:Bool->Shared->Prop}(hT:s.TypeIs (.ref r) "set")(h:Q false s):wpAny (model prog w) A (Builtin.List.listLengthHint (.ref r)) Q E s:=by
 unfold Builtin.List.listLengthHint;refine Qs (U2 hT PySem.F.slot_set_len.lookup ?_);generalize mB:("set.__len__":String)=id0
 wp_delta
 rw[show splitId id0=some ("set","__len__") from by subst mB;decide +kernel];subst mB;refine Qs (Ud (T:="set") (b:=true) hT (by rw[Jk];kernel_rfl) ?_);refine U5 (λ o7=>absurd o7 (by decide)) (λ _=>?_);refine U5 (λ _=>?_) (λ o7=>absurd (by decide +kernel) o7);refine Qs (Qj hT ?_);exact Qr h
theorem qa7{S:Addr}{ys:List Str}{R:List Value->Shared->Prop}(hh:A.handled=none)(hS:zv prog w s.heap S ys)(h:∀(h':Heap)(tk:Nat)(d:Drawn)(d6:List Value)(zs:List Str),(∀ b o,s.heap.get? b=some o->h'.get? b=some o)->s.heap.objs.size<h'.objs.size->zs.Perm ys->StrsAre d6 zs->R d6 { s with heap:=h',toks:=tk,drawn:=d }):
  wpAny (model prog w) A (collect (.ref S)) R E s:=by
 have d4:S<s.heap.objs.size:=by obtain⟨o,_,_,_,ho,_⟩:=hS;exact J5 ho
 have hsz:ys.length<=sizeLine:=by
  obtain⟨_,_,_,_,_,_,_,_,_,hb,_⟩:=hS;exact J8 (Y0 hb (by decide))
 unfold collect;refine Qs (wpAny_runValue (U3 entry_proto_collect' ?_));rw[Ye PySem.F.plain_proto_collect _];show wpAny _ A.in1 (newList [] >>= λ l=>again (.builtin "list.__iadd__" ⟨[l,.ref S],[]⟩)) _ _ s
 refine Qs (Zu ?_);refine Qr ⟨Jz PySem.F.plain_list_iadd _,U3 entry_list_iadd' ?_⟩;rw[Ye PySem.F.plain_list_iadd _];have hL:(s.heap.push { cls:=.type "list",data:=.seq ([]:List Value).toArray }).get? s.heap.objs.size=some { cls:=.type "list",data:=.seq #[] }:=Yn _ rfl;show wpAny _ A.in1 (Builtin.List.listExtendWith (.ref s.heap.objs.size) (.ref S) (.ref s.heap.objs.size)) _ _ _
 have aO:zv prog w (s.heap.push { cls:=.type "list",data:=.seq ([]:List Value).toArray }) S ys:=by
  obtain⟨o,es,ep,t,ho,rest⟩:=hS;exact⟨o,es,ep,t,X9 _ ho,rest⟩
 unfold Builtin.List.listExtendWith;refine Qs (Qj (T:="set") (aO.typeIs (s:={ s with heap:=s.heap.push { cls:=.type "list",data:=.seq ([]:List Value).toArray } })) ?_);have h1:Builtin.List.listSameRef (.ref s.heap.objs.size) (.ref S)=false:=by simp[Builtin.List.listSameRef];exact J9 d4
 simp only[h1,show(Value.type "set" == Value.type "list")=false by decide,show(Value.type "set" == Value.type "tuple")=false by decide,Bool.or_false,Y7,Qy];refine Qs (qeZ (s:={ s with heap:=s.heap.push { cls:=.type "list",data:=.seq ([]:List Value).toArray } }) aO λ I h2 d zs fp St hz R7 hI hIfp B0 W st=>?_);have aV:(s.heap.push { cls:=.type "list",data:=.seq ([]:List Value).toArray }).objs.size=s.heap.objs.size+1:=Jb _ _;have hI':s.heap.objs.size+1<=I:=by have:(s.heap.push { cls:=.type "list",data:=.seq ([]:List Value).toArray }).objs.size<=I:=hI;omega
 have gE:=R7 _ _ hL;have gD:zv prog w h2 S ys:=by
  obtain⟨o,es,ep,t,ho,rest⟩:=aO;exact⟨o,es,ep,t,R7 _ _ ho,rest⟩
 refine Qs (Jy (qe0 (gD.typeIs (s:={ s with heap:=h2,drawn:=d })) ?_));have A2:∀ b o,s.heap.get? b=some o->h2.get? b=some o:=λ b o e=>R7 b o (X9 _ e)
 have hnf:s.heap.objs.size∉fp:=λ hm=>by
  rcases(B0 _ hm).2 with e|e
  ·exact absurd d4 (by rw[<- e];exact Jr _)
  ·have e:(s.heap.push { cls:=.type "list",data:=.seq ([]:List Value).toArray }).objs.size<=s.heap.objs.size:=e;rw[aV] at e;exact absurd e (Nat.not_succ_le_self _)
 have key:∀(h:Heap)(c₁:Nat),St 0 h->(∀ b o,b≠s.heap.objs.size->h2.get? b=some o->h.get? b=some o) ->
   h.get? s.heap.objs.size=some { cls:=.type "list",data:=.seq #[] c₁ } ->
   codeAny (model prog w) A (.builtin "list.extend.loop" ⟨[.ref s.heap.objs.size,.ref I,.ref s.heap.objs.size],[]⟩) (λ r s'=>∃ h' tk C4 c',r=.ok (.ret (.ref s.heap.objs.size))/\s'={ s with heap:=h',toks:=tk,drawn:=d } /\
    (∀ b o,s.heap.get? b=some o->h'.get? b=some o)/\h'.get? s.heap.objs.size=some { cls:=.type "list",dict:=none,data:=.seq C4 c',slots:=#[] }/\ItemsOf (kZ zs) C4 ys.length) { s with heap:=h,drawn:=d }:=by
  intro h c₁ t9 hk hS₁;refine codeAny_extend_loopS (W _ (by simpa using hh)).toS hsz s.heap.objs.size hnf _ ys.length 0 _ #[] c₁ rfl (Qm _) t9 hS₁ (ItemsOf.nil _) λ s' C4 c' hm S3 V3=>?_
  rw[Moved.eq_with hm];refine⟨s'.heap,s'.toks,C4,c',rfl,rfl,λ b o e=>hm.heap b o (λ hmem=>?_) (hk b o (J6 (J5 e)) (A2 b o e)),S3,V3⟩;have d4:=J5 e;rcases Js.mp hmem with e'|hmem
  ·rw[e'] at d4;exact Jr _ d4
  ·rw[Y9.mp hmem] at d4;exact absurd (Y0 d4 (Nat.le_of_succ_le hI')) (Jr _)
 have fin:∀ r s',(∃ h' tk C4 c',r=(.ok (.ret (.ref s.heap.objs.size)):Result)/\s'={ s with heap:=h',toks:=tk,drawn:=d } /\
    (∀ b o,s.heap.get? b=some o->h'.get? b=some o)/\h'.get? s.heap.objs.size=some { cls:=.type "list",dict:=none,data:=.seq C4 c',slots:=#[] }/\ItemsOf (kZ zs) C4 ys.length) ->
   match r with | .ok (.ret v)=>wpAny (model prog w) A (do
    let .ref a:=v | unsupported "internal:collect"
    let o <- load a
    match o.data with
    |.seq xs _=>pure xs.toList
    | _=>unsupported "internal:collect") R E s' | _=>True:=by
  rintro r s' ⟨h',tk,C4,c',rfl,rfl,hk,S3,V3⟩;show wpAny _ A (load s.heap.objs.size >>= _) _ _ _
  refine Qs (wpAny_load S3 (Qr (h h' tk d C4.toList zs hk (J5 S3) hz ?_)));have eN:zs.length=ys.length:=hz.length_eq
  have:∀(as:List Value)(zs:List Str),as.length=zs.length->(∀(j:Nat) v,as[j]?=some v->kZ zs j v)->StrsAre as zs:=by
   intro as;induction as with
   |nil=>intro zs hl _;cases zs with
    |nil=>exact .nil
    |cons _ _=>simp at hl
   |cons a as ih =>
    intro zs hl hh;cases zs with
    |nil=>simp at hl
    |cons z zs =>
     obtain⟨t,e⟩:=hh 0 a rfl;have e:a=.str z t:=e;subst e;exact .cons _ _ (ih zs (by simpa using hl) λ j v e=>by
      obtain⟨t,e2⟩:=hh (j+1) v (by simpa using e);exact⟨t,by simpa using e2⟩)
  exact this _ _ (by rw[Ym,V3.1,eN]) λ j v e=>V3.2 j v (by rw[<- XS];exact e)
 refine U5 (λ _=>?_) (λ _=>Qr ⟨Jz PySem.F.plain_extend_loop _,Qi (key _ _ st (λ b o _ e=>e) gE) λ r s' hr=>?_⟩)
 ·refine Qs (Qv ?_);refine Qs ?_;show wpAny _ _ (updateSeq s.heap.objs.size (·.push .none) >>= λ _=>updateSeq s.heap.objs.size (·.pop)) _ _ _
  refine Qs (wpAny_updateSeq gE rfl ?_);have hS₂:=XR (Obj.mapSeq (·.push Value.none)) gE rfl;refine wpAny_updateSeq (hz:=by seq_fits) hS₂ rfl ?_;have hS₃:=XR (Obj.mapSeq (·.pop)) hS₂ rfl;refine Qr ⟨Jz PySem.F.plain_extend_loop _,Qi (key _ _ ?_ (λ b o hb e=>?_) hS₃) λ r s' hr=>?_⟩
  ·refine(W A hh).frame 0 _ _ st λ b hb o e=>?_
   have hbS:b≠s.heap.objs.size:=λ h=>hnf (h ▸ hb)
   exact(XB _ _ (Q2 hbS)).trans ((XB _ _ (Q2 hbS)).trans e)
  ·exact(XB _ _ (Q2 hb)).trans ((XB _ _ (Q2 hb)).trans e)
  ·have:=fin r s' hr
   obtain⟨_,_,_,_,rfl,_⟩:=hr;exact this
 ·have:=fin r s' hr
  obtain⟨_,_,_,_,rfl,_⟩:=hr;exact this
theorem qe1{S:Addr}{ys:List Str}{Q:Value->Shared->Prop}(hh:A.handled=none)(hS:zv prog w s.heap S ys)(N3:ys.length<64)(h:∀(l:Addr)(h':Heap)(tk e:Nat)(d:Drawn)(out:Array Value)(p8:List Str),(∀ b o,s.heap.get? b=some o->h'.get? b=some o)->s.heap.objs.size<=l->h'.get? l=some (seqObj "list" out e)->StrsAre out.toList p8->p8.Perm ys->sortedS p8=true ->
   Q (.ref l) { s with heap:=h',toks:=tk,drawn:=d }):wpAny (model prog w) A (call (.builtin "sorted") [.ref S]) Q E s:=by
 refine Xp kind_sorted plain_sorted entry_sorted (args_sorted1 _) ?_;unfold Builtin.«sorted»;refine Qs (m:=checkCount "sorted" 1 1 _) (Qr ?_);refine Qs (qa7 (by simpa using hh) hS λ h1 tk d vs zs hk u5 hz hA=>?_);have hl:vs.length<64:=by
  have:vs.length=zs.length:=hA.length
  rw[this,hz.length_eq];exact N3
 refine Qs (J4 ?_);have V0:(h1.push (seqObj "list" vs.toArray 0)).get? h1.objs.size=some (seqObj "list" vs.toArray 0):=Yn _ rfl;refine Qs (Jy (Ue slot_list_sort ⟨_,V0,rfl⟩ entry_list_sort (list_sort_treeK strKind_oneLt V0 hA.keysOf (λ v₁ v₂ rest e=>keyKind_strs (by rw[<- e];exact hA)) hl λ b0 a1 a2=>⟨_,rfl,?_⟩) (args_list_sort _)));obtain⟨p8,b1,b2,b3⟩:=sorted_out_str hA a1 a2;obtain⟨e,he⟩:=sortedHeap_at (out:=(arrOf b0).map (·.2)) V0;refine Qr ⟨_,rfl,h h1.objs.size _ tk e d _ p8 (λ b o q=>?_) (J8 u5) he b1 (b2.trans hz) b3⟩;have q1:=hk b o q;have hb:=J5 q1;rw[sortedHeap_old (J6 hb) (by rw[Jb];exact Zl hb)];exact X9 _ q1
end
section
variable {X:Cx}
theorem jW(hc:X.calm=true):yB X (.builtin "sorted") (λ xs H Q=>∃ p ys,xs=[.ref p]/\H p=some (qd4 X.prog X.w p ys)/\ys.length<64/\∀ l,H l=none->Q (.ref l) (upd H l (.lst ((vk ys).map V.str)))):=by
 intro pins s σ H xs us Q I r h;obtain⟨p,ys,rfl,hp,N3,q⟩:=h;obtain⟨u,rfl,ru⟩:=yn r;cases ru
 obtain⟨i7,p6,hS⟩:=I.set hp;refine qe1 (I.ok.hd hc) hS (by rw[p6.length_eq];exact N3) λ l h' tk e d out p8 hk u5 he h1 h2 h3=>?_
 have es:=qbu (h2.trans p6) h3;subst es;have hf:=I.hok.fresh u5;refine⟨.ref l,upd H l (.lst ((vk ys).map V.str)),I.call' (s':={ s with heap:=h',toks:=tk,drawn:=d }) (ch:=[]) rfl (Un.laid hk u5 hf) (I.hok.laid hk u5 ⟨?_,out.toList,e,ji h1,he⟩) I.bare (λ _ z=>nomatch z),rfl,q _ hf⟩
 have:(vk ys).length=ys.length:=(h2.trans p6).length_eq
 rw[Ul,this];exact J8 (Y0 N3 (by decide))
end
namespace F
theorem j7:Slot "reversed" "__init__" "object.__init__":=
 .of (owner:="object") (n:="__init__") (by rw[U4,XZ];kernel_rfl) (by decide +kernel) (by decide +kernel) (by decide +kernel)
  (by first|exact .inl (by decide +kernel)|exact .inr (by decide +kernel)) (by rw[Jk];kernel_rfl)
theorem called_reversed:TypeCalled "reversed" "reversed.__new__" "object.__init__":=
 ⟨by decide +kernel,by decide +kernel,⟨_,_,PySem.F.mro_reversed⟩,PySem.F.made_reversed,by decide +kernel,by rw[Jk];kernel_rfl,j7⟩
theorem no_str_reversed:typeLookup (.type "str") "__reversed__"=pure none:=by rw[U4,XZ];kernel_rfl
theorem sub_str_dict:isSubtype (.type "str") (.type "dict")=pure false:=by rw[Jk];kernel_rfl
theorem slot_reversed_next:Slot "reversed" "__next__" "reversed.__next__":=
 .of (owner:="reversed") (n:="__next__") (by rw[U4,XZ];kernel_rfl) (by decide +kernel) (by decide +kernel) (by decide +kernel)
  (by first|exact .inl (by decide +kernel)|exact .inr (by decide +kernel)) (by rw[Jk];kernel_rfl)
theorem entry_reversed_next:entryFor table "reversed.__next__"=some Builtin.«reversed.__next__»:=entryFor_of_fast (by kernel_rfl)
theorem args_reversed_next_1(a:Value):argsOk "reversed.__next__" ⟨[a],[]⟩:=by unfold argsOk;kernel_rfl
theorem slot_reversed_iter:Slot "reversed" "__iter__" "reversed.__iter__":=
 .of (owner:="reversed") (n:="__iter__") (by rw[U4,XZ];kernel_rfl) (by decide +kernel) (by decide +kernel) (by decide +kernel)
  (by first|exact .inl (by decide +kernel)|exact .inr (by decide +kernel)) (by rw[Jk];kernel_rfl)
theorem entry_reversed_iter:entryFor table "reversed.__iter__"=some Builtin.«dict_keyiterator.__iter__»:=
 Jl (id':="dict_keyiterator.__iter__") (by kernel_rfl) (by first | rfl | decide +kernel) (by decide +kernel) (by kernel_rfl)
theorem args_reversed_iter_1(a:Value):argsOk "reversed.__iter__" ⟨[a],[]⟩:=by unfold argsOk;kernel_rfl
theorem boot_reversed:bootBuiltins "reversed"=some (.type "reversed"):=by decide +kernel
end F
section
variable {prog:Program}{w:World}{A:Around}{E:Value->Shared->Prop}{s:Shared}
abbrev qaK(z:Str)(t:Tok)(i:Int):Obj:={ cls:=.type "reversed",data:=.fields #[.str z t,.int i 0] }
theorem vZ(z:Str)(t:Tok)(hz:z.length<=sizeLine):MeetsIn prog w (Builtin.«reversed.__new__» ⟨[.type "reversed",.str z t],[]⟩)
  (λ _ R s=>∀ tk,R (.ok (.ret (.ref s.heap.objs.size))) { s with heap:=s.heap.push (qaK z t ((z.length:Int)-1)),toks:=tk }):=
 .of_wp λ A R s h=>by
  have hn:=kB;unfold Builtin.«reversed.__new__»;refine Qs (Qo (newClass_reversed _) ?_)
  try dsimp only
  refine Qs (Qo (a:=()) (by first|rfl|kernel_rfl) ?_);refine Qs (Qo (a:=()) (by first|rfl|kernel_rfl) ?_)
  try dsimp only
  refine Qs (U2 (Qt s z t) F.no_str_reversed ?_)
  try dsimp only
  refine Qs ?_;show wpAny _ _ (isInstance (.str z t) (.type "dict") >>= _) _ _ s
  refine Qs (Ud (Qt s z t) F.sub_str_dict ?_);simp only[Y7,Qy];refine Qs (U2 (Qt s z t) slot_str_getitem.lookup ?_)
  try dsimp only
  refine U5 (λ _=>Qr ?_) (λ o7=>absurd (by decide +kernel) o7);simp only[Jw,Y7,Qy];refine Qs (len_str (by omega) ?_);refine Qs (Qr ?_);dsimp only;refine Qs (m:=newObj (.type "reversed") (.fields #[.str z t,rawInt ((z.length:Int)-1)])) (Zu ?_);exact Qr ⟨_,rfl,h _⟩
theorem vp{z:Str}{t:Tok}{Q:Value->Shared->Prop}(hz:z.length<=sizeLine)(h:∀ tk,Q (.ref s.heap.objs.size) { s with heap:=s.heap.push (qaK z t ((z.length:Int)-1)),toks:=tk }):
  wpAny (model prog w) A (call (.type "reversed") [.str z t]) Q E s:=
 callType_newIn F.called_reversed (by decide) (PySem.F.typeCall_reversed_1 _) (PySem.F.newCall_reversed_1 _) (λ obj=>PySem.F.args_object_init_2 obj _) PySem.F.entry_reversed_new (vZ z t hz)
  λ tk=>⟨⟨_,Yn _ rfl,rfl⟩,h tk⟩
theorem qe2{I:Addr}{z:Str}{t:Tok}{i:Nat}{c:Nat}{Q:Option Value->Shared->Prop}(h8:s.heap.get? I=some (qaK z t (i:Int)))(hz:z.length<=sizeLine)(hc:z.cps[i]?=some c)(hQ:∀ h' tk u,h'.get? I=some (qaK z t ((i:Int)-1))->Heap.SameBut I s.heap h'->Q (some (.str ⟨#[c]⟩ u)) { s with heap:=h',toks:=tk }):wpAny (model prog w) A (pyNext (.ref I)) Q E s:=by
 have hT:s.TypeIs (.ref I) "reversed":=⟨_,h8,rfl⟩;have hn:=kB;have hil:i<z.length:=(Array.getElem?_eq_some_iff.mp hc).1;unfold pyNext;refine Qs (J0 (X7 (name:=Str.ofString "__next__") hT F.slot_reversed_next
  (Ue F.slot_reversed_next hT F.entry_reversed_next ?_ (F.args_reversed_next_1 _))))
 unfold Builtin.«reversed.__next__»;refine Qs (Qo (a:=(Value.ref I,[])) rfl ?_)
 try dsimp only
 refine Qs (Qp h8 rfl (x:=.str z t) rfl ?_);refine Qs (Qp h8 rfl (x:=.int (i:Int) 0) rfl ?_);dsimp only;rw[Q8 (by omega)];refine Qs (U2 (Qt s z t) slot_str_getitem.lookup ?_);simp only[Option.isNone_some,Y7,Qy];refine Qs (wpAny_mkInt ?_);refine Qs (J0 (getItem_str (c:=c) (by
  have e1:decide ((i:Int) < -(2^63:Int))=false:=Uz (by omega);have e2:decide ((i:Int) ≥ 2^63)=false:=Uz (by omega);rw[e1,e2,Bool.or_false]) (by
   have e:seqIndex? (i:Int) z.length=some i:=by
    have e1:(if (i:Int)<0 then(i:Int)+(z.length:Int) else(i:Int))=(i:Int):=Q8 (by omega);unfold seqIndex?;dsimp only;rw[e1,Q7 (by
     rw[Z3];exact⟨Jj (by omega),Jj (by omega)⟩),Zf]
   rw[e];exact hc) ?_))
 dsimp only;refine Qs (Qp h8 rfl (x:=.int (i:Int) 0) rfl ?_);dsimp only;refine Qs (Zd h8 (by simp) λ h1 B4 T7=>?_);refine Qr ⟨_,rfl,Qr (hQ h1 _ _ ?_ T7)⟩;rw[B4];rfl
theorem qe3{I:Addr}{z:Str}{t:Tok}{Q:Option Value->Shared->Prop}(hh:A.handled=none)(h8:s.heap.get? I=some (qaK z t (-1)))(hQ:∀ h',Heap.ExtBut I s.heap h'->Q none { s with heap:=h' }):wpAny (model prog w) A (pyNext (.ref I)) Q E s:=by
 have hT:s.TypeIs (.ref I) "reversed":=⟨_,h8,rfl⟩;unfold pyNext;refine Qs (J0 (X7 (name:=Str.ofString "__next__") hT F.slot_reversed_next
  (Ue F.slot_reversed_next hT F.entry_reversed_next ?_ (F.args_reversed_next_1 _))))
 unfold Builtin.«reversed.__next__»;refine Qs (Qo (a:=(Value.ref I,[])) rfl ?_)
 try dsimp only
 refine Qs (Qp h8 rfl (x:=.str z t) rfl ?_);refine Qs (Qp h8 rfl (x:=.int (-1) 0) rfl ?_);dsimp only;rw[Q7 (by decide)];refine Qs (Qv ?_);refine Qs ?_;refine Qs (m:=setField (.ref I) 1 (rawInt (-1))) (Zd h8 (by simp) λ h1 B4 T7=>?_);refine wpAny_setField B4 rfl (by simp) ?_;refine Qs ?_;show wpAny _ _ (newExc (.type "StopIteration") [] >>= _) _ _ _
 refine Qs ?_;simp only[newExc,newTuple];refine Qs (Zu ?_ (by size_fits));refine Qs (m:=firstArgMember _ _) (Qo (a:=Value.none) (by first|rfl|(simp only[firstArgMember];rfl)) ?_);refine Zu ?_ (by size_fits);simp only[raiseNew];refine Qs (wpAny_handled ?_)
 first|rw[show A.in1.handled=none from hh]|rw[hh]
 refine Qs (Qr (wpAny_throw ?_));refine Qs (Ud (T:="StopIteration") (b:=true) ⟨_,Yn _ rfl,rfl⟩ Jn ?_);exact Qr (hQ _ ((((T7.trans (Ys ..))).extBut.push _).push _))
theorem qab{I:Addr}{z:Str}{t:Tok}{i:Int}{Q:Value->Shared->Prop}(h8:s.heap.get? I=some (qaK z t i))(h:Q (.ref I) s):wpAny (model prog w) A (pyIter (.ref I)) Q E s:=by
 have hT:s.TypeIs (.ref I) "reversed":=⟨_,h8,rfl⟩;refine wpAny_pyIter_slot hT F.slot_reversed_iter (Ue F.slot_reversed_iter hT F.entry_reversed_iter ?_ (F.args_reversed_iter_1 _));show wpAny _ _ (ret (.ref I)) _ _ s
 exact Qr ⟨_,rfl,"reversed",_,hT,F.slot_reversed_next.lookup,h⟩
def qe4(z:Str)(i:Nat):V:=.str ⟨#[z.cps.getD (z.length-1-i) 0]⟩
theorem Walks.rev(hh:A.handled=none)(I:Addr)(z:Str)(t:Tok)(hz:z.length<=sizeLine):
  Walks prog w A I [I] [I] z.length (λ i v=>qF (qe4 z i) v) (λ i h=>h.get? I=some (qaK z t ((z.length:Int)-1-i))) where
 sub:=λ _ hb=>hb
 frame:=λ _ _ _ st hk=>hk I (by simp) _ st
 item:=λ i s Q E hi st hQ=>by
  have e:(z.length:Int)-1-i=((z.length-1-i:Nat):Int):=by omega
  rw[e] at st;have d4:z.length-1-i<z.cps.size:=by show _<z.length;omega
  refine qe2 st hz (c:=z.cps.getD (z.length-1-i) 0) ?_ λ h' tk u B5 u8=>?_
  ·rw[Xe,Xo d4];rfl
  ·refine hQ _ h' tk ⟨u,rfl⟩ ?_ λ b o hb e=>u8.extBut b o (λ h=>hb (by simp[h])) e
   rw[B5];congr 1
   have:((z.length-1-i:Nat):Int)-1=(z.length:Int)-1-((i+1:Nat):Int):=by omega
   rw[this]
 done:=λ s Q E st hQ=>by
  have e:(z.length:Int)-1-(z.length:Nat)=-1:=by omega
  rw[e] at st;exact qe3 hh st λ h' bS=>hQ h' s.toks λ b o hb e=>bS b o (λ h=>hb (by simp[h])) e
 self:=λ _ _ _ _ st hQ=>qab st hQ
end
section
variable {X:Cx}
def qiX(ta:TA):TI:=λ σ H R=>ta σ H λ vs H1=>∃ z,vs=[.str z]/\z.length<=sizeLine/\R (ItV z.length (qe4 z)) H1
theorem qho{tg l:Expr}{ta:TA}{p pos:Pos}(hg:Gl X "reversed")(hm:X.mg "reversed"=none)(ha:PA X [l] ta)(hs:starEach [l] X.env=[(false,eval l X.env)]:=by rfl):
  PI X tg (.Call (.Name "reversed" p) [l] [] pos) (qiX ta):=by
 intro pins s σ H R I h;refine qcb hg hm F.boot_reversed ha I h (λ us s1 vs H1 I1 r1 q1=>?_) (hs:=hs);obtain⟨z,rfl,hz,q⟩:=q1;obtain⟨u,rfl,ru⟩:=yn r1;obtain⟨t,rfl⟩:=ru;refine vp hz λ tk=>?_
 have o6:(s1.heap.push (qaK z t ((z.length:Int)-1))).get? s1.heap.objs.size=some (qaK z t ((z.length:Int)-1)):=Yn _ rfl;refine qab o6 ⟨s1.heap.objs.size,[s1.heap.objs.size],_,_,H1,rfl,I1.kept (t':=tk) λ b o e=>X9 _ e,
  j5 (qe4 z) (λ A hA=>Walks.rev hA _ z t hz) (λ i v h=>h) (λ i h st=>⟨_,_,_,st,rfl,rfl,by decide⟩) (λ _ _ _ _ _ st h=>qab st h),?_,λ b hb=>?_,q⟩
 ·show(s1.heap.push _).get? _=some (qaK z t ((z.length:Int)-1-((0:Nat):Int)))
  rw[o6];congr 1;rw[show((0:Nat):Int)=0 from rfl,Int.sub_zero]
 ·have e:b=s1.heap.objs.size:=by simpa using hb
  subst e;exact I1.fpOk (Ql _) (I1.hok.fresh (Ql _))
end
namespace F
theorem lk_list_keys:typeLookup (.type "list") "keys"=pure none:=by rw[U4,XZ];kernel_rfl
theorem entry_dict_update_loop:entryFor table "dict.update.loop"=some Builtin.«dict.update.loop»:=entryFor_of_fast (by kernel_rfl)
theorem plain_dict_update_loop:plainId "dict.update.loop"=true:=by decide +kernel
theorem boot_dict:bootBuiltins "dict"=some (.type "dict"):=by decide +kernel
end F
section
variable {prog:Program}{w:World}{A:Around}{E:Value->Shared->Prop}{s:Shared}
theorem qd6{a:Addr}{o:Obj}{xs:Array Value}{k:Nat}{Q:Option Value->Shared->Prop}(hx:s.heap.get? a=some o)(hc:o.cls=.type "list")(fV:o.data=.seq xs k)(hd:o.dict=none)(hA:A.handled=none)(h:∀ h' tk,(∀ b o,s.heap.get? b=some o->h'.get? b=some o)->Q none { s with heap:=h',toks:=tk }):wpAny (model prog w) A (getAttr? (.ref a) "keys") Q E s:=by
 obtain⟨c,dct,dat,sl⟩:=o;simp only at hc fV hd;subst hc fV hd;obtain⟨hp,g,d,tk,os⟩:=s;have hT:∀ G2,(⟨hp,g,d,G2,os⟩:Shared).TypeIs (.ref a) "list":=λ _=>⟨_,hx,rfl⟩
 have f1:=sub_AttributeError;have f3:=PySem.F.slot_list_getattribute.lookup;have f4:=PySem.F.slot_list_getattribute.bind (.ref a);have f5:=am_list_getattr_none;have hsz:("keys":Str).length+100<=sizeLine:=by decide
 unfold getAttr? getAttrBy? getAttrBy
 repeat (any_goals (first | assumption | exact hT _ | ((with_reducible show wpAny _ _ (call (Value.builtin "list.__getattribute__") _ _) _ _ _);refine Qu PySem.F.slot_list_getattribute (hT _) am_entry_list_getattribute (PySem.F.args_list_getattribute_2 _ _) (meets_getattribute_miss_list a xs k sl "keys" _ F.lk_list_keys (by decide +kernel) hsz) ⟨hx,hA,λ h' G2 e i5=>?_⟩) | wp_step))
 obtain⟨t',u',he⟩:=i5.there;show wpAny _ _ (getattributeRaised _ _ _ _ _ _ _) _ _ _
 unfold getattributeRaised
 repeat (any_goals (first|assumption|wp_step))
 exact h _ _ i5.keeps
def kvK(l:List (Str×V)):List (Key×V):=l.map λ x=>(.inr x.1,x.2)
theorem vN(a b:List (Key×V))(x:Key×V):qu a (b++[x])=zU (qu a b) x.1 x.2:=by
 unfold qu;rw[Zp];rfl
theorem qd7{I l D:Addr}{items:Array Value}{qv:List (Str×V)}{s0:Shared}{R:Result->Shared->Prop}(hh:A.handled=none)(hlI:l≠I)(wS:D≠I)(hDl:D≠l)(hn:items.size=qv.length)(hsz:qv.length<=sizeLine)(hp:∀(j:Nat) kv,qv[j]?=some kv->∃ p its tk u,items[j]?=some (.ref p)/\s0.heap.IsTuple p its/\its=#[.str kv.1 tk,u]/\qF kv.2 u/\p≠D/\p≠I)(hR:∀ s' u6,s'.os=s0.os->s'.gens=s0.gens->s'.drawn=s0.drawn->(∀ b o,b≠D->b≠I->s0.heap.get? b=some o->s'.heap.get? b=some o)->s'.heap.DictOf (qk prog w) D u6->KV (qu [] (kvK qv)) u6->R (.ok (.ret .none)) s'):
  ∀(k i:Nat)(s:Shared)(u6:List (Key×Value))(ti:Tok),qv.length-i=k->i<=qv.length->s.os=s0.os->s.gens=s0.gens->s.drawn=s0.drawn->(∀ b o,b≠D->b≠I->s0.heap.get? b=some o->s.heap.get? b=some o)->s.heap.IsListIter I l i->s.heap.IsList l items ->
   s.heap.DictOf (qk prog w) D u6->KV (qu [] (kvK (qv.take i))) u6->u6.length<=i->codeAny (model prog w) A (.builtin "dict.update.loop" ⟨[.ref D,.ref I,.int i ti,.none],[]⟩) R s:=by
 intro k;induction k with
 |zero =>
  intro i s u6 ti hk hi e1 e2 e3 N1 h8 hl hD E7 hcl;have L9:i=qv.length:=by omega
  subst L9;refine U3 F.entry_dict_update_loop ?_;rw[Ye F.plain_dict_update_loop _];unfold Builtin.«dict.update.loop»;refine Qs ((Walks.list (A:=A.in1) (by simpa using hh) I l hlI items).done s _ _ (by rw[hn];exact⟨h8,hl⟩) λ h' tk A2=>?_);show wpAny _ _ (Builtin.Dict.addKeywords D [] >>= _) _ _ _
  refine Qs (Qr (Qr ?_));refine hR _ u6 e1 e2 e3 (λ b o M1 G1 e=>A2 b o (by simpa using G1) (N1 b o M1 G1 e)) ?_ (by rw[Z8] at E7;exact E7);obtain⟨o,es,ep,ho,rest⟩:=hD;exact⟨o,es,ep,A2 D o (by simpa using wS) ho,rest⟩
 |succ k ih =>
  intro i s u6 ti hk hi e1 e2 e3 N1 h8 hl hD E7 hcl;have d4:i<qv.length:=by omega
  refine U3 F.entry_dict_update_loop ?_;rw[Ye F.plain_dict_update_loop _];unfold Builtin.«dict.update.loop»;refine Qs ((Walks.list (A:=A.in1) (by simpa using hh) I l hlI items).item i s _ _ (by omega) ⟨h8,hl⟩ λ v h1 tk hP t9 A2=>?_);obtain⟨p,its,G2,u,ei,hT,rfl,ru,hpD,hpI⟩:=hp i qv[i] (Xv d4);have ev:v=.ref p:=by rw[ei] at hP;exact(Option.some.inj hP).symm
  subst ev;obtain⟨ot,aH,mC,nt,V1⟩:=hT;have fE:h1.get? p=some ot:=A2 p ot (by simpa using hpI) (N1 p ot hpD hpI aH);have hD1:h1.DictOf (qk prog w) D u6:=by
   obtain⟨o,es,ep,ho,rest⟩:=hD;exact⟨o,es,ep,A2 D o (by simpa using wS) ho,rest⟩
  refine Qs (Jy ?_);refine Qs (wpAny_tryCatch ?_);unfold Builtin.Dict.pairItems;refine Qs (Qj (T:="tuple") ⟨ot,fE,mC⟩ ?_);simp only[show(Value.type "tuple" == Value.type "list")=false by decide,show(Value.type "tuple" == Value.type "tuple")=true by decide,Bool.or_true,Ju,Q4];refine Qs (Jo fE V1 ?_);refine Qr ?_;show wpAny _ _ (holding _ (dictSet D (.str qv[i].1 G2) u)) _ _ _
  refine Jy (wpAny_dictSet_pairs (hsz:=by omega) (k:=.inr qv[i].1) (qV prog w _ G2) hD1 λ h2 N2 i3=>?_);refine Qr ⟨Jz F.plain_dict_update_loop _,?_⟩;refine ih (i+1) { s with heap:=h2,toks:=tk+1 } (stored u6 (.inr qv[i].1) u) 0 (by omega) d4 e1 e2 e3 (λ b o M1 G1 e=>(i3.2 b M1).trans (A2 b o (by simpa using G1) (N1 b o M1 G1 e))) ?_ ?_ N2 ?_ ?_
  ·exact t9.1.at λ o e=>(i3.2 I (Q2 wS)).trans e
  ·exact t9.2.at λ o e=>(i3.2 l (Q2 hDl)).trans e
  ·have et:qv.take (i+1)=qv.take i++[qv[i]]:=by rw[Jc,Xv d4];rfl
   rw[et];unfold kvK;rw[Ur,Jv,Qa,vN];exact E7.put _ ru
  ·have:=E7.length
   have h2:=(E7.put (.inr qv[i].1) ru).length;rw[<- h2];have h3:=zG (qu [] (kvK (qv.take i))) (.inr qv[i].1) qv[i].2;omega
end
section
variable {X:Cx}
theorem vO{α β:Type}{F:α->β->Prop}:∀{xs:List α}{l:List β},Paired F xs l->∀(k:Nat)(b:β),l[k]?=some b->∃ a,xs[k]?=some a/\F a b
 |_,_,.nil,k,b,h=>by simp at h
 |_,_,.cons r t,0,b,h=>by simp at h;subst h;exact⟨_,rfl,r⟩
 |_,_,.cons r t,k+1,b,h=>by
  obtain⟨a,h1,h2⟩:=vO t k b (by simpa using h);exact⟨a,by simpa using h1,h2⟩
def qhp(K:W.Frag):List V->Hp->VK->Prop:=λ xs H Q=>∃(p:Addr)(ps:List Addr)(qv:List (Str×V)),xs=[.ref p]/\SqL K H p (ps.map V.ref)/\Paired (λ a kv=>SqT K H a [.str kv.1,kv.2]) ps qv /\
 ∀ d,H d=none->Q (.ref d) (upd H d (.dK (qu [] (kvK qv))))
theorem qck(hc:X.calm=true):yB X (.type "dict") (qhp X.K):=by
 intro pins s σ H xs us Q I r h;obtain⟨l,ps,qv,rfl,hq,hpp,q⟩:=h;obtain⟨u,rfl,ru⟩:=yn r;cases ru
 obtain⟨its,rv,⟨ol,nl,hol,hcl,hdl,hsl⟩,hz⟩:=I.list hq;have hA:=I.ok.hd hc;have fN:l<s.heap.objs.size:=J5 hol;have d5:ps.length=qv.length:=hpp.length;have uS:its.length=qv.length:=by rw[<- rv.length,Ul];exact d5
 have hsz:qv.length<=sizeLine:=by rw[Ul] at hz;omega
 refine callType_codes (Q₁:=λ obj s₁=>obj=.ref s.heap.objs.size/\s₁={ s with heap:=s.heap.push { cls:=.type "dict",data:=.dict #[] } }) PySem.F.kt_called_dict (PySem.F.kt_typeCall_dict_1 _) PySem.F.entry_dict_init (kt_code_dict_new _ ⟨rfl,rfl⟩) ?_;rintro obj s₁ ⟨rfl,rfl⟩;have o6:(s.heap.push { cls:=.type "dict",data:=.dict #[] }).DictOf (qk X.prog X.w) s.heap.objs.size []:=Heap.DictOf.new s.heap;refine⟨o6.typeIs,PySem.F.args_dict_init_2 _ _,?_⟩;unfold Builtin.«dict.__init__»;refine Qs ?_;unfold Builtin.Dict.selfAndRest;refine Qs (wpAny_notOrdered_dict o6.typeIs ?_);show wpAny _ _ (pure (s.heap.objs.size,[Value.ref l])) _ _ _
 refine Qr ?_;show wpAny _ _ (Builtin.Dict.updateFrom "dict.__init__" s.heap.objs.size (.ref l) [] .none) _ _ _
 unfold Builtin.Dict.updateFrom;have bL:(s.heap.push { cls:=.type "dict",data:=.dict #[] }).get? l=some ol:=X9 _ hol;refine Qs (Qj (T:="list") ⟨ol,bL,hcl⟩ ?_);rw[Q7 (by decide)];refine Qs (qd6 (s:={ s with heap:=s.heap.push { cls:=.type "dict",data:=.dict #[] } }) bL hcl hsl hdl (by simpa using hA) λ h2 dI R7=>?_);simp only[Option.isNone_none,Q4];refine Qs (Qv ?_);have fH:h2.get? l=some ol:=R7 l ol bL;have F0:h2.IsList l its.toArray:=⟨ol,fH,hcl,nl,hsl⟩;have N2:h2.DictOf (qk X.prog X.w) s.heap.objs.size []:=by
  obtain⟨o,es,ep,ho,rest⟩:=o6;exact⟨o,es,ep,R7 _ o ho,rest⟩
 have O9:s.heap.objs.size<h2.objs.size:=by
  obtain⟨o,es,ep,ho,rest⟩:=N2;exact J5 ho
 have uP:l<h2.objs.size:=J5 fH;refine Qs (Zt (s:={ s with heap:=h2,toks:=dI }) F0 ?_);refine Qr ⟨Jz F.plain_dict_update_loop _,?_⟩;have cR:∀ b o,s.heap.get? b=some o->(h2.push { cls:=.type "list_iterator",data:=.fields #[.ref l,.int 0 0] }).get? b=some o:=λ b o e=>X9 _ (R7 b o (X9 _ e))
 refine qd7 (A:=X.A.in1) (I:=h2.objs.size) (l:=l) (D:=s.heap.objs.size) (items:=its.toArray) (qv:=qv) (s0:={ s with heap:=h2.push { cls:=.type "list_iterator",data:=.fields #[.ref l,.int 0 0] },toks:=dI })
  (by simpa using hA) (J6 uP) (J6 O9) (J9 fN) (by rw[Zg];exact uS) hsz ?_ ?_ qv.length 0 _ [] 0 (by omega) (Qm _) rfl rfl rfl (λ b o _ _ e=>e) ?_ ?_ ?_ (by rw[Jd];exact .nil) (Ql _)
 ·intro j kv uR;obtain⟨p,uB,hT⟩:=vO hpp j kv uR;obtain⟨tis,rt,pt,_⟩:=I.tuple hT;obtain⟨u1,u2,e2,r1,r2⟩:=qaQ rt;obtain⟨t1,rfl⟩:=r1;subst e2;obtain⟨ot,aH,mC,nt,V1⟩:=pt;have fD:p<s.heap.objs.size:=J5 aH;obtain⟨v,hv,rvv⟩:=rv.get (i:=j) (x:=.ref p) (by rw[Ze,uB];rfl);cases rvv
  refine⟨p,_,t1,u2,by simpa using hv,⟨ot,cR p ot aH,mC,nt,V1⟩,rfl,r2,J6 fD,J6 (Nat.lt_trans fD O9)⟩
 ·intro s' u6 e1 e2 e3 N1 hD E7;refine⟨rfl,?_⟩;have hf:=I.hok.fresh (Ql s.heap.objs.size);have fQ:∀ b o,s.heap.get? b=some o->s'.heap.get? b=some o:=λ b o e=>N1 b o (J6 (J5 e)) (J6 (Nat.lt_trans (J5 e) O9)) (cR b o e)
  have uL:(qu [] (kvK qv)).length<=sizeLine:=by
   have gen:∀(ls d6:List (Key×V)),(qu d6 ls).length<=d6.length+ls.length:=by
    intro ls;induction ls with
    |nil=>intro d6;exact Ql _
    |cons x ls ih =>
     intro d6;show(qu (zU d6 x.1 x.2) ls).length<=_
     have:=ih (zU d6 x.1 x.2)
     have h3:=zG d6 x.1 x.2;rw[Zz];omega
   have:=gen (kvK qv) []
   have e:(kvK qv).length=qv.length:=by unfold kvK;rw[Ul]
   simp at this;omega
  refine⟨.ref s.heap.objs.size,_,I.call' (s':=s') (ch:=[]) e1 (Un.laid fQ (Ql _) hf) (I.hok.laid fQ (Ql _) (kG uL (Yy.mpr (Q2 (J6 I.big))) E7 hD)) (by rw[e2];exact I.bare) (λ _ z=>nomatch z),rfl,q _ hf⟩
 ·exact⟨_,Yn _ rfl,rfl,rfl⟩
 ·exact F0.push _
 ·obtain⟨o,es,ep,ho,rest⟩:=N2;exact⟨o,es,ep,X9 _ ho,rest⟩
theorem vP{pins:List (Addr×Obj)}{σ:St}{H2:Hp}{s2:Shared}{NY:List Str}{o:Nat}{caps:List Nat}{scope:Scope}{fp:List Addr}{it:Addr}{tn:Nat->Heap->Prop}{adv:Adv}{stop:Nat->Hp->Prop}{r6 tg iter:Expr}{p4:List Expr}{pos:Pos}{tt:TT}{te:TE}{Q:VK}{R:Result->Shared->Prop}(S:CompScope X NY o caps scope)(I2:Inv X pins σ H2 s2)(B0:∀ b∈fp,yO X pins H2 b)(d9:tn 0 s2.heap)(Wk:∀ C,Walk (q8 X NY scope C s2 H2 fp pins) tg fp it tn adv stop)(ht:∀ C,PTs (q8 X NY scope C s2 H2 fp pins) p4 tt)(he:∀ C,PE (q8 X NY scope C s2 H2 fp pins) r6 te)(h:yG o caps adv stop tt te σ H2 Q)(fin:∀(s4:Shared)(H3:Hp)(m:Str->Option Value),s4.heap.Ns (s2.heap.objs.size+1) m->Inv X pins σ H3 s4->H3 (s2.heap.objs.size+1)=none->Q (.ref s2.heap.objs.size) H3->R (.ok .next) s4):
  wpAny (model X.prog X.w) X.A (newList []) (λ d6 s₃=>wpAny (model X.prog X.w) X.A (newFunctionEnv scope X.env.globals (jT X.env scope.names []) [] X.env.qual none .none (some X.env)) (λ x8 s₄ =>
   d6=.ref s2.heap.objs.size/\x8.locals=s2.heap.objs.size+1/\codeAny (model X.prog X.w) X.A (.compStart (.ListComp r6 [⟨tg,iter,p4,0⟩] scope pos) 0 (.ref it) d6 { x8 with scope:=relabel scope X.env }) R s₄) X.xe s₃) X.xe s2:=by
 exact qb9 S I2 B0 d9 Wk ht he h λ s4 H3 m hn tL hf q=>fin s4 H3 m hn (tL _ ⟨rfl,λ _ _=>rfl⟩) hf q
theorem vq{pins:List (Addr×Obj)}{σ:St}{H2:Hp}{s2:Shared}{i:Nat}{x:Str}{Q:St->Hp->Prop}{R:Flow->Shared->Prop}(I2:Inv X pins σ H2 s2)(hN:X.N.Nodup)(hi:X.N[i]?=some x)(hx:X.env.scope.names.lookup x=some .local)(hR:∀ s H,Inv X pins (σ.set i (some (.ref s2.heap.objs.size))) H s->Q (σ.set i (some (.ref s2.heap.objs.size))) H->R .next s){s4:Shared}{H3:Hp}{m:Str->Option Value}{o9:Pos}(hn:s4.heap.Ns (s2.heap.objs.size+1) m)(I4:Inv X pins σ H3 s4)(hf:H3 (s2.heap.objs.size+1)=none)(q:Q (σ.set i (some (.ref s2.heap.objs.size))) H3):
  wpAny (model X.prog X.w) X.A (assign (.Name x o9) X.env (.ref s2.heap.objs.size)) (λ _ t8=>∃ m,t8.heap.Ns (s2.heap.objs.size+1) m/\∀ h',Heap.SameBut (s2.heap.objs.size+1) t8.heap h'->R .next { t8 with heap:=h' }) X.xe s4:=by
 have hCL:=J9 (Zl I2.lt);have E5:∀ y c,X.env.cells.lookup y=some c->c≠s2.heap.objs.size+1:=λ y c e=>by
  obtain⟨v,o,ho,_⟩:=I2.cell y c e;exact J6 (Zl (J5 ho))
 refine wpAny_assign_Name (qaO (v:=.ref s2.heap.objs.size) I4 hN hi (.inl hx) rfl (λ s5 I5 L0=>?_) (.inr hx));obtain⟨a,sb,ha⟩:=L0;have hCa:s2.heap.objs.size+1≠a:=by
  rcases ha with e|e
  ·rw[e];exact hCL
  ·exact Q2 (E5 x a e)
 refine⟨m,hn.sameBut sb hCa,λ h' hs=>hR _ H3 ?_ q⟩;refine I5.turned (λ b o hb e=>(hs.2 b hb).trans e) hf hCL (.inr (Nat.le_succ_of_le I2.sz)) E5 λ p hp=>?_
 obtain⟨e,_⟩:=I2.pin p hp;exact J6 (Zl (J5 e))
theorem qby{i:Nat}{x:Str}{o9 pos:Pos}{r6 iter tg:Expr}{p4:List Expr}{scope:Scope}{cpos:Pos}{NY:List Str}{o:Nat}{caps:List Nat}{wi:TI}{g:TG}{tt:TT}{te:TE}(hN:X.N.Nodup)(hi:X.N[i]?=some x)(hx:X.env.scope.names.lookup x=some .local)(S:CompScope X NY o caps scope)(hc:X.calm=true)(h8:PI X tg iter wi)(hg:∀ C s H fp pins,PG (q8 X NY scope C s H fp pins) tg g)(ht:∀ C s H fp pins,PTs (q8 X NY scope C s H fp pins) p4 tt)(he:∀ C s H fp pins,PE (q8 X NY scope C s H fp pins) r6 te)(tV:swapsWith (.ListComp r6 [⟨tg,iter,p4,0⟩] scope cpos) (some (.Name x o9)) pos.line X.env=pure true:=by rfl)(hs:∀ x,foldedSetIterable iter X.env x=pure x:=by intro _;rfl):PS X (.Assign [.Name x o9] (.ListComp r6 [⟨tg,iter,p4,0⟩] scope cpos) pos) (qf2 (qgT o caps wi g tt te) (qdp i)):=by
 intro pins s σ H D I h;rw[exec_Assign_Name_used _ _ _ _ tV];refine Qs (wpAny_standAt (Qs ?_));refine Qs (Xy rfl hs (yd λ y hy e=>I.ok.has _ (S.frees y hy e)) S.kind S.locs ?_);refine thn (h8 pins s σ H _ I h) λ v s1 h1=>thn h1 λ T6 s2 h2=>?_
 obtain⟨it,fp,tn,J,H2,e,I2,T,d9,f2,hr⟩:=h2;subst e;refine thn (vP (iter:=iter) (pos:=cpos) (R:=λ r s'=>r=.ok .next/\wpAny (model X.prog X.w) X.A (assign (.Name x o9) X.env (.ref s2.heap.objs.size)) (λ _ t8=>∃ m,t8.heap.Ns (s2.heap.objs.size+1) m/\∀ h',Heap.SameBut (s2.heap.objs.size+1) t8.heap h'->SP X pins D .next { t8 with heap:=h' }) X.xe s')
  S I2 f2 d9 (λ C=>Turn.walk hc T (hg _ _ _ _ _)) (λ C=>ht _ _ _ _ _) (λ C=>he _ _ _ _ _) hr λ s4 H3 m hn I4 hf q=>⟨rfl,vq I2 hN hi hx (λ s H I q=>⟨_,H,I,q⟩) hn I4 hf q⟩) λ d6 s3 h3=>thn h3 λ x8 s4 h4=>?_
 obtain⟨rfl,eC,h4⟩:=h4;refine Qi h4 λ r s5 ⟨er,h5⟩=>?_
 subst er;rw[eC];refine thn h5 λ _ s6 ⟨m,hn,h6⟩=>⟨m,hn,λ h' u8=>?_⟩
 exact Qr (Qr (h6 h' u8))
theorem qe5{i:Nat}{x:Str}{o9 pos:Pos}{r6 iter:Expr}{es:List Expr}{k n:Nat}{i9:Pos}{p4:List Expr}{scope:Scope}{cpos:Pos}{NY:List Str}{o:Nat}{caps:List Nat}{wi:TI2}{t:TGs}{tt:TT}{te:TE}(hN:X.N.Nodup)(hi:X.N[i]?=some x)(hx:X.env.scope.names.lookup x=some .local)(S:CompScope X NY o caps scope)(hc:X.calm=true)(h8:PI2 X (.Tuple es k i9) iter wi)(hg:∀ C s H fp pins,PGs (q8 X NY scope C s H fp pins) es t)(hn:∀ env,(assignEach es env).length=n)(t9:∀ env,(assignEach es env).findIdx? (·.1)=none)(ht:∀ C s H fp pins,PTs (q8 X NY scope C s H fp pins) p4 tt)(he:∀ C s H fp pins,PE (q8 X NY scope C s H fp pins) r6 te)(tV:swapsWith (.ListComp r6 [⟨.Tuple es k i9,iter,p4,0⟩] scope cpos) (some (.Name x o9)) pos.line X.env=pure true:=by rfl)(hs:∀ x,foldedSetIterable iter X.env x=pure x:=by intro _;rfl):PS X (.Assign [.Name x o9] (.ListComp r6 [⟨.Tuple es k i9,iter,p4,0⟩] scope cpos) pos) (qf2 (qeS o caps wi n t tt te) (qdp i)):=by
 intro pins s σ H D I h;rw[exec_Assign_Name_used _ _ _ _ tV];refine Qs (wpAny_standAt (Qs ?_));refine Qs (Xy rfl hs (yd λ y hy e=>I.ok.has _ (S.frees y hy e)) S.kind S.locs ?_);refine thn (h8 pins s σ H _ I h) λ v s1 h1=>thn h1 λ T6 s2 h2=>?_
 obtain⟨it,fp,tn,J,H2,e,I2,T,d9,f2,hr⟩:=h2;subst e;refine thn (vP (iter:=iter) (pos:=cpos) (R:=λ r s'=>r=.ok .next/\wpAny (model X.prog X.w) X.A (assign (.Name x o9) X.env (.ref s2.heap.objs.size)) (λ _ t8=>∃ m,t8.heap.Ns (s2.heap.objs.size+1) m/\∀ h',Heap.SameBut (s2.heap.objs.size+1) t8.heap h'->SP X pins D .next { t8 with heap:=h' }) X.xe s')
  S I2 f2 d9 (λ C=>Turn2.walk hc T (hg _ _ _ _ _) (hn _) (t9 _)) (λ C=>ht _ _ _ _ _) (λ C=>he _ _ _ _ _) hr λ s4 H3 m hn I4 hf q=>⟨rfl,vq I2 hN hi hx (λ s H I q=>⟨_,H,I,q⟩) hn I4 hf q⟩) λ d6 s3 h3=>thn h3 λ x8 s4 h4=>?_
 obtain⟨rfl,eC,h4⟩:=h4;refine Qi h4 λ r s5 ⟨er,h5⟩=>?_
 subst er;rw[eC];refine thn h5 λ _ s6 ⟨m,hn,h6⟩=>⟨m,hn,λ h' u8=>?_⟩
 exact Qr (Qr (h6 h' u8))
end
theorem ql.seqT{K:W.Frag}{H H':Hp}{a:Addr}{xs:List V}(e:ql H H')(h:SqT K H a xs):SqT K H' a xs:=by
 rcases h with(h|⟨o,h⟩)|h
 ·exact .inl (.inl (e _ _ h))
 ·exact .inl (.inr ⟨o,e _ _ h⟩)
 ·exact .inr h
theorem ql.up{H:Hp}{p:Addr}(h:H p=none){o:HO}:ql H (upd H p o):=qcd h o
theorem ql.to{H H1:Hp}{p:Addr}(s:ql H H1)(h:H1 p=none){o:HO}:ql H (upd H1 p o):=s.trans (qcd h o)
theorem ql.at{H H1:Hp}{p:Addr}(s:ql H H1)(h:H p=none){o:HO}:ql H (upd H1 p o):=λ b u q=>by rw[qg (qr q h)];exact s b u q
theorem qcS{X:Cx}{NY:List Str}{o:Nat}{caps:List Nat}{scope:Scope}(frees:List Str)(k:scope.kind=.function)(nd:NY.Nodup)(nc:scope.names.all (λ y=>y.2 != .cell)=true)(lc:scope.names.all (λ y=>y.2 != .local || scope.names.lookup y.1 == some .local)=true)(fr:scope.names.all (λ y=>y.2 != .free || frees.contains y.1)=true)(fk:∀ x∈frees,X.env.kindOf x=some .cell∨X.env.kindOf x=some .free)(cap:∀(j i:Nat),caps[j]?=some i->∃ x,NY[o+j]?=some x/\X.N[i]?=some x/\scope.names.lookup x=some .free)(len:NY.length=o+caps.length):CompScope X NY o caps scope where
 kind:=k
 nd:=nd
 nocell:=λ y hy e=>by have:=Z1.mp nc y hy;rw[e] at this;cases this
 frees:=λ y hy e=>by
  have:=Z1.mp fr y hy
  rw[e] at this;exact fk _ (XM.mp this)
 locs:=λ y hy e=>by
  have:=Z1.mp lc y hy
  rw[e] at this;simpa using this
 capOk:=cap
 len:=len
theorem csc{X:Cx}{NY:List Str}{o:Nat}{caps:List Nat}{scope:Scope}(frees:List Str)(k:scope.kind=.function)(fk:∀ x∈frees,X.env.kindOf x=some .cell∨X.env.kindOf x=some .free)(cap:∀(j i:Nat),caps[j]?=some i->∃ x,NY[o+j]?=some x/\X.N[i]?=some x/\scope.names.lookup x=some .free)(len:NY.length=o+caps.length)(h:NY.Nodup ∧ scope.names.all (λ y=>y.2 != .cell)=true ∧ scope.names.all (λ y=>y.2 != .local || scope.names.lookup y.1 == some .local)=true ∧ scope.names.all (λ y=>y.2 != .free || frees.contains y.1)=true:=by decide +kernel):CompScope X NY o caps scope:=qcS frees k h.1 h.2.1 h.2.2.1 h.2.2.2 fk cap len
theorem yY{X:Cx}{NY:List Str}{o:Nat}{scope:Scope}:∀(j i:Nat),([]:List Nat)[j]?=some i->∃ x,NY[o+j]?=some x/\X.N[i]?=some x/\scope.names.lookup x=some .free:=λ j i h=>by simp at h
theorem vI{X:Cx}{NY:List Str}{o a:Nat}{as:List Nat}{scope:Scope}{x:Str}(h0:NY[o]?=some x)(h1:X.N[a]?=some x)(h2:scope.names.lookup x=some .free)(hr:∀(j i:Nat),as[j]?=some i->∃ x,NY[o+1+j]?=some x/\X.N[i]?=some x/\scope.names.lookup x=some .free):
  ∀(j i:Nat),(a::as)[j]?=some i->∃ x,NY[o+j]?=some x/\X.N[i]?=some x/\scope.names.lookup x=some .free
 |0,i,h=>by simp at h;subst h;exact⟨x,h0,h1,h2⟩
 |j+1,i,h=>by
  obtain⟨y,q⟩:=hr j i (by simpa using h);exact⟨y,by rw[show o+(j+1)=o+1+j by omega];exact q.1,q.2⟩
theorem qbz{o:Nat}{caps:List Nat}{adv:Adv}{stop:Nat->Hp->Prop}{tt:TT}{te:TE}{σ:St}{H1:Hp}{Q:VK}(n:Nat)(out:Nat->List V)(h0:out 0=[])(d5:∀ i,i<n->(out i).length<sizeLine)(n5:∀(i:Nat)(H:Hp)(D:Addr)(Y:V->Hp->Prop)(Z:Hp->Prop),i<n->H1 D=none->H D=some (.lst (out i))->ql H1 H ->
   (∀ y H4,H4 D=some (.lst (out i))->ql H1 H4->out (i+1)=out i++[y]->Y y H4)->(∀ H3,H3 D=some (.lst (out i))->ql H1 H3->out (i+1)=out i->Z H3) ->
   adv i (stY o caps σ) H λ σ2 H2=>Kp o (stY o caps σ) σ2/\tt σ2 H2 λ b H3=>if b=true then te σ2 H3 Y else Z H3)(dJ:∀ H,ql H1 H->stop n H)(fin:∀(D:Addr)(H:Hp),H1 D=none->ql H1 H->H D=some (.lst (out n))->Q (.ref D) H):yG o caps adv stop tt te σ H1 Q:=by
 intro D hD;refine⟨λ i m ys H=>m=n-i/\i<=n/\ys=out i/\H D=some (.lst (out i))/\ql H1 H,⟨n,by simp,Qm _,h0.symm,by rw[h0];exact qe,ql.up hD⟩,?_⟩;rintro i m ys H ⟨rfl,hi,rfl,hH,sm⟩;by_cases d4:i<n
 ·refine .inr (n5 i H D _ _ d4 hD hH sm (λ y H4 e1 e2 e3=>⟨e1,d5 i d4,n-(i+1),by omega,rfl,d4,e3.symm,by rw[e3];exact qe,e2.at hD⟩) (λ H3 e1 e2 e3=>⟨n-(i+1),by omega,rfl,d4,e3.symm,by rw[e3];exact e1,e2⟩))
 ·have e:i=n:=by omega
  subst e;exact .inl ⟨dJ H sm,fin D H hD sm hH⟩
theorem yg{o:Nat}{caps:List Nat}{adv:Adv}{stop:Nat->Hp->Prop}{tt:TT}{te:TE}{σ:St}{H1:Hp}{Q:VK}(n:Nat)(R:Nat->List V->Hp->Prop)(h0:∀ D,H1 D=none->R 0 [] (upd H1 D (.lst [])))(d5:∀ i ys H,i<n->R i ys H->ys.length<sizeLine)(n5:∀(i:Nat)(ys:List V)(H:Hp)(D:Addr)(Y:V->Hp->Prop)(Z:Hp->Prop),i<n->H1 D=none->H D=some (.lst ys)->ql H1 H->R i ys H ->
   (∀ y H4,H4 D=some (.lst ys)->ql H1 H4->R (i+1) (ys++[y]) (upd H4 D (.lst (ys++[y])))->Y y H4)->(∀ H3,H3 D=some (.lst ys)->ql H1 H3->R (i+1) ys H3->Z H3) ->
   adv i (stY o caps σ) H λ σ2 H2=>Kp o (stY o caps σ) σ2/\tt σ2 H2 λ b H3=>if b=true then te σ2 H3 Y else Z H3)(dJ:∀ H,ql H1 H->stop n H)(fin:∀(D:Addr)(H:Hp)(ys:List V),H1 D=none->ql H1 H->H D=some (.lst ys)->R n ys H->Q (.ref D) H):yG o caps adv stop tt te σ H1 Q:=by
 intro D hD;refine⟨λ i m ys H=>m=n-i/\i<=n/\H D=some (.lst ys)/\ql H1 H/\R i ys H,⟨n,by simp,Qm _,qe,ql.up hD,h0 D hD⟩,?_⟩;rintro i m ys H ⟨rfl,hi,hH,sm,r⟩;by_cases d4:i<n
 ·refine .inr (n5 i ys H D _ _ d4 hD hH sm r (λ y H4 e1 e2 e3=>⟨e1,d5 i ys H d4 r,n-(i+1),by omega,rfl,d4,qe,e2.at hD,e3⟩) (λ H3 e1 e2 e3=>⟨n-(i+1),by omega,rfl,d4,e1,e2,e3⟩))
 ·have e:i=n:=by omega
  subst e;exact .inl ⟨dJ H sm,fin D H ys hD sm hH r⟩
section
variable {K:W.Frag}{o:Nat}{caps:List Nat}{g:TG}{tg:TGs}{tt:TT}{te:TE}{σ:St}{H1:Hp}{Q:VK}
abbrev qe6(o:Nat)(caps:List Nat)(σ:St)(tt:TT)(te:TE)(Y:V->Hp->Prop)(Z:Hp->Prop):St->Hp->Prop:=λ σ2 H2=>Kp o (stY o caps σ) σ2/\tt σ2 H2 λ b H3=>if b=true then te σ2 H3 Y else Z H3
theorem qbA{a:Addr}{xs:List V}(hx:SqL K H1 a xs)(out:Nat->List V)(h0:out 0=[])(d5:∀ i,i<xs.length->(out i).length<sizeLine)(n5:∀(i:Nat)(x:V)(H:Hp)(D:Addr)(Y:V->Hp->Prop)(Z:Hp->Prop),xs[i]?=some x->H1 D=none->H D=some (.lst (out i))->ql H1 H ->
   (∀ y H4,H4 D=some (.lst (out i))->ql H1 H4->out (i+1)=out i++[y]->Y y H4)->(∀ H3,H3 D=some (.lst (out i))->ql H1 H3->out (i+1)=out i->Z H3)->g x (stY o caps σ) H (qe6 o caps σ tt te Y Z))(fin:∀(D:Addr)(H:Hp),H1 D=none->ql H1 H->H D=some (.lst (out xs.length))->Q (.ref D) H):yG o caps (qdz (Itl K a) g) (Itl K a).stop tt te σ H1 Q:=
 qbz xs.length out h0 d5 (λ i H D Y Z hi hD hH sm hy hz=>⟨⟨xs,xs[i],sm.seq hx,Xv hi⟩,λ x H' ⟨e,i5⟩=>by subst e;exact n5 i x _ D Y Z (i5 xs (sm.seq hx)) hD hH sm hy hz⟩) (λ H sm=>⟨xs,sm.seq hx,Ql _⟩) fin
theorem qac{n:Nat}{val:Nat->V}(out:Nat->List V)(h0:out 0=[])(d5:∀ i,i<n->(out i).length<sizeLine)(n5:∀(i:Nat)(H:Hp)(D:Addr)(Y:V->Hp->Prop)(Z:Hp->Prop),i<n->H1 D=none->H D=some (.lst (out i))->ql H1 H ->
   (∀ y H4,H4 D=some (.lst (out i))->ql H1 H4->out (i+1)=out i++[y]->Y y H4)->(∀ H3,H3 D=some (.lst (out i))->ql H1 H3->out (i+1)=out i->Z H3)->g (val i) (stY o caps σ) H (qe6 o caps σ tt te Y Z))(fin:∀(D:Addr)(H:Hp),H1 D=none->ql H1 H->H D=some (.lst (out n))->Q (.ref D) H):yG o caps (qdz (ItV n val) g) (ItV n val).stop tt te σ H1 Q:=
 qbz n out h0 d5 (λ i H D Y Z hi hD hH sm hy hz=>⟨hi,λ x H' ⟨e,ex⟩=>by subst e ex;exact n5 i _ D Y Z hi hD hH sm hy hz⟩) (λ H sm=>rfl) fin
theorem qcT{a b:Addr}{xs ys:List V}(hx:SqL K H1 a xs)(hy:SqL K H1 b ys)(hl:xs.length=ys.length)(out:Nat->List V)(h0:out 0=[])(d5:∀ i,i<xs.length->(out i).length<sizeLine)(n5:∀(i:Nat)(x y:V)(H:Hp)(D:Addr)(Y:V->Hp->Prop)(Z:Hp->Prop),xs[i]?=some x->ys[i]?=some y->H1 D=none->H D=some (.lst (out i))->ql H1 H ->
   (∀ y H4,H4 D=some (.lst (out i))->ql H1 H4->out (i+1)=out i++[y]->Y y H4)->(∀ H3,H3 D=some (.lst (out i))->ql H1 H3->out (i+1)=out i->Z H3)->tg [x,y] (stY o caps σ) H (qe6 o caps σ tt te Y Z))(fin:∀(D:Addr)(H:Hp),H1 D=none->ql H1 H->H D=some (.lst (out xs.length))->Q (.ref D) H):yG o caps (qcO (ItZ K a b) 2 tg) (ItZ K a b).stop tt te σ H1 Q:=
 qbz xs.length out h0 d5 (λ i H D Y Z hi hD hH sm tQ hz=>⟨⟨xs,ys,xs[i],ys[i]'(by omega),sm.seq hx,sm.seq hy,Xv hi,Xv (by omega)⟩,λ zs H' ⟨e,x,y,ez,i5,tP⟩=>by
  subst e ez;exact⟨rfl,n5 i x y _ D Y Z (i5 xs (sm.seq hx)) (tP ys (sm.seq hy)) hD hH sm tQ hz⟩⟩) (λ H sm=>⟨xs,ys,sm.seq hx,sm.seq hy,.inl (Ql _)⟩) fin
end
theorem qZ{n:Nat}(h:n<=100000):n<sizeLine:=Nat.lt_of_le_of_lt h (by decide)
theorem qP{n:Nat}(h:n<=100000):n<=sizeLine:=J8 (qZ h)
theorem qj{α β:Type}{f:α->β}{l:List α}{i:Nat}{y:β}(h:(l.map f)[i]?=some y):∃ x,l[i]?=some x/\y=f x:=by
 rw[Ze] at h;cases e:l[i]? with
 |none=>rw[e] at h;cases h
 |some x=>rw[e] at h;exact⟨x,rfl,(Option.some.inj h).symm⟩
theorem qS{α:Type}{l:List α}{i:Nat}{x:α}(h:l[i]?=some x):l.take (i+1)=l.take i++[x]:=by rw[Jc,h];rfl
theorem yh{α β:Type}{f:α->β}{l:List α}{i:Nat}{x:α}(h:l[i]?=some x):(l.take (i+1)).map f=(l.take i).map f++[f x]:=by rw[qS h,Ur];rfl
theorem j8{α β γ:Type}{f:α->β->γ}{as:List α}{bs:List β}{i:Nat}{a:α}{b:β}(h1:as[i]?=some a)(h2:bs[i]?=some b):(List.zipWith f as bs)[i]?=some (f a b):=by
 rw[XT,h1,h2]
theorem yH{α:Type}{l:List α}{i:Nat}{x:α}(h:l[i]?=some x):i<l.length:=(Xl.mp h).1
theorem qgh(a b:Bool):(!decide (V.bl a=V.bl b))=(a != b):=by cases a <;> cases b <;> rfl
theorem qa8(a b:List Nat):qi a++qi b=qi (a++b):=by
 show(⟨a.toArray++b.toArray⟩:Str)=⟨(a++b).toArray⟩
 rw[List.append_toArray]
theorem qJ(a:List Nat):(qi a).length=a.length:=by
 show a.toArray.size=a.length
 simp
theorem yi(F:List (List Nat)):Txt.join ("":Str) (F.map qi)=qi F.flatten:=by
 show(⟨((F.map qi).drop 1).foldl (λ d6 p=>d6++("":Str).cps++p.cps) ((F.map qi).headD Str.empty).cps⟩:Str)=qi F.flatten
 have e0:("":Str).cps=#[]:=by decide
 rw[e0];have gen:∀(G:List (List Nat))(d6:Array Nat),(G.map qi).foldl (λ d6 p=>d6++#[]++p.cps) d6=d6++(G.flatten).toArray:=by
  intro G;induction G with
  |nil=>intro d6;simp
  |cons g G ih =>
   intro d6;rw[Jv,Up,ih,Zh];show d6++#[]++g.toArray++G.flatten.toArray=d6++(g++G.flatten).toArray
   simp
 cases F with
 |nil=>rfl
 |cons f F =>
  show(⟨(F.map qi).foldl (λ d6 p=>d6++#[]++p.cps) f.toArray⟩:Str)=qi (f++F.flatten)
  rw[gen F f.toArray,List.append_toArray];rfl
theorem zt(F:List (List Nat)):F.map vS=(F.map qi).map V.str:=by rw[Qe];rfl
theorem jj(F:List (List Nat)):(F.map qi).map cs=F:=by
 rw[Qe]
 have:cs ∘ qi=id:=rfl
 rw[this,List.map_id]
theorem yZ{a b:List Nat}(h:qi a=qi b):a=b:=congrArg cs h
theorem qe7{F:List (List Nat)}{x:Str}:x∈F.map qi ↔ cs x∈F:=by
 rw[Qd];constructor
 ·rintro⟨a,ha,rfl⟩;exact ha
 ·intro h;exact⟨cs x,h,rfl⟩
theorem yj(F:List (List Nat)):((F.map qi).map (·.length)).sum=F.flatten.length:=by
 induction F with
 |nil=>rfl
 |cons f F ih =>
  rw[Jv,Jv,List.sum_cons,ih,qJ,Zh,Y4]
theorem qbB{us:List Str}{F:List (List Nat)}(h1:us.Nodup)(h2:F.Nodup)(h:∀ x,x∈us ↔ cs x∈F):(vk us).map V.str=(Fs.srt F).map vS:=by
 unfold vk;rw[zt];have hp:(us.map cs).Perm F:=by
  refine(Xh ?_ h2).mpr λ p=>?_
  ·exact Zk.mpr (h1.imp λ{a b} o7 e=>o7 (qbt e))
  ·rw[Qd];constructor
   ·rintro⟨x,hx,rfl⟩;exact(h x).mp hx
   ·intro hp;exact⟨qi p,(h _).mpr hp,rfl⟩
 rw[Fs.srt_perm_eq hp]
theorem qad{us:List Str}{F:List (List Nat)}(h1:us.Nodup)(h2:F.Nodup)(h:∀ x,x∈us ↔ cs x∈F):us.length=F.length:=by
 have hp:(us.map cs).Perm F:=by
  refine(Xh ?_ h2).mpr λ p=>?_
  ·exact Zk.mpr (h1.imp λ{a b} o7 e=>o7 (qbt e))
  ·rw[Qd];constructor
   ·rintro⟨x,hx,rfl⟩;exact(h x).mp hx
   ·intro hp;exact⟨qi p,(h _).mpr hp,rfl⟩
 rw[<- hp.length_eq,Ul]
end L2
namespace Fs
structure On(ls:List Nat)(F:List Pr):Prop where
 vf:Vf F
 mem:∀ p∈F,∀ c∈p,c∈ls
theorem On.sub{ls:List Nat}{F:List Pr}(h:On ls F)(hl:ls.Pairwise (·<·)):∀ p∈F,p.Sublist ls:=λ p hp=>vh hl (h.vf.prod p hp) (h.mem p hp)
theorem On.len{ls:List Nat}{F:List Pr}(h:On ls F)(hl:ls.Pairwise (·<·)):F.length<=2^ls.length:=by
 rw[<- qA];exact yt h.vf.nodup λ p hp=>zz.mpr (h.sub hl p hp)
theorem ke{n:Nat}:∀{F:List Pr},(∀ p∈F,p.length<=n)->F.flatten.length<=F.length*n
 | [],_=>by simp
 |p::F,h=>by
  rw[Zh,Y4,Zz,Nat.succ_mul];have h1:=h p Y1;have h2:=ke λ q hq=>h q (Ya _ hq)
  omega
theorem On.flat{ls:List Nat}{F:List Pr}(h:On ls F)(hl:ls.Pairwise (·<·)):F.flatten.length<=F.length*ls.length:=ke λ p hp=>(h.sub hl p hp).length_le
theorem On.formOf{ls:List Nat}(hl:ls.Pairwise (·<·))(t:List Bool):On ls (formOf ls t):=⟨vH hl t,λ p hp c hc=>(jw hp).subset hc⟩
end Fs
namespace L2
open PySem PySem.Spec PyProof.Rows
section
variable {X:Cx}
def qiY(K:W.Frag):List V->Hp->VK->Prop:=λ xs H Q=>∃(x:V)(T:String),xs=[x,.ty T]/\TyOf K H x (.type T)/\Q (.bl true) H
theorem qe8:yB X (.builtin "isinstance") (qiY X.K):=by
 intro pins s σ H xs us Q I r h;obtain⟨x,T,rfl,ty,q⟩:=h;obtain⟨u1,u2,rfl,r1,r2⟩:=qaQ r;cases r2
 refine qdV (c:=.type T) I r1 ty (b:=true) ?_ λ tk=>⟨.bl true,H,I.tok tk,rfl,q⟩
 unfold W.kitOne;rw[Q7 (by simp)]
def qhq:List V->Hp->VK->Prop:=λ xs H Q=>∃(p:Addr)(kvs:List (Key×V)),xs=[.ref p]/\H p=some (.dK kvs)/\∀ d,H d=none->Q (.ref d) (upd H d (.dK kvs))
theorem qcl:yB X (.type "dict") qhq:=by
 intro pins s σ H xs us Q I r h;obtain⟨p,kvs,rfl,hp,q⟩:=h;obtain⟨u,rfl,ru⟩:=yn r;cases ru
 obtain⟨hz,hS,vs,rel,dd⟩:=qeK I.hok hp;refine kt_call_dict hS dd (by rw[<- rel.length];exact hz) λ h' K2 hs=>?_
 have hf:=I.hok.fresh (Ql s.heap.objs.size);have hk:∀ b o,s.heap.get? b=some o->h'.get? b=some o:=λ b o e=>(hs.2 b (J6 (J5 e))).trans (X9 _ e)
 exact⟨.ref s.heap.objs.size,_,I.laid (a:=s.heap.objs.size) (o:=.dK kvs) (t':=s.toks) hk (Ql _) (kG hz (Yy.mpr (Q2 (J6 I.big))) rel K2),rfl,q _ hf⟩
end
section
variable {prog:Program}{w:World}{A:Around}{E:Value->Shared->Prop}{s:Shared}{z TI TO i1 i2 l1 l2 S:Addr}{i:Nat}{xs ys:Array Value}
theorem qdA{a:Addr}{o:Obj}{Q:Option Obj->Shared->Prop}(ho:s.heap.get? a=some o)(h:Q (some o) s):wpAny (model prog w) A (loadIfAlive a) Q E s:=λ _ _ _=>(show Q (s.heap.get? a) s from by rw[ho];exact h)
end
theorem qgi{k:Key}{v:Value}(h:ku k v=true):qF (kV k) v:=by
 rcases qU h with⟨i,t,rfl,rfl⟩|⟨x,t,rfl,rfl⟩
 ·exact⟨t,rfl⟩
 ·exact⟨t,rfl⟩
theorem vt{α β:Type}{F:α->β->Prop}:∀{xs:List α}{l:List β},Paired F xs l->∀(k:Nat)(a:α),xs[k]?=some a->∃ b,l[k]?=some b/\F a b
 |_,_,.nil,k,a,h=>by simp at h
 |_,_,.cons r t,0,a,h=>by simp at h;subst h;exact⟨_,rfl,r⟩
 |_,_,.cons r t,k+1,a,h=>vt t k a (by simpa using h)
def qih(wi:TI2)(n:Nat)(t:TGs)(tb:TS):TS:=λ D σ H=>wi σ H λ J H1=>∃ W:Nat->Nat->St->Hp->Prop,(∃ m,W 0 m σ H1)/\∀ i m σ H,W i m σ H ->
 (J.stop i H/\D.nx σ H)∨(J.go i H/\∃ N:St->Hp->Prop,(∀ σ' H',N σ' H'->∃ m',m'<m/\W (i+1) m' σ' H')/\∀ xs H',J.yld i H xs H'->xs.length=n/\t xs σ H' λ σ2 H2=>tb { D with nx:=N,ct:=N,bk:=D.nx } σ2 H2)
theorem qbC{X:Cx}{es:List Expr}{k n:Nat}{i9:Pos}{iter:Expr}{body:List Stmt}{wi:TI2}{t:TGs}{tb:TS}{pos:Pos}(hp:PassesOwn (model X.prog X.w) X.A X.env X.xe)(hc:X.calm=true)(hi:PI2 X (.Tuple es k i9) iter wi)(hg:PGs X es t)(hb:PSs X body tb)(hn:(assignEach es X.env).length=n:=by rfl)(t9:(assignEach es X.env).findIdx? (·.1)=none:=by rfl)(hs:∀ x,foldedSetIterable iter X.env x=pure x:=by intro _;rfl):PS X (.For (.Tuple es k i9) iter body [] pos) (qih wi n t tb):=by
 intro pins s σ H D I h;refine wpAny_For (thn (hi pins s σ H _ I h) λ v s1 h1=>thn h1 λ T6 s2 h2=>?_) hs;obtain⟨it,fp,tn,J,H2,e,I2,T,d9,f2,W,⟨m0,w0⟩,n5⟩:=h2;subst e;have G3:∀{H':Hp},(∀ b∈fp,H' b=none)->∀ b∈fp,yO X pins H' b:=λ hn b hb=>⟨hn b hb,(f2 b hb).2⟩
 refine codeAny_forLoop_any (λ n s'=>∃ i σ' H',Inv X pins σ' H' s'/\tn i s'.heap/\(∀ b∈fp,H' b=none)/\W i n σ' H') ?_ m0 ⟨0,σ,H2,I2,d9,λ b hb=>(f2 b hb).1,w0⟩;rintro n' s3 ⟨i,σ3,H3,I3,B3,aP,w3⟩;rcases n5 i n' σ3 H3 w3 with⟨stop,qn⟩|⟨go,N,hN,step⟩
 ·refine U1 hp (thn (T.done X rfl rfl rfl hc i pins s3 σ3 H3 X.xe I3 (G3 aP) B3 stop) λ r s4 ⟨hr,I4⟩=>?_);subst hr;exact U0 ⟨σ3,H3,I4,qn⟩
 ·refine U1 hp (thn (T.item X rfl rfl rfl hc i pins s3 σ3 H3 X.xe I3 (G3 aP) B3 go) λ r s4 ⟨p,hr,h4⟩=>?_);subst hr;refine U1 hp (thn h4 λ _ s5 ⟨xs,us,H5,I5,ht,r5,y5,G4,cC⟩=>?_);have I5':=I5.pinned (G3 cC) (T.obj _ _ G4);obtain⟨hl,hw⟩:=step xs H5 y5;refine U1 hp (assign_Tuple_tuple (I5.ok.hd hc) ht (by simp[hn,<- hl,r5.length]) t9 λ h' hx=>?_);have I6:Inv X (pins++jZ fp s5.heap) σ3 H5 { s5 with heap:=h' }:=I5'.kept (t':=s5.toks) λ b o e=>hx b o (J6 (J5 e)) e
  refine thn (hg _ _ σ3 H5 xs _ _ I6 (by simpa using r5) hw) λ _ s6 ⟨σ6,H6,I7,q6⟩=>?_
  refine U1 hp (thn (hb _ s6 σ6 H6 _ I7 q6) λ f s7 q7=>?_);have again:∀{σ7:St}{H7:Hp},Inv X (pins++jZ fp s5.heap) σ7 H7 s7->N σ7 H7->∃ m,m<n'/\∃ i σ' H',Inv X pins σ' H' s7/\tn i s7.heap/\(∀ b∈fp,H' b=none)/\W i m σ' H':=λ{σ7 H7} I7 n7=>by
   obtain⟨m',hm,w7⟩:=hN σ7 H7 n7;refine⟨m',hm,i+1,σ7,H7,I7.unpinned,T.keep _ _ _ G4 λ b hb o e=>(I7.pin (b,o) (XH _ (XH _ (zT hb e)))).1,λ b hb=>?_,w7⟩;obtain⟨o,e,d⟩:=T.obj _ _ G4 b hb;exact(I7.pin (b,o) (XH _ (XH _ (zT hb e)))).2.1
  cases f with
  |next=>obtain⟨σ7,H7,I7,n7⟩:=q7;exact again I7 n7
  |cont=>obtain⟨σ7,H7,I7,n7⟩:=q7;exact again I7 n7
  |brk=>obtain⟨σ7,H7,I7,q7⟩:=q7;exact⟨σ7,H7,I7.unpinned,q7⟩
  |ret v=>obtain⟨x7,σ7,H7,I7,r7,q7⟩:=q7;exact⟨x7,σ7,H7,I7.unpinned,r7,q7⟩
end L2
namespace FsS
open PySem PyProof.Rows
def ky(κ:KeyKind)(x:Keyed):κ.α:=(κ.keyOf x.1).getD κ.dflt
def Kd(κ:KeyKind)(x:Keyed):Prop:=∃ a,κ.keyOf x.1=some a
theorem Kd.eq{κ:KeyKind}{x:Keyed}(h:Kd κ x):κ.keyOf x.1=some (ky κ x):=by
 obtain⟨a,h⟩:=h;unfold ky;rw[h];rfl
def zC:Bool->Keyed->Array Keyed->Nat->Nat->Nat->StateT SortSt Sem (Option Nat):=sortPriv% PySem.Builtin.gallop
def bey(left:Bool)(key:Keyed)(arr:Array Keyed)(base i:Nat):StateT SortSt Sem (Option Bool):=do
 let x <- elem' arr (base+i)
 if left then lt' x key else return (<- lt' key x).map (!·)
theorem qd8(left:Bool)(key:Keyed)(arr:Array Keyed)(base n d7:Nat):zC left key arr base n d7=(do
 let mut u:=0
 let mut v:=1
 let mut p:=0
 let mut q:=0
 let some r <- bey left key arr base d7|return none
 if r then
  let m:=n-d7
  for _ in [0:n] do
   if v ≥ m then break
   let some c <- bey left key arr base (d7+v)|return none
   if !c then break
   u:=v
   v:=2*v+1
  p:=d7+u+1
  q:=d7+min v m
 else
  let m:=d7+1
  for _ in [0:n] do
   if v ≥ m then break
   let some c <- bey left key arr base (d7-v)|return none
   if c then break
   u:=v
   v:=2*v+1
  p:=d7+1-min v m
  q:=d7-u
 for _ in [0:n] do
  if p ≥ q then break
  let c:=p+(q-p) / 2
  let some d <- bey left key arr base c|return none
  if d then p:=c+1 else q:=c
 return some q):=rfl
section
variable {prog:Program}{w:World}{A:Around}{E:Value->Shared->Prop}{s:Shared}{κ:KeyKind}
theorem qC{arr:Array Keyed}{i:Nat}{p:Keyed}{st:SortSt}{Q:Keyed->SortSt->Prop}(h:arr[i]?=some p)(hq:Q p st):wpS (model prog w) A E s (elem' arr i) Q st:=by
 rw[elem'_eq,h];exact Qz hq
theorem qae(hO:κ.OneLt){x y:Keyed}{st:SortSt}{Q:Option Bool->SortSt->Prop}(hk:kindOf st=oneType')(hx:Kd κ x)(hy:Kd κ y)(hq:Q (some (κ.blt (ky κ x) (ky κ y))) st):wpS (model prog w) A E s (lt' x y) Q st:=by
 rw[lt'_eq];refine Q0 (Q5 ?_);rw[hk,keyLt'_oneType];refine Q0 (wpS_lift (J0 (hO prog w A _ s x.1 y.1 _ _ hx.eq hy.eq ⟨rfl,?_⟩)));exact Qz hq
def Bt(κ:KeyKind)(left:Bool)(key x:Keyed):Bool:=if left then κ.blt (ky κ x) (ky κ key) else !(κ.blt (ky κ key) (ky κ x))
theorem qgj(hO:κ.OneLt){left:Bool}{key x:Keyed}{arr:Array Keyed}{base i:Nat}{st:SortSt}{Q:Option Bool->SortSt->Prop}(hk:kindOf st=oneType')(A3:Kd κ key)(e:arr[base+i]?=some x)(hx:Kd κ x)(hq:Q (some (Bt κ left key x)) st):wpS (model prog w) A E s (bey left key arr base i) Q st:=by
 unfold bey;refine Q0 (qC e ?_);cases left with
 |true=>exact qae hO hk hx A3 hq
 |false=>exact Q0 (qae hO hk A3 hx (Qz hq))
theorem qcU{left:Bool}{key:Keyed}{arr:Array Keyed}{base n d7:Nat}{st:SortSt}{Q:Option Nat->SortSt->Prop}(B:Nat->Bool)(hb:∀ i,i<n->∀ R:Option Bool->SortSt->Prop,R (some (B i)) st->wpS (model prog w) A E s (bey left key arr base i) R st)(mono:∀ i j,i<=j->j<n->B j=true->B i=true)(hn:d7<n)(h:∀ k,k<=n->(∀ i,i<k->B i=true)->(∀ i,k<=i->i<n->B i=false)->Q (some k) st):wpS (model prog w) A E s (zC left key arr base n d7) Q st:=by
 have cI:∀ i j,i<=j->j<n->B i=false->B j=false:=λ i j uV hj hi=>by
  cases hB:B j with
  |false=>rfl
  |true=>rw[mono i j uV hj hB] at hi;exact absurd hi (by simp)
 have fin:∀ p q:Nat,p<=q->q<=n->(∀ i,i<p->B i=true)->(∀ i,q<=i->i<n->B i=false) ->
   wpS (model prog w) A E s (do
    let mut p:=p
    let mut q:=q
    for _ in [0:n] do
     if p ≥ q then break
     let c:=p+(q-p) / 2
     let some d <- bey left key arr base c|return none
     if d then p:=c+1 else q:=c
    return some q) Q st:=by
  intro p q cL aD h1 h2;refine Q0 (Q1 (Qk (I:=λ x c b0=>b0=st/\∃ p q,c=(none,p,q)/\p<=q/\q<=n/\q-p<=n-x/\(∀ i,i<p->B i=true)/\(∀ i,q<=i->i<n->B i=false))
   (Q:=λ c b0=>b0=st/\∃ p q,c=(none,p,q)/\q<=p/\p<=q/\q<=n/\(∀ i,i<p->B i=true)/\(∀ i,q<=i->i<n->B i=false)) ?step ?fin ⟨rfl,p,q,rfl,cL,aD,by omega,h1,h2⟩) ?post)
  case post =>
   rintro c b0 ⟨rfl,p,q,rfl,hqp,cL,aD,h1,h2⟩
   have:p=q:=by omega
   subst this;exact Qz (h p aD h1 h2)
  case fin =>
   rintro c b0 ⟨rfl,p,q,rfl,cL,aD,hm,h1,h2⟩;exact⟨rfl,p,q,rfl,by omega,cL,aD,h1,h2⟩
  case step =>
   rintro x c b0 _ hx ⟨rfl,p,q,rfl,cL,aD,hm,h1,h2⟩;dsimp only;by_cases hge:p ≥ q
   ·rw[Q7 hge];exact Qz ⟨rfl,p,q,rfl,hge,cL,aD,h1,h2⟩
   ·rw[Q8 hge];refine Q0 (hb _ (by omega) _ ?_);cases hB:B (p+(q-p) / 2) with
    |true =>
     simp only[Q4];exact Qz ⟨rfl,_,q,rfl,by omega,aD,by omega,λ i hi=>mono i _ (by omega) (by omega) hB,h2⟩
    |false =>
     simp only[Y7,Qy];exact Qz ⟨rfl,p,_,rfl,by omega,by omega,by omega,h1,λ i hi L9=>cI _ i hi L9 hB⟩
 rw[qd8];refine Q0 (hb d7 hn _ ?_);dsimp only;cases hB:B d7 with
 |true =>
  simp only[Q4];refine Q0 (Q1 (Qk (I:=λ x c b0=>b0=st/\∃ u v,c=(none,u,v)/\u<v/\x<v/\d7+u<n/\B (d7+u)=true)
   (Q:=λ c b0=>b0=st/\∃ u v,c=(none,u,v)/\u<v/\d7+u<n/\B (d7+u)=true/\(n-d7<=v∨(d7+v<n/\B (d7+v)=false))) ?step ?fin ⟨rfl,0,1,rfl,by omega,by omega,by omega,hB⟩) ?post)
  case post =>
   rintro c b0 ⟨rfl,u,v,rfl,O3,M8,hu,hv⟩;refine fin (d7+u+1) (d7+min v (n-d7)) (by omega) (by omega) (λ i hi=>mono i _ (by omega) M8 hu) (λ i hi L9=>?_);rcases hv with hv|⟨h1,h2⟩
   ·omega
   ·exact cI _ i (by omega) L9 h2
  case fin =>
   rintro c b0 ⟨rfl,u,v,rfl,O3,tR,M8,hu⟩;exact⟨rfl,u,v,rfl,O3,M8,hu,.inl (by omega)⟩
  case step =>
   rintro x c b0 _ hx ⟨rfl,u,v,rfl,O3,tR,M8,hu⟩;dsimp only;by_cases hge:v ≥ n-d7
   ·rw[Q7 hge];exact Qz ⟨rfl,u,v,rfl,O3,M8,hu,.inl hge⟩
   ·rw[Q8 hge];refine Q0 (hb _ (by omega) _ ?_);cases hB2:B (d7+v) with
    |true =>
     simp only[Jw,Y7,Qy];exact Qz ⟨rfl,v,_,rfl,by omega,by omega,by omega,hB2⟩
    |false =>
     simp only[Bool.not_false,Q4];exact Qz ⟨rfl,u,v,rfl,O3,M8,hu,.inr ⟨by omega,hB2⟩⟩
 |false =>
  simp only[Y7,Qy];refine Q0 (Q1 (Qk (I:=λ x c b0=>b0=st/\∃ u v,c=(none,u,v)/\u<v/\x<v/\u<=d7/\B (d7-u)=false)
   (Q:=λ c b0=>b0=st/\∃ u v,c=(none,u,v)/\u<v/\u<=d7/\B (d7-u)=false/\(d7+1<=v∨(v<=d7/\B (d7-v)=true))) ?step ?fin ⟨rfl,0,1,rfl,by omega,by omega,by omega,hB⟩) ?post)
  case post =>
   rintro c b0 ⟨rfl,u,v,rfl,O3,M8,hu,hv⟩;refine fin (d7+1-min v (d7+1)) (d7-u) (by omega) (by omega) (λ i hi=>?_) (λ i hi L9=>cI _ i hi L9 hu);rcases hv with hv|⟨h1,h2⟩
   ·omega
   ·exact mono i _ (by omega) (by omega) h2
  case fin =>
   rintro c b0 ⟨rfl,u,v,rfl,O3,tR,M8,hu⟩;exact⟨rfl,u,v,rfl,O3,M8,hu,.inl (by omega)⟩
  case step =>
   rintro x c b0 _ hx ⟨rfl,u,v,rfl,O3,tR,M8,hu⟩;dsimp only;by_cases hge:v ≥ d7+1
   ·rw[Q7 hge];exact Qz ⟨rfl,u,v,rfl,O3,M8,hu,.inl hge⟩
   ·rw[Q8 hge];refine Q0 (hb _ (by omega) _ ?_);cases hB2:B (d7-v) with
    |false =>
     simp only[Y7,Qy];exact Qz ⟨rfl,v,_,rfl,by omega,by omega,by omega,hB2⟩
    |true =>
     simp only[Q4];exact Qz ⟨rfl,u,v,rfl,O3,M8,hu,.inr ⟨by omega,hB2⟩⟩
end
structure MI{α:Type}(r:α->α->Prop)(la lb O:List α)(i j:Nat):Prop where
 sa:(O++la.drop i).Pairwise r
 sb:(O++lb.drop j).Pairwise r
 pm:(O++(la.drop i++lb.drop j)).Perm (la++lb)
theorem MI.takeA{α:Type}{r:α->α->Prop}{la lb O:List α}{i j i':Nat}(h:MI r la lb O i j){X:List α}(e:la.drop i=X++la.drop i')(hx:∀ x∈X,∀ y∈lb.drop j,r x y):MI r la lb (O++X) i' j:=by
 have h1:=h.sa;rw[e,<- Zi] at h1;have h2:=Yf.mp h.sb;refine⟨h1,Yf.mpr ⟨(Yf.mp h1).1,h2.2.1,λ x i5 y hy=>?_⟩,?_⟩
 ·rcases Ug.mp i5 with hO | hX
  ·exact h2.2.2 x hO y hy
  ·exact hx x hX y hy
 ·have:=h.pm
  rw[e] at this;simpa [Zi] using this
theorem MI.takeB{α:Type}{r:α->α->Prop}{la lb O:List α}{i j j':Nat}(h:MI r la lb O i j){X:List α}(e:lb.drop j=X++lb.drop j')(hx:∀ x∈X,∀ y∈la.drop i,r x y):MI r la lb (O++X) i j':=by
 have h1:=h.sb;rw[e,<- Zi] at h1;have h2:=Yf.mp h.sa;refine⟨Yf.mpr ⟨(Yf.mp h1).1,h2.2.1,λ x i5 y hy=>?_⟩,h1,?_⟩
 ·rcases Ug.mp i5 with hO | hX
  ·exact h2.2.2 x hO y hy
  ·exact hx x hX y hy
 ·have:=h.pm
  rw[e] at this;rw[Zi];exact((Xf X (la.drop i) (lb.drop j')).append_left O).trans this
def Gd{α:Type}(r:α->α->Prop)(la lb:List α)(o:List α):Prop:=o.Pairwise r/\o.Perm (la++lb)
theorem MI.endB{α:Type}{r:α->α->Prop}{la lb O:List α}{i j:Nat}(h:MI r la lb O i j)(e:lb.length<=j):Gd r la lb (O++la.drop i++lb.drop j):=by
 have:=h.sa
 have hp:=h.pm;rw[XD e] at hp ⊢;rw[Ui] at hp ⊢;exact⟨this,hp⟩
theorem MI.endA{α:Type}{r:α->α->Prop}{la lb O:List α}{i j:Nat}(h:MI r la lb O i j)(e:la.length<=i):Gd r la lb (O++la.drop i++lb.drop j):=by
 have:=h.sb
 have hp:=h.pm;rw[XD e] at hp ⊢;rw[Uq] at hp;rw[Ui];exact⟨this,hp⟩
theorem MI.last{α:Type}{r:α->α->Prop}{la lb O:List α}{i j:Nat}(h:MI r la lb O i j)(hl:∀ x∈la.drop i,∀ y∈lb,r y x):Gd r la lb (O++lb.drop j++la.drop i):=by
 have ha:=Yf.mp h.sa;refine⟨Yf.mpr ⟨h.sb,ha.2.1,λ x hx y hy=>?_⟩,?_⟩
 ·rcases Ug.mp hx with hO | hX
  ·exact ha.2.2 x hO y hy
  ·exact hl y hy x (Yg hX)
 ·rw[Zi];exact((List.perm_append_comm).append_left O).trans h.pm
theorem zH{α:Type}{l:List α}{i:Nat}{x:α}(h:l[i]?=some x):l.drop i=[x]++l.drop (i+1):=by
 obtain⟨hi,e⟩:=Xl.mp h;rw[Xq hi,e];rfl
theorem drop_take{α:Type}(l:List α)(i k:Nat):l.drop i=(l.drop i).take k++l.drop (i+k):=by
 have:=(XN k (l.drop i)).symm
 rwa [Je] at this
abbrev kl(κ:KeyKind)(x y:Keyed):Prop:=κ.kle (ky κ x) (ky κ y)
abbrev So(κ:KeyKind)(l:List Keyed):Prop:=l.Pairwise (kl κ)
section
variable {prog:Program}{w:World}{A:Around}{E:Value->Shared->Prop}{s:Shared}{κ:KeyKind}
theorem qgk{left:Bool}{key x y:Keyed}(h:kl κ x y)(hy:Bt κ left key y=true):Bt κ left key x=true:=by
 cases left with
 |true=>exact KeyOrd.klt_of_kle_of_klt h hy
 |false =>
  have tQ:κ.blt (ky κ key) (ky κ y)=false:=by simpa [Bt] using hy
  have:κ.kle (ky κ x) (ky κ key):=Z9 h tQ
  show(!(κ.blt (ky κ key) (ky κ x)))=true
  rw[show κ.blt (ky κ key) (ky κ x)=false from this];rfl
theorem BtF{key x:Keyed}(h:Bt κ false key x=true):kl κ x key:=by
 have:κ.blt (ky κ key) (ky κ x)=false:=by simpa [Bt] using h
 exact this
theorem qhr{key x:Keyed}(h:Bt κ false key x=false):kl κ key x:=by
 have:κ.blt (ky κ key) (ky κ x)=true:=by simpa [Bt] using h
 exact Zq this
theorem BtT{key x:Keyed}(h:Bt κ true key x=true):kl κ x key:=Zq h
theorem qgl{key x:Keyed}(h:Bt κ true key x=false):kl κ key x:=h
theorem zI(hO:κ.OneLt){left:Bool}{key:Keyed}{arr:Array Keyed}{base n d7:Nat}{st:SortSt}{Q:Option Nat->SortSt->Prop}(R4:List Keyed)(es:(arr.toList.drop base).take n=R4)(hk:kindOf st=oneType')(A3:Kd κ key)(hs:base+n<=arr.size)(hd:∀ x∈R4,Kd κ x)(so:So κ R4)(hn:d7<n)(h:∀ k,k<=n->(∀ x∈R4.take k,Bt κ left key x=true)->(∀ x∈R4.drop k,Bt κ left key x=false)->Q (some k) st):wpS (model prog w) A E s (zC left key arr base n d7) Q st:=by
 have ln:R4.length=n:=by rw[<- es,Zy,Z0,Ym];omega
 have N4:∀ i,(hi:i<n)->arr[base+i]?=some (R4[i]'(by omega)):=λ i hi=>by
  have:R4[i]?=some (R4[i]'(by omega)):=Xv _
  rw[<- this,<- es,Xu hi,Y8,XS]
 refine qcU (λ i=>if hi:i<n then Bt κ left key (R4[i]'(by omega)) else false) ?_ ?_ hn ?_
 ·intro i hi R hR;rw[Q6 hi] at hR;exact qgj hO hk A3 (N4 i hi) (hd _ (Z6 _)) hR
 ·intro i j uV hj hB;rw[Q6 hj] at hB;rw[Q6 (by omega)];rcases Qf i j with d4 | hge
  ·exact qgk (Xr.mp so i j (by omega) (by omega) d4) hB
  ·have:i=j:=by omega
   subst this;exact hB
 ·intro k lY h1 h2;refine h k lY (λ x hx=>?_) (λ x hx=>?_)
  ·obtain⟨i,hi,rfl⟩:=Yr hx;rw[Zy] at hi
   have:=h1 i (by omega)
   rw[Q6 (by omega)] at this;rw[Zr];exact this
  ·obtain⟨i,hi,rfl⟩:=Yr hx;rw[Z0] at hi
   have:=h2 (k+i) (by omega) (by omega)
   rw[Q6 (by omega)] at this;rw[List.getElem_drop];exact this
end
abbrev jk(st:SortSt)(g:Nat):SortSt:=SortSt.mk' (kindOf st) (arrOf st) (pendingOf st) g (failedOf st)
abbrev SM:=StateT SortSt Sem
def qaf:Array Keyed->Array Keyed->SM (Array Keyed):=sortPriv% PySem.Builtin.mergeLo
def qd9(g:Nat):SM Unit:=modify λ st=>jk st g
def jC(a b o:Array Keyed)(i j:Nat):Array Keyed:=o++a.extract i a.size++b.extract j b.size
def qbD(a b o:Array Keyed)(i j:Nat):Array Keyed:=o++b.extract j b.size++a.extract i a.size
abbrev C1:=Option (Array Keyed)×Array Keyed×Nat×Nat×Nat×Nat
abbrev C2:=Option (Array Keyed)×Array Keyed×Nat×Nat×Nat×Nat×Nat
abbrev C0:=Option (Array Keyed)×Array Keyed×Nat×Nat×Nat
def lo3(a b o:Array Keyed)(i j g p q:Nat):SM (ForInStep C2):=do
 let x <- elem' a i
 if i+1+1 == a.size then pure (.done (some (qbD a b (o.push x) (i+1) j),o.push x,i+1,j,g,p,q))
 else if p<7 && q<7 then pure (.done (none,o.push x,i+1,j,g,p,q))
 else pure (.yield (none,o.push x,i+1,j,g,p,q))
def lo2(a b o:Array Keyed)(i j g p q:Nat):SM (ForInStep C2):=do
 let x <- elem' b j
 if j+1 == b.size then pure (.done (some (jC a b (o.push x) i (j+1)),o.push x,i,j+1,g,p,q))
 else do
  let y <- elem' a i
  let c <- zC true y b (j+1) (b.size-(j+1)) 0
  match c with
  |some k =>
   if k > 0 then
    if j+1+k == b.size then pure (.done (some (jC a b (o.push x++b.extract (j+1) (j+1+k)) i (j+1+k)),o.push x++b.extract (j+1) (j+1+k),i,j+1+k,g,p,k))
    else lo3 a b (o.push x++b.extract (j+1) (j+1+k)) i (j+1+k) g p k
   else lo3 a b (o.push x) i (j+1) g p k
  |_=>pure (.done (some (jC a b (o.push x) i (j+1)),o.push x,i,j+1,g,p,q))
def lo1(a b o:Array Keyed)(i j g p q:Nat):SM (ForInStep C2):=do
 qd9 g
 let x <- elem' b j
 let c <- zC false x a i (a.size-i) 0
 match c with
 |some k =>
  if k > 0 then
   if i+k+1 == a.size then pure (.done (some (qbD a b (o++a.extract i (i+k)) (i+k) j),o++a.extract i (i+k),i+k,j,g,k,q))
   else if i+k == a.size then pure (.done (some (jC a b (o++a.extract i (i+k)) (i+k) j),o++a.extract i (i+k),i+k,j,g,k,q))
   else lo2 a b (o++a.extract i (i+k)) (i+k) j g k q
  else lo2 a b o i j g k q
 |_=>pure (.done (some (jC a b o i j),o,i,j,g,p,q))
def lo0(a b:Array Keyed)(g:Nat)(r:C1):SM (ForInStep C1):=do
 let y <- elem' b r.2.2.2.1
 let x <- elem' a r.2.2.1
 let c <- lt' y x
 match c with
 |some c =>
  if c then do
   let z <- elem' b r.2.2.2.1
   if r.2.2.2.1+1 == b.size then pure (.done (some (jC a b (r.2.1.push z) r.2.2.1 (r.2.2.2.1+1)),r.2.1.push z,r.2.2.1,r.2.2.2.1+1,0,r.2.2.2.2.2+1))
   else if r.2.2.2.2.2+1 ≥ g then pure (.done (none,r.2.1.push z,r.2.2.1,r.2.2.2.1+1,0,r.2.2.2.2.2+1))
   else pure (.yield (none,r.2.1.push z,r.2.2.1,r.2.2.2.1+1,0,r.2.2.2.2.2+1))
  else do
   let z <- elem' a r.2.2.1
   if r.2.2.1+1+1 == a.size then pure (.done (some (qbD a b (r.2.1.push z) (r.2.2.1+1) r.2.2.2.1),r.2.1.push z,r.2.2.1+1,r.2.2.2.1,r.2.2.2.2.1+1,0))
   else if r.2.2.2.2.1+1 ≥ g then pure (.done (none,r.2.1.push z,r.2.2.1+1,r.2.2.2.1,r.2.2.2.2.1+1,0))
   else pure (.yield (none,r.2.1.push z,r.2.2.1+1,r.2.2.2.1,r.2.2.2.2.1+1,0))
 |_=>pure (.done (some (jC a b r.2.1 r.2.2.1 r.2.2.2.1),r.2.1,r.2.2.1,r.2.2.2.1,r.2.2.2.2.1,r.2.2.2.2.2))
theorem qcV(a b:Array Keyed):qaf a b=(do
 rule "list.sort.merge-lo"
 let t:=a.size+b.size
 let mut o:Array Keyed:=#[<- elem' b 0]
 let mut i:=0
 let mut j:=1
 if j == b.size then return jC a b o i j
 if i+1 == a.size then return qbD a b o i j
 let mut g:=gallopOf (<- get)
 for _ in [0:t] do
  let mut p:=0
  let mut q:=0
  for _ in [0:t] do
   let some c <- lt' (<- elem' b j) (<- elem' a i)|return jC a b o i j
   if c then
    o:=o.push (<- elem' b j);j:=j+1;q:=q+1;p:=0
    if j == b.size then return jC a b o i j
    if q ≥ g then break
   else
    o:=o.push (<- elem' a i);i:=i+1;p:=p+1;q:=0
    if i+1 == a.size then return qbD a b o i j
    if p ≥ g then break
  rule "list.sort.gallop"
  g:=g+1
  for _ in [0:t] do
   if g > 1 then g:=g-1
   qd9 g
   let some k <- zC false (<- elem' b j) a i (a.size-i) 0|return jC a b o i j
   p:=k
   if k > 0 then
    o:=o++a.extract i (i+k);i:=i+k
    if i+1 == a.size then return qbD a b o i j
    if i == a.size then return jC a b o i j
   o:=o.push (<- elem' b j);j:=j+1
   if j == b.size then return jC a b o i j
   let some k <- zC true (<- elem' a i) b j (b.size-j) 0|return jC a b o i j
   q:=k
   if k > 0 then
    o:=o++b.extract j (j+k);j:=j+k
    if j == b.size then return jC a b o i j
   o:=o.push (<- elem' a i);i:=i+1
   if i+1 == a.size then return qbD a b o i j
   if p<7 && q<7 then break
  g:=g+1
  qd9 g
 unsupported "internal:list.sort.merge-bound"):=rfl
def Ok{γ:Type}(κ:KeyKind)(a b:Array Keyed)(st:SortSt)(m:Nat)(c:Option (Array Keyed)×Array Keyed×Nat×Nat×γ)(b0:SortSt):Prop:=
 (∃ g,b0=jk st g)/\((∃ r,c.1=some r/\Gd (kl κ) a.toList b.toList r.toList)∨(c.1=none/\MI (kl κ) a.toList b.toList c.2.1.toList c.2.2.1 c.2.2.2.1/\c.2.2.1+1<a.size/\c.2.2.2.1<b.size/\m<=c.2.2.1+c.2.2.2.1))
def vJ{γ:Type}(κ:KeyKind)(a b:Array Keyed)(st:SortSt)(m:Nat):ForInStep (Option (Array Keyed)×Array Keyed×Nat×Nat×γ)->SortSt->Prop
 |.done c,b0=>Ok κ a b st m c b0
 |.yield c,b0=>Ok κ a b st m c b0/\c.1=none
theorem kf(a:Array Keyed)(i:Nat):(a.extract i a.size).toList=a.toList.drop i:=by
 rw[Yh,Xs];exact XC (by rw[Z0,Ym];exact Ql _)
theorem qcm(a:Array Keyed)(i k:Nat):(a.extract i (i+k)).toList=(a.toList.drop i).take k:=by
 rw[Yh,Xs,X3]
theorem qag(a b o:Array Keyed)(i j:Nat):(jC a b o i j).toList=o.toList++a.toList.drop i++b.toList.drop j:=by
 unfold jC;rw[Yt,Yt,kf,kf]
theorem qbE(a b o:Array Keyed)(i j:Nat):(qbD a b o i j).toList=o.toList++b.toList.drop j++a.toList.drop i:=by
 unfold qbD;rw[Yt,Yt,kf,kf]
theorem vv{a:Array Keyed}{i:Nat}(h:i<a.size):a.toList[i]?=some a[i]:=by
 rw[XS];exact getElem?_pos a i h
section
variable {prog:Program}{w:World}{A:Around}{E:Value->Shared->Prop}{s:Shared}{κ:KeyKind}{a b:Array Keyed}{st:SortSt}
variable (hO:κ.OneLt)(hk:kindOf st=oneType')(ka:∀ x∈a.toList,Kd κ x)(kb:∀ x∈b.toList,Kd κ x)(hl:∀ x∈a.toList.drop (a.size-1),∀ y∈b.toList,kl κ y x)
include hO hk ka kb hl
theorem kg{i:Nat}(e:i+1=a.size):∀ x∈a.toList.drop i,∀ y∈b.toList,kl κ y x:=by
 have:a.size-1=i:=by omega
 rw[<- this];exact hl
theorem MI.headA{O:List Keyed}{i j:Nat}(m:MI (kl κ) a.toList b.toList O i j)(hi:i<a.size):∀ y∈a.toList.drop i,kl κ a[i] y:=by
 have:=(Yf.mp m.sa).2.1
 rw[zH (vv hi)] at this ⊢;intro y hy;rcases Ug.mp hy with h|h
 ·rw[Y9.mp h];exact Ut _
 ·exact(Y5.mp this).1 y h
theorem MI.headB{O:List Keyed}{i j:Nat}(m:MI (kl κ) a.toList b.toList O i j)(hj:j<b.size):∀ y∈b.toList.drop j,kl κ b[j] y:=by
 have:=(Yf.mp m.sb).2.1
 rw[zH (vv hj)] at this ⊢;intro y hy;rcases Ug.mp hy with h|h
 ·rw[Y9.mp h];exact Ut _
 ·exact(Y5.mp this).1 y h
theorem qe9{o:Array Keyed}{i j g p q m:Nat}{b0:SortSt}(hs:∃ g,b0=jk st g)(mi:MI (kl κ) a.toList b.toList o.toList i j)(hi:i+1<a.size)(hj:j<b.size)(hm:m<=i+j)(hx:∀ y∈b.toList.drop j,kl κ a[i] y):wpS (model prog w) A E s (lo3 a b o i j g p q) (vJ κ a b st m) b0:=by
 unfold lo3;refine Q0 (qC (p:=a[i]) (getElem?_pos a i (by omega)) ?_);have o5:MI (kl κ) a.toList b.toList (o.push a[i]).toList (i+1) j:=by
  rw[Zn];exact mi.takeA (zH (vv (by omega))) (λ x i5 y hy=>by rw[Y9.mp i5];exact hx y hy)
 by_cases h1:i+1+1=a.size
 ·rw[Q7 (by simpa using h1)];refine Qz ⟨hs,.inl ⟨_,rfl,?_⟩⟩;rw[qbE];exact o5.last (kg hO hk ka kb hl h1)
 ·rw[Q8 (by simpa using h1)];by_cases h2:(decide (p<7) && decide (q<7))=true
  ·rw[Q7 h2];exact Qz ⟨hs,.inr ⟨rfl,o5,by show i+1+1<a.size;omega,hj,by show m<=i+1+j;omega⟩⟩
  ·rw[Q8 h2];exact Qz ⟨⟨hs,.inr ⟨rfl,o5,by show i+1+1<a.size;omega,hj,by show m<=i+1+j;omega⟩⟩,rfl⟩
theorem qfa{o:Array Keyed}{i j g p q m:Nat}{b0:SortSt}(hs:∃ g,b0=jk st g)(mi:MI (kl κ) a.toList b.toList o.toList i j)(hi:i+1<a.size)(hj:j<b.size)(hm:m<=i+j)(hx:∀ y∈a.toList.drop i,kl κ b[j] y):wpS (model prog w) A E s (lo2 a b o i j g p q) (vJ κ a b st m) b0:=by
 unfold lo2;refine Q0 (qC (p:=b[j]) (getElem?_pos b j (by omega)) ?_);have o5:MI (kl κ) a.toList b.toList (o.push b[j]).toList i (j+1):=by
  rw[Zn];exact mi.takeB (zH (vv (by omega))) (λ x i5 y hy=>by rw[Y9.mp i5];exact hx y hy)
 by_cases h1:j+1=b.size
 ·rw[Q7 (by simpa using h1)];refine Qz ⟨hs,.inl ⟨_,rfl,?_⟩⟩;rw[qag];exact o5.endB (by rw[Ym];omega)
 ·rw[Q8 (by simpa using h1)];refine Q0 (qC (p:=a[i]) (getElem?_pos a i (by omega)) ?_);have x3:kindOf b0=oneType':=by obtain⟨g,rfl⟩:=hs;exact hk
  refine Q0 (zI hO (b.toList.drop (j+1)) (XC (by rw[Z0,Ym];exact Ql _)) x3 (ka _ (by simp)) (by omega) (λ x hx=>kb x (Yg hx)) ((Yf.mp o5.sb).2.1) (by omega) λ k lY k1 k2=>?_);have ha:=mi.headA hO hk ka kb hl (show i<a.size by omega);have mk:MI (kl κ) a.toList b.toList (o.push b[j]++b.extract (j+1) (j+1+k)).toList i (j+1+k):=by
   rw[Yt,qcm];exact o5.takeB (drop_take _ _ _) λ x hx y hy=>Z9 (BtT (k1 x hx)) (ha y hy)
  have eU:∀ y∈b.toList.drop (j+1+k),kl κ a[i] y:=λ y hy=>qgl (k2 y (by rw[Je];exact hy))
  dsimp only;by_cases K0:k > 0
  ·rw[Q7 K0];by_cases h3:j+1+k=b.size
   ·rw[Q7 (by simpa using h3)];refine Qz ⟨hs,.inl ⟨_,rfl,?_⟩⟩;rw[qag];exact mk.endB (by rw[Ym];omega)
   ·rw[Q8 (by simpa using h3)];exact qe9 hO hk ka kb hl hs mk hi (by omega) (by omega) eU
  ·rw[Q8 K0]
   have:k=0:=by omega
   subst this;exact qe9 hO hk ka kb hl hs o5 hi (by omega) (by omega) eU
theorem qfb{o:Array Keyed}{i j g p q m:Nat}{b0:SortSt}(hs:∃ g,b0=jk st g)(mi:MI (kl κ) a.toList b.toList o.toList i j)(hi:i+1<a.size)(hj:j<b.size)(hm:m<=i+j):wpS (model prog w) A E s (lo1 a b o i j g p q) (vJ κ a b st m) b0:=by
 unfold lo1;refine Q0 (Qw ?_);have u8:∃ g',jk b0 g=jk st g':=by obtain⟨g1,rfl⟩:=hs;exact⟨g,rfl⟩
 have x3:kindOf (jk b0 g)=oneType':=by obtain⟨g1,rfl⟩:=hs;exact hk
 refine Q0 (qC (p:=b[j]) (getElem?_pos b j (by omega)) ?_);refine Q0 (zI hO (a.toList.drop i) (XC (by rw[Z0,Ym];exact Ql _)) x3 (kb _ (by simp)) (by omega) (λ x hx=>ka x (Yg hx)) ((Yf.mp mi.sa).2.1) (by omega) λ k lY k1 k2=>?_);have hb:=mi.headB hO hk ka kb hl hj;have mk:MI (kl κ) a.toList b.toList (o++a.extract i (i+k)).toList (i+k) j:=by
  rw[Yt,qcm];exact mi.takeA (drop_take _ _ _) λ x hx y hy=>Z9 (BtF (k1 x hx)) (hb y hy)
 have bG:∀ y∈a.toList.drop (i+k),kl κ b[j] y:=λ y hy=>qhr (k2 y (by rw[Je];exact hy))
 dsimp only;by_cases K0:k > 0
 ·rw[Q7 K0];by_cases h3:i+k+1=a.size
  ·rw[Q7 (by simpa using h3)];refine Qz ⟨u8,.inl ⟨_,rfl,?_⟩⟩;rw[qbE];exact mk.last (kg hO hk ka kb hl h3)
  ·rw[Q8 (by simpa using h3)];by_cases h4:i+k=a.size
   ·rw[Q7 (by simpa using h4)];refine Qz ⟨u8,.inl ⟨_,rfl,?_⟩⟩;rw[qag];exact mk.endA (by rw[Ym];omega)
   ·rw[Q8 (by simpa using h4)];exact qfa hO hk ka kb hl u8 mk (by omega) hj (by omega) bG
 ·rw[Q8 K0]
  have:k=0:=by omega
  subst this;exact qfa hO hk ka kb hl u8 mi hi hj hm bG
theorem qhs{g:Nat}{r:C1}{m:Nat}{b0:SortSt}(ok:Ok κ a b st m r b0)(hn:r.1=none):wpS (model prog w) A E s (lo0 a b g r) (vJ κ a b st (m+1)) b0:=by
 obtain⟨v,o,i,j,p,q⟩:=r;obtain⟨hs,⟨r,h1,h2⟩|⟨_,mi,hi,hj,hm⟩⟩:=ok
 ·rw[hn] at h1;cases h1
 change MI (kl κ) a.toList b.toList o.toList i j at mi
 change i+1<a.size at hi
 change j<b.size at hj
 change m<=i+j at hm
 unfold lo0;dsimp only;have x3:kindOf b0=oneType':=by obtain⟨g,rfl⟩:=hs;exact hk
 refine Q0 (qC (p:=b[j]) (getElem?_pos b j (by omega)) ?_);refine Q0 (qC (p:=a[i]) (getElem?_pos a i (by omega)) ?_);refine Q0 (qae hO x3 (kb _ (by simp)) (ka _ (by simp)) ?_);dsimp only;cases hc:κ.blt (ky κ b[j]) (ky κ a[i]) with
 |true =>
  rw[Q7 rfl];refine Q0 (qC (p:=b[j]) (getElem?_pos b j (by omega)) ?_);have ha:=mi.headA hO hk ka kb hl (show i<a.size by omega);have o5:MI (kl κ) a.toList b.toList (o.push b[j]).toList i (j+1):=by
   rw[Zn];exact mi.takeB (zH (vv (by omega))) (λ x i5 y hy=>by rw[Y9.mp i5];exact Z9 (Zq hc) (ha y hy))
  by_cases h1:j+1=b.size
  ·rw[Q7 (by simpa using h1)];refine Qz ⟨hs,.inl ⟨_,rfl,?_⟩⟩;rw[qag];exact o5.endB (by rw[Ym];omega)
  ·rw[Q8 (by simpa using h1)];by_cases h2:q+1 ≥ g
   ·rw[Q7 h2];exact Qz ⟨hs,.inr ⟨rfl,o5,hi,by show j+1<b.size;omega,by show m+1<=i+(j+1);omega⟩⟩
   ·rw[Q8 h2];exact Qz ⟨⟨hs,.inr ⟨rfl,o5,hi,by show j+1<b.size;omega,by show m+1<=i+(j+1);omega⟩⟩,rfl⟩
 |false =>
  rw[Q8 (by simp)];refine Q0 (qC (p:=a[i]) (getElem?_pos a i (by omega)) ?_);have hb:=mi.headB hO hk ka kb hl hj;have o5:MI (kl κ) a.toList b.toList (o.push a[i]).toList (i+1) j:=by
   rw[Zn];exact mi.takeA (zH (vv (by omega))) (λ x i5 y hy=>by rw[Y9.mp i5];exact Z9 hc (hb y hy))
  by_cases h1:i+1+1=a.size
  ·rw[Q7 (by simpa using h1)];refine Qz ⟨hs,.inl ⟨_,rfl,?_⟩⟩;rw[qbE];exact o5.last (kg hO hk ka kb hl h1)
  ·rw[Q8 (by simpa using h1)];by_cases h2:p+1 ≥ g
   ·rw[Q7 h2];exact Qz ⟨hs,.inr ⟨rfl,o5,by show i+1+1<a.size;omega,hj,by show m+1<=i+1+j;omega⟩⟩
   ·rw[Q8 h2];exact Qz ⟨⟨hs,.inr ⟨rfl,o5,by show i+1+1<a.size;omega,hj,by show m+1<=i+1+j;omega⟩⟩,rfl⟩
end
section
variable {prog:Program}{w:World}{A:Around}{E:Value->Shared->Prop}{s:Shared}{κ:KeyKind}{a b:Array Keyed}{st:SortSt}
theorem Ok.mono{γ:Type}{m m':Nat}{c:Option (Array Keyed)×Array Keyed×Nat×Nat×γ}{b0:SortSt}(h:Ok κ a b st m c b0)(hm:m'<=m):Ok κ a b st m' c b0:=by
 obtain⟨hs,h|⟨h1,h2,h3,h4,h5⟩⟩:=h
 ·exact⟨hs,.inl h⟩
 ·exact⟨hs,.inr ⟨h1,h2,h3,h4,J7 hm h5⟩⟩
theorem qcn(hO:κ.OneLt){Q:Array Keyed->SortSt->Prop}(hk:kindOf st=oneType')(ka:∀ x∈a.toList,Kd κ x)(kb:∀ x∈b.toList,Kd κ x)(h0:MI (kl κ) a.toList b.toList [] 0 0)(a1:0<a.size)(b1:0<b.size)(hd:∀ y∈a.toList,kl κ b[0] y)(hl:∀ x∈a.toList.drop (a.size-1),∀ y∈b.toList,kl κ y x)(h:∀(o:Array Keyed)(g:Nat),Gd (kl κ) a.toList b.toList o.toList->Q o (jk st g)):wpS (model prog w) A E s (qaf a b) Q st:=by
 rw[qcV];refine Q0 (wpS_lift (Qv ⟨rfl,?_⟩));refine Q0 (qC (p:=b[0]) (getElem?_pos b 0 b1) ?_);dsimp only;have mi:MI (kl κ) a.toList b.toList (#[b[0]]:Array Keyed).toList 0 1:=by
  have:=h0.takeB (zH (vv b1)) (λ x hx y hy=>by rw[Y9.mp hx];exact hd y (Yg hy))
  simpa using this
 by_cases h1:1=b.size
 ·rw[Q7 (by simpa using h1)];refine Qz (h _ (gallopOf st) ?_);rw[qag];exact mi.endB (by rw[Ym];omega)
 rw[Q8 (by simpa using h1)];by_cases h2:0+1=a.size
 ·rw[Q7 (by simpa using h2)];refine Qz (h _ (gallopOf st) ?_);rw[qbE];exact mi.last (kg hO hk ka kb hl h2)
 rw[Q8 (by simpa using h2)];refine Q0 (Q5 ?_);refine Q0 (Q1 (Qk (I:=λ x (c:C0) b0=>Ok κ a b st (x+1) c b0/\c.1=none) (Q:=λ c b0=>Ok κ a b st 0 c b0/\c.1≠none) ?step ?fin ⟨⟨⟨gallopOf st,rfl⟩,.inr ⟨rfl,mi,by show 0+1<a.size;omega,by show 1<b.size;omega,by show 0+1<=0+1;omega⟩⟩,rfl⟩) ?post)
 case post =>
  rintro⟨v,c⟩ b0 ⟨⟨⟨g,rfl⟩,ok⟩,hv⟩;rcases ok with⟨r,e,gd⟩|⟨e,_⟩
  ·cases e
   exact Qz (h r g gd)
  ·exact absurd e hv
 case fin =>
  rintro⟨v,o,i,j,g⟩ b0 ⟨⟨hs,ok⟩,hv⟩;rcases ok with⟨r,e,gd⟩|⟨e,_,hi,hj,hm⟩
  ·rw[hv] at e;cases e
  ·change i+1<a.size at hi
   change j<b.size at hj
   change _<=i+j at hm
   omega
 case step =>
  rintro x c b0 _ hx ⟨ok,hn⟩;obtain⟨v,o,i,j,g⟩:=c;cases hn
  have rC:Ok κ a b st (x+1) ((none,o,i,j,0,0):C1) b0:=ok;refine Q0 (Q1 (Qk (I:=λ y (c:C1) b0=>Ok κ a b st (x+1+y) c b0/\c.1=none) (Q:=λ c b0=>Ok κ a b st (x+2) c b0) ?istep ?ifin ⟨rC,rfl⟩) ?ipost)
  case istep =>
   rintro y c d9 _ hy ⟨L7,cO⟩;refine Q1 (show wpS (model prog w) A E s (lo0 a b g c) (vJ κ a b st (x+1+y+1)) d9 from qhs hO hk ka kb hl L7 cO) λ r B3 hr=>?_
   cases r with
   |done c=>exact Ok.mono hr (by omega)
   |yield c=>exact hr
  case ifin =>
   rintro⟨v,o,i,j,p,q⟩ d9 ⟨⟨hs,L7⟩,hv⟩;rcases L7 with⟨r,e,gd⟩|⟨e,_,hi,hj,hm⟩
   ·rw[hv] at e;cases e
   ·change i+1<a.size at hi
    change j<b.size at hj
    change _<=i+j at hm
    omega
  case ipost =>
   rintro⟨v,o,i,j,p,q⟩ d9 ⟨hs,L7⟩;dsimp only;cases v with
   |some v =>
    rcases L7 with⟨r,e,gd⟩|⟨e,_⟩
    ·cases e
     exact Qz ⟨⟨hs,.inl ⟨_,rfl,gd⟩⟩,by simp⟩
    ·cases e
   |none =>
    dsimp only;refine Q0 (wpS_lift (Qv ⟨rfl,?_⟩));have rB:Ok κ a b st (x+2) ((none,o,i,j,g+1,p,q):C2) d9:=⟨hs,L7⟩;refine Q0 (Q1 (Qk (I:=λ y (c:C2) b0=>Ok κ a b st (x+2) c b0/\c.1=none) (Q:=λ c b0=>Ok κ a b st (x+2) c b0) ?jstep ?jfin ⟨rB,rfl⟩) ?jpost)
    case jfin=>exact λ c b0 hc=>hc.1
    case jstep =>
     rintro y ⟨v,o,i,j,g,p,q⟩ B3 _ hy ⟨⟨hs,S9⟩,hn⟩;have aI:v=none:=hn;subst aI;rcases S9 with⟨r,e,gd⟩|⟨_,mi,hi,hj,hm⟩
     ·cases e
     change MI (kl κ) a.toList b.toList o.toList i j at mi
     change i+1<a.size at hi
     change j<b.size at hj
     change _<=i+j at hm
     refine Q1 (Q:=vJ κ a b st (x+2)) ?_ λ r B3 hr=>?_
     ·by_cases hg:g > 1
      ·dsimp only;rw[Q7 hg];show wpS (model prog w) A E s (lo1 a b o i j (g-1) p q) _ _
       exact qfb hO hk ka kb hl hs mi hi hj hm
      ·dsimp only;rw[Q8 hg];show wpS (model prog w) A E s (lo1 a b o i j g p q) _ _
       exact qfb hO hk ka kb hl hs mi hi hj hm
     ·cases r with
      |done c=>exact hr
      |yield c=>exact hr
    case jpost =>
     rintro⟨v,o,i,j,g,p,q⟩ B3 ⟨hs,S9⟩;dsimp only;cases v with
     |some v =>
      rcases S9 with⟨r,e,gd⟩|⟨e,_⟩
      ·cases e
       exact Qz ⟨⟨hs,.inl ⟨_,rfl,gd⟩⟩,by simp⟩
      ·cases e
     |none =>
      refine Q0 (Qw (Qz ⟨⟨?_,S9⟩,rfl⟩));obtain⟨g1,rfl⟩:=hs;exact⟨g+1,rfl⟩
end
structure MH{α:Type}(r:α->α->Prop)(la lb O:List α)(i j:Nat):Prop where
 sa:(la.take i++O).Pairwise r
 sb:(lb.take j++O).Pairwise r
 pm:(la.take i++(lb.take j++O)).Perm (la++lb)
theorem MH.takeA{α:Type}{r:α->α->Prop}{la lb O:List α}{i j i':Nat}(h:MH r la lb O i j){X:List α}(e:la.take i=la.take i'++X)(hx:∀ x∈X,∀ y∈lb.take j,r y x):MH r la lb (X++O) i' j:=by
 have h1:=h.sa;rw[e,Zi] at h1;have h2:=Yf.mp h.sb;refine⟨h1,Yf.mpr ⟨h2.1,(Yf.mp h1).2.1,λ x i5 y hy=>?_⟩,?_⟩
 ·rcases Ug.mp hy with hX | hO
  ·exact hx y hX x i5
  ·exact h2.2.2 x i5 y hO
 ·have:=h.pm
  rw[e,Zi] at this;exact((Xf (lb.take j) X O).append_left (la.take i')).trans this
theorem MH.takeB{α:Type}{r:α->α->Prop}{la lb O:List α}{i j j':Nat}(h:MH r la lb O i j){X:List α}(e:lb.take j=lb.take j'++X)(hx:∀ x∈X,∀ y∈la.take i,r y x):MH r la lb (X++O) i j':=by
 have h1:=h.sb;rw[e,Zi] at h1;have h2:=Yf.mp h.sa;refine⟨Yf.mpr ⟨h2.1,(Yf.mp h1).2.1,λ x i5 y hy=>?_⟩,h1,?_⟩
 ·rcases Ug.mp hy with hX | hO
  ·exact hx y hX x i5
  ·exact h2.2.2 x i5 y hO
 ·have:=h.pm
  rw[e,Zi] at this;exact this
theorem MH.endA{α:Type}{r:α->α->Prop}{la lb O:List α}{i j:Nat}(h:MH r la lb O i j)(e:i=0):Gd r la lb (la.take i++lb.take j++O):=by
 subst e;exact⟨h.sb,h.pm⟩
theorem MH.endB{α:Type}{r:α->α->Prop}{la lb O:List α}{i:Nat}(h:MH r la lb O i 0):Gd r la lb (la.take i++lb.take 0++O):=by
 have h1:=h.pm;rw[Jd,Ui];exact⟨h.sa,h1⟩
theorem MH.first{α:Type}{r:α->α->Prop}{la lb O:List α}{i j:Nat}(h:MH r la lb O i j)(hl:∀ x∈lb.take j,∀ y∈la,r x y):Gd r la lb (lb.take j++la.take i++O):=by
 have hb:=Yf.mp h.sb;refine⟨?_,?_⟩
 ·rw[Zi];refine Yf.mpr ⟨hb.1,h.sa,λ x hx y hy=>?_⟩;rcases Ug.mp hy with hA | hO
  ·exact hl x hx y (Yi hA)
  ·exact hb.2.2 x hx y hO
 ·rw[Zi];exact(Xf (lb.take j) (la.take i) O).trans h.pm
theorem qS{α:Type}{l:List α}{i:Nat}{x:α}(h:l[i]?=some x):l.take (i+1)=l.take i++[x]:=by
 obtain⟨hi,e⟩:=Xl.mp h;rw[Xa hi,e]
theorem qa9{α:Type}(l:List α){i k:Nat}(h:k<=i):l.take i=l.take k++(l.take i).drop k:=by
 have:=(XN k (l.take i)).symm
 rwa [List.take_take,Uu h] at this
def qah:Array Keyed->Array Keyed->SM (Array Keyed):=sortPriv% PySem.Builtin.mergeHi
def jD(a b o:Array Keyed)(i j:Nat):Array Keyed:=a.extract 0 i++b.extract 0 j++o.reverse
def qbF(a b o:Array Keyed)(i j:Nat):Array Keyed:=b.extract 0 j++a.extract 0 i++o.reverse
abbrev D1:=Option (Array Keyed)×Nat×Nat×Array Keyed×Nat×Nat
abbrev D2:=Option (Array Keyed)×Nat×Nat×Array Keyed×Nat×Nat×Nat
abbrev D0:=Option (Array Keyed)×Nat×Nat×Array Keyed×Nat
theorem qcW(a b:Array Keyed):qah a b=(do
 rule "list.sort.merge-hi"
 let t:=a.size+b.size
 let mut i:=a.size-1
 let mut j:=b.size
 let mut o:Array Keyed:=#[<- elem' a i]
 if i == 0 then return jD a b o i j
 if j == 1 then return qbF a b o i j
 let mut g:=gallopOf (<- get)
 for _ in [0:t] do
  let mut p:=0
  let mut q:=0
  for _ in [0:t] do
   let some c <- lt' (<- elem' b (j-1)) (<- elem' a (i-1))|return jD a b o i j
   if c then
    i:=i-1;o:=o.push (<- elem' a i);p:=p+1;q:=0
    if i == 0 then return jD a b o i j
    if p ≥ g then break
   else
    j:=j-1;o:=o.push (<- elem' b j);q:=q+1;p:=0
    if j == 1 then return qbF a b o i j
    if q ≥ g then break
  rule "list.sort.gallop"
  g:=g+1
  for _ in [0:t] do
   if g > 1 then g:=g-1
   qd9 g
   let some u <- zC false (<- elem' b (j-1)) a 0 i (i-1)|return jD a b o i j
   let k:=i-u
   p:=k
   if k > 0 then
    o:=o++(a.extract u i).reverse;i:=u
    if i == 0 then return jD a b o i j
   j:=j-1;o:=o.push (<- elem' b j)
   if j == 1 then return qbF a b o i j
   let some u <- zC true (<- elem' a (i-1)) b 0 j (j-1)|return jD a b o i j
   let k:=j-u
   q:=k
   if k > 0 then
    o:=o++(b.extract u j).reverse;j:=u
    if j == 1 then return qbF a b o i j
    if j == 0 then return jD a b o i j
   i:=i-1;o:=o.push (<- elem' a i)
   if i == 0 then return jD a b o i j
   if p<7 && q<7 then break
  g:=g+1
  qd9 g
 unsupported "internal:list.sort.merge-bound"):=rfl
def hi3(a b o:Array Keyed)(i j g p q:Nat):SM (ForInStep D2):=do
 let x <- elem' a (i-1)
 if i-1 == 0 then pure (.done (some (jD a b (o.push x) (i-1) j),i-1,j,o.push x,g,p,q))
 else if p<7 && q<7 then pure (.done (none,i-1,j,o.push x,g,p,q))
 else pure (.yield (none,i-1,j,o.push x,g,p,q))
def hi2(a b o:Array Keyed)(i j g p q:Nat):SM (ForInStep D2):=do
 let x <- elem' b (j-1)
 if j-1 == 1 then pure (.done (some (qbF a b (o.push x) i (j-1)),i,j-1,o.push x,g,p,q))
 else do
  let y <- elem' a (i-1)
  let c <- zC true y b 0 (j-1) (j-1-1)
  match c with
  |some u =>
   if j-1-u > 0 then
    if u == 1 then pure (.done (some (qbF a b (o.push x++(b.extract u (j-1)).reverse) i u),i,u,o.push x++(b.extract u (j-1)).reverse,g,p,j-1-u))
    else if u == 0 then pure (.done (some (jD a b (o.push x++(b.extract u (j-1)).reverse) i u),i,u,o.push x++(b.extract u (j-1)).reverse,g,p,j-1-u))
    else hi3 a b (o.push x++(b.extract u (j-1)).reverse) i u g p (j-1-u)
   else hi3 a b (o.push x) i (j-1) g p (j-1-u)
  |_=>pure (.done (some (jD a b (o.push x) i (j-1)),i,j-1,o.push x,g,p,q))
def hi1(a b o:Array Keyed)(i j g p q:Nat):SM (ForInStep D2):=do
 qd9 g
 let x <- elem' b (j-1)
 let c <- zC false x a 0 i (i-1)
 match c with
 |some u =>
  if i-u > 0 then
   if u == 0 then pure (.done (some (jD a b (o++(a.extract u i).reverse) u j),u,j,o++(a.extract u i).reverse,g,i-u,q))
   else hi2 a b (o++(a.extract u i).reverse) u j g (i-u) q
  else hi2 a b o i j g (i-u) q
 |_=>pure (.done (some (jD a b o i j),i,j,o,g,p,q))
def hi0(a b:Array Keyed)(g:Nat)(r:D1):SM (ForInStep D1):=do
 let y <- elem' b (r.2.2.1-1)
 let x <- elem' a (r.2.1-1)
 let c <- lt' y x
 match c with
 |some c =>
  if c then do
   let z <- elem' a (r.2.1-1)
   if r.2.1-1 == 0 then pure (.done (some (jD a b (r.2.2.2.1.push z) (r.2.1-1) r.2.2.1),r.2.1-1,r.2.2.1,r.2.2.2.1.push z,r.2.2.2.2.1+1,0))
   else if r.2.2.2.2.1+1 ≥ g then pure (.done (none,r.2.1-1,r.2.2.1,r.2.2.2.1.push z,r.2.2.2.2.1+1,0))
   else pure (.yield (none,r.2.1-1,r.2.2.1,r.2.2.2.1.push z,r.2.2.2.2.1+1,0))
  else do
   let z <- elem' b (r.2.2.1-1)
   if r.2.2.1-1 == 1 then pure (.done (some (qbF a b (r.2.2.2.1.push z) r.2.1 (r.2.2.1-1)),r.2.1,r.2.2.1-1,r.2.2.2.1.push z,0,r.2.2.2.2.2+1))
   else if r.2.2.2.2.2+1 ≥ g then pure (.done (none,r.2.1,r.2.2.1-1,r.2.2.2.1.push z,0,r.2.2.2.2.2+1))
   else pure (.yield (none,r.2.1,r.2.2.1-1,r.2.2.2.1.push z,0,r.2.2.2.2.2+1))
 |_=>pure (.done (some (jD a b r.2.2.2.1 r.2.1 r.2.2.1),r.2.1,r.2.2.1,r.2.2.2.1,r.2.2.2.2.1,r.2.2.2.2.2))
def OkH{γ:Type}(κ:KeyKind)(a b:Array Keyed)(st:SortSt)(m:Nat)(c:Option (Array Keyed)×Nat×Nat×Array Keyed×γ)(b0:SortSt):Prop:=
 (∃ g,b0=jk st g)/\((∃ r,c.1=some r/\Gd (kl κ) a.toList b.toList r.toList)∨(c.1=none/\MH (kl κ) a.toList b.toList c.2.2.2.1.toList.reverse c.2.1 c.2.2.1/\0<c.2.1/\c.2.1<=a.size/\1<c.2.2.1/\c.2.2.1<=b.size/\c.2.1+c.2.2.1+m<=a.size+b.size))
def qba{γ:Type}(κ:KeyKind)(a b:Array Keyed)(st:SortSt)(m:Nat):ForInStep (Option (Array Keyed)×Nat×Nat×Array Keyed×γ)->SortSt->Prop
 |.done c,b0=>OkH κ a b st m c b0
 |.yield c,b0=>OkH κ a b st m c b0/\c.1=none
theorem qbG(a:Array Keyed)(i:Nat):(a.extract 0 i).toList=a.toList.take i:=by
 rw[Yh,Xs,Jf,Nat.sub_zero]
theorem qdB(a:Array Keyed)(u i:Nat):((a.extract u i).reverse).toList.reverse=(a.toList.take i).drop u:=by
 rw[Yj,List.reverse_reverse,Yh,Xs,List.drop_take]
theorem qai(a b o:Array Keyed)(i j:Nat):(jD a b o i j).toList=a.toList.take i++b.toList.take j++o.toList.reverse:=by
 unfold jD;rw[Yt,Yt,qbG,qbG,Yj]
theorem qbH(a b o:Array Keyed)(i j:Nat):(qbF a b o i j).toList=b.toList.take j++a.toList.take i++o.toList.reverse:=by
 unfold qbF;rw[Yt,Yt,qbG,qbG,Yj]
theorem vw(o:Array Keyed)(x:Keyed):(o.push x).toList.reverse=[x]++o.toList.reverse:=by
 rw[Zn,List.reverse_append];rfl
theorem qdC(o u:Array Keyed):(o++u).toList.reverse=u.toList.reverse++o.toList.reverse:=by
 rw[Yt,List.reverse_append]
theorem zW{a:Array Keyed}{i:Nat}(h0:0<i)(h:i<=a.size):a.toList.take i=a.toList.take (i-1)++[a[i-1]]:=by
 have:=qS (vv (a:=a) (i:=i-1) (by omega))
 rwa [Nat.sub_add_cancel h0] at this
section
variable {prog:Program}{w:World}{A:Around}{E:Value->Shared->Prop}{s:Shared}{κ:KeyKind}{a b:Array Keyed}{st:SortSt}
variable (hO:κ.OneLt)(hk:kindOf st=oneType')(ka:∀ x∈a.toList,Kd κ x)(kb:∀ x∈b.toList,Kd κ x)(hd:∀ x∈b.toList.take 1,∀ y∈a.toList,kl κ x y)
include hO hk ka kb hd
theorem MH.tailA{O:List Keyed}{i j:Nat}(m:MH (kl κ) a.toList b.toList O i j)(h0:0<i)(hi:i<=a.size):∀ y∈a.toList.take i,kl κ y a[i-1]:=by
 have:=(Yf.mp m.sa).1
 rw[zW h0 hi] at this ⊢;intro y hy;rcases Ug.mp hy with h|h
 ·exact(Yf.mp this).2.2 y h _ (Y9.mpr rfl)
 ·rw[Y9.mp h];exact Ut _
theorem MH.tailB{O:List Keyed}{i j:Nat}(m:MH (kl κ) a.toList b.toList O i j)(h0:0<j)(hj:j<=b.size):∀ y∈b.toList.take j,kl κ y b[j-1]:=by
 have:=(Yf.mp m.sb).1
 rw[zW h0 hj] at this ⊢;intro y hy;rcases Ug.mp hy with h|h
 ·exact(Yf.mp this).2.2 y h _ (Y9.mpr rfl)
 ·rw[Y9.mp h];exact Ut _
theorem qfc{o:Array Keyed}{i j g p q m:Nat}{b0:SortSt}(hs:∃ g,b0=jk st g)(mi:MH (kl κ) a.toList b.toList o.toList.reverse i j)(i0:0<i)(hi:i<=a.size)(j1:1<j)(hj:j<=b.size)(hm:i+j+m<=a.size+b.size)(hx:∀ y∈b.toList.take j,kl κ y a[i-1]):wpS (model prog w) A E s (hi3 a b o i j g p q) (qba κ a b st m) b0:=by
 unfold hi3;refine Q0 (qC (p:=a[i-1]) (getElem?_pos a (i-1) (by omega)) ?_);have o5:MH (kl κ) a.toList b.toList (o.push a[i-1]).toList.reverse (i-1) j:=by
  rw[vw];exact mi.takeA (zW i0 hi) (λ x i5 y hy=>by rw[Y9.mp i5];exact hx y hy)
 by_cases h1:i-1=0
 ·rw[Q7 (by simpa using h1)];refine Qz ⟨hs,.inl ⟨_,rfl,?_⟩⟩;rw[qai];exact o5.endA h1
 ·rw[Q8 (by simpa using h1)];by_cases h2:(decide (p<7) && decide (q<7))=true
  ·rw[Q7 h2];exact Qz ⟨hs,.inr ⟨rfl,o5,by show 0<i-1;omega,by show i-1<=a.size;omega,j1,hj,by show i-1+j+m<=_;omega⟩⟩
  ·rw[Q8 h2];exact Qz ⟨⟨hs,.inr ⟨rfl,o5,by show 0<i-1;omega,by show i-1<=a.size;omega,j1,hj,by show i-1+j+m<=_;omega⟩⟩,rfl⟩
theorem qfd{o:Array Keyed}{i j g p q m:Nat}{b0:SortSt}(hs:∃ g,b0=jk st g)(mi:MH (kl κ) a.toList b.toList o.toList.reverse i j)(i0:0<i)(hi:i<=a.size)(j1:1<j)(hj:j<=b.size)(hm:i+j+m<=a.size+b.size)(hx:∀ y∈a.toList.take i,kl κ y b[j-1]):wpS (model prog w) A E s (hi2 a b o i j g p q) (qba κ a b st m) b0:=by
 unfold hi2;refine Q0 (qC (p:=b[j-1]) (getElem?_pos b (j-1) (by omega)) ?_);have o5:MH (kl κ) a.toList b.toList (o.push b[j-1]).toList.reverse i (j-1):=by
  rw[vw];exact mi.takeB (zW (by omega) hj) (λ x i5 y hy=>by rw[Y9.mp i5];exact hx y hy)
 by_cases h1:j-1=1
 ·rw[Q7 (by simpa using h1)];refine Qz ⟨hs,.inl ⟨_,rfl,?_⟩⟩;rw[qbH];exact o5.first (by rw[h1];exact hd)
 ·rw[Q8 (by simpa using h1)];refine Q0 (qC (p:=a[i-1]) (getElem?_pos a (i-1) (by omega)) ?_);have x3:kindOf b0=oneType':=by obtain⟨g,rfl⟩:=hs;exact hk
  refine Q0 (zI hO (b.toList.take (j-1)) (by rw[Jf]) x3 (ka _ (by simp)) (by omega) (λ x hx=>kb x (Yi hx)) ((Yf.mp o5.sb).1) (by omega) λ u t6 k1 k2=>?_);have ha:=mi.tailA hO hk ka kb hd i0 hi;have mk:MH (kl κ) a.toList b.toList (o.push b[j-1]++(b.extract u (j-1)).reverse).toList.reverse i u:=by
   rw[qdC,qdB];exact o5.takeB (qa9 _ t6) λ x hx y hy=>Z9 (ha y hy) (qgl (k2 x hx))
  have eU:∀ y∈b.toList.take u,kl κ y a[i-1]:=λ y hy=>BtT (k1 y (by rw[List.take_take,Uu t6];exact hy))
  dsimp only;by_cases K0:j-1-u > 0
  ·rw[Q7 K0];by_cases h3:u=1
   ·rw[Q7 (by simpa using h3)];refine Qz ⟨hs,.inl ⟨_,rfl,?_⟩⟩;rw[qbH];exact mk.first (by rw[h3];exact hd)
   ·rw[Q8 (by simpa using h3)];by_cases h4:u=0
    ·rw[Q7 (by simpa using h4)];refine Qz ⟨hs,.inl ⟨_,rfl,?_⟩⟩;rw[qai];subst h4;exact mk.endB
    ·rw[Q8 (by simpa using h4)];exact qfc hO hk ka kb hd hs mk i0 hi (by omega) (by omega) (by omega) eU
  ·rw[Q8 K0]
   have:u=j-1:=by omega
   subst this;exact qfc hO hk ka kb hd hs o5 i0 hi (by omega) (by omega) (by omega) eU
theorem qfe{o:Array Keyed}{i j g p q m:Nat}{b0:SortSt}(hs:∃ g,b0=jk st g)(mi:MH (kl κ) a.toList b.toList o.toList.reverse i j)(i0:0<i)(hi:i<=a.size)(j1:1<j)(hj:j<=b.size)(hm:i+j+m<=a.size+b.size):wpS (model prog w) A E s (hi1 a b o i j g p q) (qba κ a b st m) b0:=by
 unfold hi1;refine Q0 (Qw ?_);have u8:∃ g',jk b0 g=jk st g':=by obtain⟨g1,rfl⟩:=hs;exact⟨g,rfl⟩
 have x3:kindOf (jk b0 g)=oneType':=by obtain⟨g1,rfl⟩:=hs;exact hk
 refine Q0 (qC (p:=b[j-1]) (getElem?_pos b (j-1) (by omega)) ?_);refine Q0 (zI hO (a.toList.take i) (by rw[Jf]) x3 (kb _ (by simp)) (by omega) (λ x hx=>ka x (Yi hx)) ((Yf.mp mi.sa).1) (by omega) λ u t6 k1 k2=>?_);have hb:=mi.tailB hO hk ka kb hd (by omega) hj;have mk:MH (kl κ) a.toList b.toList (o++(a.extract u i).reverse).toList.reverse u j:=by
  rw[qdC,qdB];exact mi.takeA (qa9 _ t6) λ x hx y hy=>Z9 (hb y hy) (qhr (k2 x hx))
 have bG:∀ y∈a.toList.take u,kl κ y b[j-1]:=λ y hy=>BtF (k1 y (by rw[List.take_take,Uu t6];exact hy))
 dsimp only;by_cases K0:i-u > 0
 ·rw[Q7 K0];by_cases h4:u=0
  ·rw[Q7 (by simpa using h4)];refine Qz ⟨u8,.inl ⟨_,rfl,?_⟩⟩;rw[qai];exact mk.endA h4
  ·rw[Q8 (by simpa using h4)];exact qfd hO hk ka kb hd u8 mk (by omega) (by omega) j1 hj (by omega) bG
 ·rw[Q8 K0]
  have:u=i:=by omega
  subst this;exact qfd hO hk ka kb hd u8 mi i0 hi j1 hj hm bG
theorem qht{g:Nat}{r:D1}{m:Nat}{b0:SortSt}(ok:OkH κ a b st m r b0)(hn:r.1=none):wpS (model prog w) A E s (hi0 a b g r) (qba κ a b st (m+1)) b0:=by
 obtain⟨v,i,j,o,p,q⟩:=r;obtain⟨hs,⟨r,h1,h2⟩|⟨_,mi,i0,hi,j1,hj,hm⟩⟩:=ok
 ·rw[hn] at h1;cases h1
 change MH (kl κ) a.toList b.toList o.toList.reverse i j at mi
 change 0<i at i0
 change i<=a.size at hi
 change 1<j at j1
 change j<=b.size at hj
 change i+j+m<=_ at hm
 unfold hi0;dsimp only;have x3:kindOf b0=oneType':=by obtain⟨g,rfl⟩:=hs;exact hk
 refine Q0 (qC (p:=b[j-1]) (getElem?_pos b (j-1) (by omega)) ?_);refine Q0 (qC (p:=a[i-1]) (getElem?_pos a (i-1) (by omega)) ?_);refine Q0 (qae hO x3 (kb _ (by simp)) (ka _ (by simp)) ?_);dsimp only;cases hc:κ.blt (ky κ b[j-1]) (ky κ a[i-1]) with
 |true =>
  rw[Q7 rfl];refine Q0 (qC (p:=a[i-1]) (getElem?_pos a (i-1) (by omega)) ?_);have hb:=mi.tailB hO hk ka kb hd (by omega) hj;have o5:MH (kl κ) a.toList b.toList (o.push a[i-1]).toList.reverse (i-1) j:=by
   rw[vw];exact mi.takeA (zW i0 hi) (λ x i5 y hy=>by rw[Y9.mp i5];exact Z9 (hb y hy) (Zq hc))
  by_cases h1:i-1=0
  ·rw[Q7 (by simpa using h1)];refine Qz ⟨hs,.inl ⟨_,rfl,?_⟩⟩;rw[qai];exact o5.endA h1
  ·rw[Q8 (by simpa using h1)];by_cases h2:p+1 ≥ g
   ·rw[Q7 h2];exact Qz ⟨hs,.inr ⟨rfl,o5,by show 0<i-1;omega,by show i-1<=a.size;omega,j1,hj,by show i-1+j+(m+1)<=_;omega⟩⟩
   ·rw[Q8 h2];exact Qz ⟨⟨hs,.inr ⟨rfl,o5,by show 0<i-1;omega,by show i-1<=a.size;omega,j1,hj,by show i-1+j+(m+1)<=_;omega⟩⟩,rfl⟩
 |false =>
  rw[Q8 (by simp)];refine Q0 (qC (p:=b[j-1]) (getElem?_pos b (j-1) (by omega)) ?_);have ha:=mi.tailA hO hk ka kb hd i0 hi;have o5:MH (kl κ) a.toList b.toList (o.push b[j-1]).toList.reverse i (j-1):=by
   rw[vw];exact mi.takeB (zW (by omega) hj) (λ x i5 y hy=>by rw[Y9.mp i5];exact Z9 (ha y hy) hc)
  by_cases h1:j-1=1
  ·rw[Q7 (by simpa using h1)];refine Qz ⟨hs,.inl ⟨_,rfl,?_⟩⟩;rw[qbH];exact o5.first (by rw[h1];exact hd)
  ·rw[Q8 (by simpa using h1)];by_cases h2:q+1 ≥ g
   ·rw[Q7 h2];exact Qz ⟨hs,.inr ⟨rfl,o5,i0,hi,by show 1<j-1;omega,by show j-1<=b.size;omega,by show i+(j-1)+(m+1)<=_;omega⟩⟩
   ·rw[Q8 h2];exact Qz ⟨⟨hs,.inr ⟨rfl,o5,i0,hi,by show 1<j-1;omega,by show j-1<=b.size;omega,by show i+(j-1)+(m+1)<=_;omega⟩⟩,rfl⟩
end
section
variable {prog:Program}{w:World}{A:Around}{E:Value->Shared->Prop}{s:Shared}{κ:KeyKind}{a b:Array Keyed}{st:SortSt}
theorem OkH.mono{γ:Type}{m m':Nat}{c:Option (Array Keyed)×Nat×Nat×Array Keyed×γ}{b0:SortSt}(h:OkH κ a b st m c b0)(hm:m'<=m):OkH κ a b st m' c b0:=by
 obtain⟨hs,h|⟨h1,h2,h3,h4,h5,h6,h7⟩⟩:=h
 ·exact⟨hs,.inl h⟩
 ·exact⟨hs,.inr ⟨h1,h2,h3,h4,h5,h6,by omega⟩⟩
theorem qco(hO:κ.OneLt){Q:Array Keyed->SortSt->Prop}(hk:kindOf st=oneType')(ka:∀ x∈a.toList,Kd κ x)(kb:∀ x∈b.toList,Kd κ x)(h0:MH (kl κ) a.toList b.toList [] a.size b.size)(a1:0<a.size)(b1:0<b.size)(hd:∀ x∈b.toList.take 1,∀ y∈a.toList,kl κ x y)(hl:∀ y∈b.toList,kl κ y a[a.size-1])(h:∀(o:Array Keyed)(g:Nat),Gd (kl κ) a.toList b.toList o.toList->Q o (jk st g)):wpS (model prog w) A E s (qah a b) Q st:=by
 rw[qcW];refine Q0 (wpS_lift (Qv ⟨rfl,?_⟩));refine Q0 (qC (p:=a[a.size-1]) (getElem?_pos a (a.size-1) (by omega)) ?_);dsimp only;have mi:MH (kl κ) a.toList b.toList (#[a[a.size-1]]:Array Keyed).toList.reverse (a.size-1) b.size:=by
  have:=h0.takeA (zW a1 (Ql _)) (λ x hx y hy=>by rw[Y9.mp hx];exact hl y (Yi hy))
  simpa using this
 by_cases h1:a.size-1=0
 ·rw[Q7 (by simpa using h1)];refine Qz (h _ (gallopOf st) ?_);rw[qai];exact mi.endA h1
 rw[Q8 (by simpa using h1)];by_cases h2:b.size=1
 ·rw[Q7 (by simpa using h2)];refine Qz (h _ (gallopOf st) ?_);rw[qbH];exact mi.first (by rw[h2];exact hd)
 rw[Q8 (by simpa using h2)];refine Q0 (Q5 ?_);refine Q0 (Q1 (Qk (I:=λ x (c:D0) b0=>OkH κ a b st (x+1) c b0/\c.1=none) (Q:=λ c b0=>OkH κ a b st 0 c b0/\c.1≠none) ?step ?fin ⟨⟨⟨gallopOf st,rfl⟩,.inr ⟨rfl,mi,by show 0<a.size-1;omega,by show a.size-1<=a.size;omega,by show 1<b.size;omega,Ql _,by show a.size-1+b.size+(0+1)<=_;omega⟩⟩,rfl⟩) ?post)
 case post =>
  rintro⟨v,c⟩ b0 ⟨⟨⟨g,rfl⟩,ok⟩,hv⟩;rcases ok with⟨r,e,gd⟩|⟨e,_⟩
  ·cases e
   exact Qz (h r g gd)
  ·exact absurd e hv
 case fin =>
  rintro⟨v,i,j,o,g⟩ b0 ⟨⟨hs,ok⟩,hv⟩;rcases ok with⟨r,e,gd⟩|⟨e,_,i0,hi,j1,hj,hm⟩
  ·rw[hv] at e;cases e
  ·change 0<i at i0
   change i+j+_<=_ at hm
   omega
 case step =>
  rintro x c b0 _ hx ⟨ok,hn⟩;obtain⟨v,i,j,o,g⟩:=c;cases hn
  have rC:OkH κ a b st (x+1) ((none,i,j,o,0,0):D1) b0:=ok;refine Q0 (Q1 (Qk (I:=λ y (c:D1) b0=>OkH κ a b st (x+1+y) c b0/\c.1=none) (Q:=λ c b0=>OkH κ a b st (x+2) c b0) ?istep ?ifin ⟨rC,rfl⟩) ?ipost)
  case istep =>
   rintro y c d9 _ hy ⟨L7,cO⟩;refine Q1 (show wpS (model prog w) A E s (hi0 a b g c) (qba κ a b st (x+1+y+1)) d9 from qht hO hk ka kb hd L7 cO) λ r B3 hr=>?_
   cases r with
   |done c=>exact OkH.mono hr (by omega)
   |yield c=>exact hr
  case ifin =>
   rintro⟨v,i,j,o,p,q⟩ d9 ⟨⟨hs,L7⟩,hv⟩;rcases L7 with⟨r,e,gd⟩|⟨e,_,i0,hi,j1,hj,hm⟩
   ·rw[hv] at e;cases e
   ·change 0<i at i0
    change i+j+_<=_ at hm
    omega
  case ipost =>
   rintro⟨v,i,j,o,p,q⟩ d9 ⟨hs,L7⟩;dsimp only;cases v with
   |some v =>
    rcases L7 with⟨r,e,gd⟩|⟨e,_⟩
    ·cases e
     exact Qz ⟨⟨hs,.inl ⟨_,rfl,gd⟩⟩,by simp⟩
    ·cases e
   |none =>
    dsimp only;refine Q0 (wpS_lift (Qv ⟨rfl,?_⟩));have rB:OkH κ a b st (x+2) ((none,i,j,o,g+1,p,q):D2) d9:=⟨hs,L7⟩;refine Q0 (Q1 (Qk (I:=λ y (c:D2) b0=>OkH κ a b st (x+2) c b0/\c.1=none) (Q:=λ c b0=>OkH κ a b st (x+2) c b0) ?jstep ?jfin ⟨rB,rfl⟩) ?jpost)
    case jfin=>exact λ c b0 hc=>hc.1
    case jstep =>
     rintro y ⟨v,i,j,o,g,p,q⟩ B3 _ hy ⟨⟨hs,S9⟩,hn⟩;have aI:v=none:=hn;subst aI;rcases S9 with⟨r,e,gd⟩|⟨_,mi,i0,hi,j1,hj,hm⟩
     ·cases e
     change MH (kl κ) a.toList b.toList o.toList.reverse i j at mi
     change 0<i at i0
     change i<=a.size at hi
     change 1<j at j1
     change j<=b.size at hj
     change i+j+_<=_ at hm
     refine Q1 (Q:=qba κ a b st (x+2)) ?_ λ r B3 hr=>?_
     ·by_cases hg:g > 1
      ·dsimp only;rw[Q7 hg];show wpS (model prog w) A E s (hi1 a b o i j (g-1) p q) _ _
       exact qfe hO hk ka kb hd hs mi i0 hi j1 hj hm
      ·dsimp only;rw[Q8 hg];show wpS (model prog w) A E s (hi1 a b o i j g p q) _ _
       exact qfe hO hk ka kb hd hs mi i0 hi j1 hj hm
     ·cases r with
      |done c=>exact hr
      |yield c=>exact hr
    case jpost =>
     rintro⟨v,i,j,o,g,p,q⟩ B3 ⟨hs,S9⟩;dsimp only;cases v with
     |some v =>
      rcases S9 with⟨r,e,gd⟩|⟨e,_⟩
      ·cases e
       exact Qz ⟨⟨hs,.inl ⟨_,rfl,gd⟩⟩,by simp⟩
      ·cases e
     |none =>
      refine Q0 (Qw (Qz ⟨⟨?_,S9⟩,rfl⟩));obtain⟨g1,rfl⟩:=hs;exact⟨g+1,rfl⟩
end
theorem qgm{M:Model}{A:Around}{E:Value->Shared->Prop}{s:Shared}{σ:Type}{x:σ}{Q:PUnit->σ->Prop}{st:σ}(h:Q ⟨⟩ x):wpS M A E s (set x:StateT σ Sem PUnit) Q st:=by
 unfold wpS;rw[StateT.run_set];exact Qr ⟨rfl,h⟩
theorem qcX(i:Nat):mergeAt' i=(do
 let st <- get
 let (some (sa,na,pw),some (sb,nb,_)):=((pendingOf st)[i]?,(pendingOf st)[i+1]?) | unsupported "internal:list.sort.pending"
 set (SortSt.mk' (kindOf st) (arrOf st) (((pendingOf st).setIfInBounds i (sa,na+nb,pw)).eraseIdxIfInBounds (i+1)) (gallopOf st) (failedOf st))
 let some k <- zC false (<- elem' (arrOf st) sb) (arrOf st) sa na 0|return false
 let (sa,na):=(sa+k,na-k)
 if na == 0 then return true
 let some nb <- zC true (<- elem' (arrOf st) (sa+na-1)) (arrOf st) sb nb (nb-1)|return false
 if nb == 0 then return true
 let x:=(arrOf st).extract sa sb
 let y:=(arrOf st).extract sb (sb+nb)
 let m <- if na<=nb then qaf x y else qah x y
 modify λ s=>setArr s (m.toList.zipIdx.foldl (λ a (p,j)=>a.setIfInBounds (sa+j) p) (arrOf s))
 return (failedOf (<- get)).isNone):=rfl
theorem qcp{U V:List Keyed}{sa:Nat}:∀(l:List Keyed)(k:Nat)(M:List Keyed)(U:List Keyed)(arr:Array Keyed),arr.toList=U++(M++V)->U.length=sa+k->M.length=l.length ->
  ((l.zipIdx k).foldl (λ a (x:Keyed×Nat)=>a.setIfInBounds (sa+x.2) x.1) arr).toList=U++(l++V)
 | [],k,M,U,arr,e,hu,hm=>by
  have:M=[]:=X4.mp hm
  subst this;exact e
 |x::l,k,M,U,arr,e,hu,hm=>by
  obtain⟨m,M,rfl⟩:∃ m M',M=m::M':=by
   cases M with
   |nil=>cases hm
   |cons m M=>exact⟨m,M,rfl⟩
  rw[List.zipIdx_cons,Up]
  have:=qcp (V:=V) (U:=U) (sa:=sa) l (k+1) M (U++[x]) (arr.setIfInBounds (sa+k) x) (by
   rw[Array.toList_setIfInBounds,e,<- hu,List.set_append_right _ _ (Ql _),Nat.sub_self];simp) (by rw[Y4,hu];rfl) (by simpa using hm)
  rw[this];simp
section
variable {prog:Program}{w:World}{A:Around}{E:Value->Shared->Prop}{s:Shared}{κ:KeyKind}{st:SortSt}
theorem qcq(hO:κ.OneLt){Q:Bool->SortSt->Prop}{i sa na sb nb pa pb:Nat}{L X Y R:List Keyed}(hk:kindOf st=oneType')(hf:failedOf st=none)(e1:(pendingOf st)[i]?=some (sa,na,pa))(e2:(pendingOf st)[i+1]?=some (sb,nb,pb))(o7:sb=sa+na)(ea:(arrOf st).toList=L++(X++(Y++R)))(hL:L.length=sa)(hX:X.length=na)(hY:Y.length=nb)(na0:0<na)(nb0:0<nb)(sx:So κ X)(sy:So κ Y)(kx:∀ x∈X,Kd κ x)(kY:∀ x∈Y,Kd κ x)(h:∀(Z:List Keyed)(arr:Array Keyed)(g:Nat),Z.Perm (X++Y)->So κ Z->arr.toList=L++(Z++R) ->
   Q true (SortSt.mk' (kindOf st) arr (((pendingOf st).setIfInBounds i (sa,na+nb,pa)).eraseIdxIfInBounds (i+1)) g (failedOf st))):wpS (model prog w) A E s (mergeAt' i) Q st:=by
 have sz:(arrOf st).size=sa+na+nb+R.length:=by
  rw[<- Ym,ea];simp[hL,hX,hY];omega
 have gX:(arrOf st).toList.drop sa=X++(Y++R):=by rw[ea,<- hL,List.drop_left]
 have gY:(arrOf st).toList.drop sb=Y++R:=by rw[o7,<- Je,gX,<- hX,List.drop_left]
 have y0:Y[0]?=some (Y[0]'(by omega)):=Xv _;have aY:(arrOf st)[sb]?=some (Y[0]'(by omega)):=by
  have e:(arrOf st).toList[sb+0]?=some (Y[0]'(by omega)):=by rw[<- Y8,gY,Xm (by omega),y0]
  rw[<- XS];exact e
 have tO:∀ y∈Y,kl κ (Y[0]'(by omega)) y:=by
  cases Y with
  |nil=>simp at hY;omega
  |cons z Y =>
   intro y hy;rcases Js.mp hy with e|e
   ·rw[e];exact Ut _
   ·exact(Y5.mp sy).1 y e
 rw[qcX];refine Q0 (Q5 ?_);rw[e1,e2];dsimp only;refine Q0 (qgm ?_);refine Q0 (qC aY ?_);refine Q0 (zI hO X (by rw[gX,<- hX,Jg]) hk (kY _ (Z6 _)) (by omega) kx sx (by omega) λ k lY k1 k2=>?_);dsimp only;by_cases h0:na-k=0
 ·rw[Q7 (by simpa using h0)];refine Qz (h (X++Y) (arrOf st) _ (U9 _) (Yf.mpr ⟨sx,sy,λ x hx y hy=>?_⟩) (by rw[ea,Zi]));have x3:k=X.length:=by omega
  rw[x3,Z8] at k1;exact Z9 (BtF (k1 x hx)) (tO y hy)
 rw[Q8 (by simpa using h0)];have xl:X[na-1]?=some (X[na-1]'(by omega)):=Xv _;have lN:∀ x∈X,kl κ x (X[na-1]'(by omega)):=by
  intro x hx;obtain⟨j,hj,rfl⟩:=Yr hx;rcases Qf j (na-1) with h1|h1
  ·exact Xr.mp sx j (na-1) hj (by omega) h1
  ·have:j=na-1:=by omega
   subst this;exact Ut _
 have aX:(arrOf st)[sa+k+(na-k)-1]?=some (X[na-1]'(by omega)):=by
  have e:sa+k+(na-k)-1=sa+(na-1):=by omega
  rw[e,<- XS,<- Y8,gX,Xm (by omega),xl]
 refine Q0 (qC aX ?_);refine Q0 (zI hO Y (by rw[gY,<- hY,Jg]) hk (kx _ (Z6 _)) (by omega) kY sy (by omega) λ n lX n1 n2=>?_);dsimp only;by_cases h0':n=0
 ·rw[Q7 (by simpa using h0')];refine Qz (h (X++Y) (arrOf st) _ (U9 _) (Yf.mpr ⟨sx,sy,λ x hx y hy=>?_⟩) (by rw[ea,Zi]));subst h0';exact Z9 (lN x hx) (qgl (n2 y hy))
 rw[Q8 (by simpa using h0')];have ex:((arrOf st).extract (sa+k) sb).toList=X.drop k:=by
  rw[Yh,Xs,<- Je,gX,Xc (by omega)];rw[show sb-(sa+k)=(X.drop k).length by rw[Z0];omega,Jg]
 have ey:((arrOf st).extract sb (sb+n)).toList=Y.take n:=by
  rw[Yh,Xs,gY,X3,Xb (by omega)]
 generalize hxe:(arrOf st).extract (sa+k) sb=x at ex ⊢;generalize hye:(arrOf st).extract sb (sb+n)=y at ey ⊢;have lx:x.size=na-k:=by rw[<- Ym,ex,Z0,hX]
 have ly:y.size=n:=by rw[<- Ym,ey,Zy,hY];omega
 have sx':So κ (X.drop k):=sx.sublist (List.drop_sublist _ _);have sy':So κ (Y.take n):=sy.sublist (List.take_sublist _ _);have kx':∀ z∈x.toList,Kd κ z:=λ z hz=>kx z (Yg (by rw[<- ex];exact hz))
 have ky':∀ z∈y.toList,Kd κ z:=λ z hz=>kY z (Yi (by rw[<- ey];exact hz))
 have yz:y[0]'(by omega)=Y[0]'(by omega):=by
  have h1:y.toList[0]?=some (y[0]'(by omega)):=vv (by omega);rw[ey,Xu (by omega),y0] at h1;exact(Option.some.inj h1).symm
 have xz:x[x.size-1]'(by omega)=X[na-1]'(by omega):=by
  have h1:x.toList[x.size-1]?=some (x[x.size-1]'(by omega)):=vv (by omega);rw[ex,Y8,show k+(x.size-1)=na-1 by omega,xl] at h1;exact(Option.some.inj h1).symm
 have hd:∀ z∈x.toList,kl κ (y[0]'(by omega)) z:=λ z hz=>by
  rw[yz];rw[ex] at hz;exact qhr (k2 z hz)
 have hl:∀ z∈y.toList,kl κ z (x[x.size-1]'(by omega)):=λ z hz=>by
  rw[xz];rw[ey] at hz;exact BtT (n1 z hz)
 have post:∀(o:Array Keyed)(g:Nat),Gd (kl κ) x.toList y.toList o.toList->wpS (model prog w) A E s (do
   modify λ s=>setArr s (o.toList.zipIdx.foldl (λ a (p,j)=>a.setIfInBounds (sa+k+j) p) (arrOf s))
   return (failedOf (<- get)).isNone) Q (jk (SortSt.mk' (kindOf st) (arrOf st) (((pendingOf st).setIfInBounds i (sa,na+nb,pa)).eraseIdxIfInBounds (i+1)) (gallopOf st) (failedOf st)) g):=by
  rintro o g ⟨so,po⟩;refine Q0 (Qw (Q0 (Q5 (Qz ?_))));rw[ex,ey] at po;have lo:o.toList.length=(X.drop k++Y.take n).length:=po.length_eq
  have:=h (X.take k++(o.toList++Y.drop n)) (o.toList.zipIdx.foldl (λ a (x:Keyed×Nat)=>a.setIfInBounds (sa+k+x.2) x.1) (arrOf st)) g ?_ ?_ ?_
  ·have e:(failedOf (jk st g)).isNone=true:=by show(failedOf st).isNone=true;rw[hf];rfl
   show Q (failedOf st).isNone _
   rw[show(failedOf st).isNone=true from e];exact this
  ·refine(((po.append_right (Y.drop n)).append_left (X.take k))).trans (List.Perm.of_eq ?_);rw[Zi,XN,<- Zi,XN]
  ·have mo:∀ z∈o.toList,z∈X.drop k∨z∈Y.take n:=λ z hz=>Ug.mp (po.mem_iff.mp hz)
   have sX:So κ (X.take k++X.drop k):=by rw[XN];exact sx
   have sY:So κ (Y.take n++Y.drop n):=by rw[XN];exact sy
   refine Yf.mpr ⟨(Yf.mp sX).1,Yf.mpr ⟨so,(Yf.mp sY).2.1,λ z hz u hu=>?_⟩,λ z hz u hu=>?_⟩
   ·rcases mo z hz with h1 | h1
    ·exact Z9 (lN z (Yg h1)) (qgl (n2 u hu))
    ·exact(Yf.mp sY).2.2 z h1 u hu
   ·rcases Ug.mp hu with h1 | h1
    ·rcases mo u h1 with h2 | h2
     ·exact(Yf.mp sX).2.2 z hz u h2
     ·exact Z9 (BtF (k1 z hz)) (tO u (Yi h2))
    ·exact Z9 (BtF (k1 z hz)) (tO u (Yg h1))
  ·have:=qcp (V:=Y.drop n++R) (U:=[]) (sa:=sa+k) o.toList 0 (X.drop k++Y.take n) (L++X.take k) (arrOf st) (by
    rw[ea]
    conv=>lhs;rw[<- XN k X,<- XN n Y]
    simp only[Zi]) (by rw[Y4,Zy];omega) lo.symm
   rw[this];simp only[Zi]
 by_cases u5:na-k<=n
 ·rw[Q7 u5];refine Q0 (qcn hO hk kx' ky' ⟨by simpa [ex] using sx',by simpa [ey] using sy',by simp⟩ (by omega) (by omega) hd (λ z hz u hu=>?_) post);rw[zH (vv (by omega)),XD (by rw[Ym];omega),Ui,Y9] at hz;rw[hz];exact hl u hu
 ·rw[Q8 u5];refine Q0 (qco hO hk kx' ky' ⟨?_,?_,?_⟩ (by omega) (by omega) (λ z hz u hu=>?_) hl post)
  ·rw[Ui,XC (by rw[Ym];exact Ql _),ex];exact sx'
  ·rw[Ui,XC (by rw[Ym];exact Ql _),ey];exact sy'
  ·rw[Ui,XC (by rw[Ym];exact Ql _),XC (by rw[Ym];exact Ql _)]
  ·rw[show(1:Nat)=0+1 from rfl,qS (vv (a:=y) (i:=0) (by omega)),Jd,Uq,Y9] at hz;rw[hz];exact hd u hu
end
theorem j9{α:Type}{r:α->α->Prop}(tr:∀ x y z,r x y->r y z->r x z){T:List α}{x:Nat}(h:(T.take x).Pairwise r)(h1:1<=x)(hx:x<T.length)(hr:r (T[x-1]'(by omega)) T[x]):(T.take (x+1)).Pairwise r:=by
 rw[Xa hx];refine Yf.mpr ⟨h,List.pairwise_singleton _ _,λ y hy z hz=>?_⟩;rw[Y9.mp hz];obtain⟨j,hj,rfl⟩:=Yr hy;rw[Zy] at hj;rw[Zr];rcases Qf j (x-1) with h2|h2
 ·have:=Xr.mp h j (x-1) (by rw[Zy];omega) (by rw[Zy];omega) h2
  rw[Zr,Zr] at this;exact tr _ _ _ this hr
 ·have:j=x-1:=by omega
  subst this;exact hr
theorem vQ{x:Keyed}{V:List Keyed}:∀(T U:List Keyed)(arr:Array Keyed),arr.toList=U++(T++(x::V))->(bubble arr (U.length+T.length) T.length).toList=U++(x::(T++V))
 | [],U,arr,e=>e
 |t::T,U,arr,e=>by
  have ih:=vQ (x:=x) (V:=V) T (U++[t]) arr (by rw[e];simp);have e1:(U++[t]).length+T.length=U.length+(t::T).length:=by simp;omega
  rw[e1] at ih;show(bubble arr (U.length+(t::T).length) (T.length+1)).toList=_
  rw[bubble_succ];generalize bubble arr (U.length+(t::T).length) T.length=b at ih ⊢;have sz:b.size=U.length+1+(1+(T.length+V.length)):=by rw[<- Ym,ih];simp;omega
  have l1:U.length+(t::T).length-T.length=U.length+1:=by simp;omega
  rw[l1,show U.length+1-1=U.length by omega,Array.swapIfInBounds_def,Q6 (by omega),Q6 (by omega),Array.toList_swap];have a1:b[U.length]'(by omega)=t:=by
   have:b.toList[U.length]?=some (b[U.length]'(by omega)):=vv (by omega)
   rw[ih] at this;simpa using this.symm
  have a2:b[U.length+1]'(by omega)=x:=by
   have:b.toList[U.length+1]?=some (b[U.length+1]'(by omega)):=vv (by omega)
   rw[ih] at this;simpa using this.symm
  rw[a1,a2,ih];simp[List.set_append]
theorem qcr{L D R:List Keyed}{arr:Array Keyed}(e:arr.toList=L++(D++R)):(mirror arr L.length (L.length+D.length) ((L.length+D.length-L.length) / 2)).toList=L++(D.reverse++R):=by
 have sz:arr.size=L.length+(D.length+R.length):=by rw[<- Ym,e];simp
 refine Zm λ k=>?_
 rw[XS,getElem?_mirror_all (by omega)];by_cases h:L.length<=k/\k<L.length+D.length
 ·rw[Q7 h,<- XS,e,Xg (by omega),Xm (by omega),Xg (by omega),Xm (by rw[Yu];omega),List.getElem?_reverse (by omega)];congr 1;omega
 ·rw[Q8 h,<- XS,e];rcases Qf k L.length with h1 | h1
  ·rw[Xm h1,Xm h1]
  ·rw[Xg h1,Xg h1,Xg (by omega),Xg (by rw[Yu];omega),Yu]
section
variable {prog:Program}{w:World}{A:Around}{E:Value->Shared->Prop}{s:Shared}{κ:KeyKind}{st:SortSt}
theorem vx(hO:κ.OneLt){i j:Nat}{x y:Keyed}{Q:Option Bool->SortSt->Prop}(hk:kindOf st=oneType')(e1:(arrOf st)[i]?=some x)(e2:(arrOf st)[j]?=some y)(hx:Kd κ x)(hy:Kd κ y)(h:Q (some (κ.blt (ky κ x) (ky κ y))) st):wpS (model prog w) A E s (ltAt' i j) Q st:=by
 rw[ltAt'_eq];refine Q0 (Q5 ?_);exact Q0 (qC e1 (Q0 (qC e2 (qae hO hk hx hy h))))
theorem yV{L T:List Keyed}{arr:Array Keyed}(e:arr.toList=L++T){i:Nat}(hi:i<T.length):arr[L.length+i]?=some T[i]:=by
 rw[<- XS,e,Xg (by omega),X3];exact Xv hi
theorem qff(x y z:Keyed)(h1:kl κ x y)(h2:kl κ y z):kl κ x z:=Z9 h1 h2
theorem qaj{r:Keyed->Keyed->Prop}(T:List Keyed):(T.take 1).Pairwise r:=by
 cases T with
 |nil=>simp
 |cons x T=>simp
theorem qak(hO:κ.OneLt){lo n ok:Nat}{L T:List Keyed}{Q:Bool->SortSt->Prop}(hk:kindOf st=oneType')(ea:(arrOf st).toList=L++T)(hL:L.length=lo)(hn:n<=T.length)(hok:ok<=n)(kT:∀ x∈T,Kd κ x)(so:So κ (T.take ok))(n1:1<=n)(h:∀(T':List Keyed)(arr:Array Keyed),T'.Perm T->arr.toList=L++T'->So κ (T'.take n)->Q true (setArr st arr)):wpS (model prog w) A E s (binarySort' lo n ok) Q st:=by
 subst hL;rw[binarySort'_eq];refine Q0 (Q1 (Qk
  (I:=λ k c b0=>c=(none,())/\∃(T':List Keyed)(arr:Array Keyed),T'.Perm T/\arr.toList=L++T'/\So κ (T'.take (min k n))/\b0=setArr st arr)
  (Q:=λ c b0=>c=(none,())/\∃(T':List Keyed)(arr:Array Keyed),T'.Perm T/\arr.toList=L++T'/\So κ (T'.take n)/\b0=setArr st arr) ?step ?fin ?init) ?post)
 case post =>
  rintro c b0 ⟨rfl,T',arr,p,e,G5,rfl⟩;exact Qz (h T' arr p e G5)
 case fin =>
  rintro c b0 ⟨hc,T',arr,p,e,G5,rfl⟩;rw[show min (max (max ok 1) n) n=n by omega] at G5;exact⟨hc,T',arr,p,e,G5,rfl⟩
 case init =>
  refine⟨rfl,T,arrOf st,U9 _,ea,?_,rfl⟩;by_cases h1:ok=0
  ·subst h1;rw[show min (max 0 1) n=1 by omega];exact qaj T
  ·rw[show min (max ok 1) n=ok by omega];exact so
 case step =>
  rintro k c b0 hak hkn ⟨rfl,T',arr,p,e,G5,rfl⟩;rw[show min k n=k by omega] at G5;have lT:T'.length=T.length:=p.length_eq;have kT':∀ x∈T',Kd κ x:=λ x hx=>kT x (p.mem_iff.mp hx)
  have hkl:k<T'.length:=by omega
  have x3:kindOf (setArr st arr)=oneType':=hk;refine Q0 (Q1 (Qk (I:=λ x c d9=>d9=setArr st arr/\∃ l r,c=(none,l,r)/\l<=r/\r<=k/\r-l<=k-x /\
    (∀ y∈(T'.take k).take l,kl κ y T'[k])/\(∀ y∈(T'.take k).drop r,kl κ T'[k] y))
   (Q:=λ c d9=>d9=setArr st arr/\∃ l r,c=(none,l,r)/\l<=k/\(∀ y∈(T'.take k).take l,kl κ y T'[k])/\(∀ y∈(T'.take k).drop l,kl κ T'[k] y)) ?istep ?ifin ?iinit) ?ipost)
  case iinit=>exact⟨rfl,0,k,rfl,by omega,by omega,by omega,λ y hy=>by simp at hy,λ y hy=>by rw[XD (by rw[Zy];omega)] at hy;cases hy⟩
  case ifin =>
   rintro c d9 ⟨rfl,l,r,rfl,hlr,tX,hm,h1,h2⟩
   have:l=r:=by omega
   subst this;exact⟨rfl,l,l,rfl,tX,h1,h2⟩
  case istep =>
   rintro x c d9 _ hxk ⟨rfl,l,r,rfl,hlr,tX,hm,h1,h2⟩;dsimp only;by_cases hge:l ≥ r
   ·rw[Q7 hge]
    have:l=r:=by omega
    subst this;exact Qz ⟨rfl,l,l,rfl,tX,h1,h2⟩
   ·rw[Q8 hge];have uM:(l+r) / 2<T'.length:=by omega
    have hmk:(l+r) / 2<(T'.take k).length:=by rw[Zy];omega
    refine Q0 (vx hO x3 (yV e hkl) (yV e uM) (kT' _ (Z6 _)) (kT' _ (Z6 _)) ?_);cases hc:κ.blt (ky κ T'[k]) (ky κ T'[(l+r) / 2])
    case true =>
     simp only[Q4];refine Qz ⟨rfl,l,(l+r) / 2,rfl,by omega,by omega,by omega,h1,λ y hy=>?_⟩;obtain⟨j,hj,rfl⟩:=Yr hy;rw[Z0] at hj;rw[List.getElem_drop];rcases Nat.eq_zero_or_pos j with h3|h3
     ·subst h3;have e3:(T'.take k)[(l+r) / 2+0]'(by omega)=T'[(l+r) / 2]:=by rw[Zr];rfl
      rw[e3];exact Zq hc
     ·have:=Xr.mp G5 ((l+r) / 2) ((l+r) / 2+j) hmk (by omega) (by omega)
      rw[Zr] at this;exact Z9 (Zq hc) this
    case false =>
     simp only[Y7,Qy];refine Qz ⟨rfl,(l+r) / 2+1,r,rfl,by omega,by omega,by omega,λ y hy=>?_,h2⟩;obtain⟨j,hj,rfl⟩:=Yr hy;rw[Zy] at hj;rw[Zr];rcases Qf j ((l+r) / 2) with h3|h3
     ·have:=Xr.mp G5 j ((l+r) / 2) (by omega) hmk h3
      rw[Zr (j:=k) (i:=(l+r) / 2)] at this;exact Z9 this hc
     ·have:j=(l+r) / 2:=by omega
      subst this;rw[Zr];exact hc
  case ipost =>
   rintro c d9 ⟨rfl,l,r,rfl,hlk,h1,h2⟩;show wpS _ _ _ _ (do moveDown' (L.length+k) (L.length+l);pure (ForInStep.yield (none,()))) _ _
   rw[moveDown'_eq];have eT:T'=(T'.take k).take l++((T'.take k).drop l++(T'[k]::T'.drop (k+1))):=by
    rw[<- Zi,XN,<- Xq,XN]
   have lS:((T'.take k).drop l).length=k-l:=by rw[Z0,Zy];omega
   have lU:(L++(T'.take k).take l).length=L.length+l:=by rw[Y4,Zy,Zy];omega
   have bl:=vQ (x:=T'[k]) (V:=T'.drop (k+1)) ((T'.take k).drop l) (L++(T'.take k).take l) arr (by rw[e,Zi];conv=>lhs;rw[eT]);rw[lU,lS] at bl;refine Q0 (Qw (Qz ⟨rfl,(T'.take k).take l++(T'[k]::((T'.take k).drop l++T'.drop (k+1))),bubble arr (L.length+k) (L.length+k-(L.length+l)),?_,?_,?_,rfl⟩))
   ·refine List.Perm.trans ?_ p
    conv=>rhs;rw[eT]
    exact(List.perm_middle.symm).append_left _
   ·rw[show L.length+k-(L.length+l)=k-l by omega];rw[show L.length+l+(k-l)=L.length+k by omega] at bl;rw[bl,Zi]
   ·rw[show min (k+1) n=k+1 by omega];have e3:((T'.take k).take l++(T'[k]::((T'.take k).drop l++T'.drop (k+1)))).take (k+1)=(T'.take k).take l++(T'[k]::(T'.take k).drop l):=by
     rw[show(T'.take k).take l++(T'[k]::((T'.take k).drop l++T'.drop (k+1)))=((T'.take k).take l++(T'[k]::(T'.take k).drop l))++T'.drop (k+1) by simp];rw[show k+1=((T'.take k).take l++(T'[k]::(T'.take k).drop l)).length by rw[Y4,Zz,lS,Zy,Zy];omega,Jg]
    rw[e3];have iX:So κ ((T'.take k).take l++(T'.take k).drop l):=by rw[XN];exact G5
    have nN:=Yf.mp iX;refine Yf.mpr ⟨nN.1,Y5.mpr ⟨h2,nN.2.1⟩,λ y hy z hz=>?_⟩;rcases Js.mp hz with h4|h4
    ·rw[h4];exact h1 y hy
    ·exact nN.2.2 y hy z h4
end
def asc(lo a sL:Nat):SM (Option (Option Nat)×Nat):=forIn [a:sL] ((none,a):Option (Option Nat)×Nat) λ _ r=>do
 let c <- ltAt' (lo+r.2) (lo+r.2-1)
 match c with
 |some c=>if c then pure (.done (none,r.2)) else pure (.yield (none,r.2+1))
 |_=>pure (.done (some none,r.2))
abbrev Nk(κ:KeyKind)(l:List Keyed):Prop:=l.Pairwise λ x y=>ky κ x≠ky κ y
section
variable {prog:Program}{w:World}{A:Around}{E:Value->Shared->Prop}{s:Shared}{κ:KeyKind}{st:SortSt}
theorem qfg(hO:κ.OneLt){lo a:Nat}{L T:List Keyed}{Q:(Option (Option Nat)×Nat)->SortSt->Prop}(hk:kindOf st=oneType')(ea:(arrOf st).toList=L++T)(hL:L.length=lo)(ha:1<=a)(haT:a<=T.length)(kT:∀ x∈T,Kd κ x)(so:So κ (T.take a))(h:∀ n,a<=n->n<=T.length->So κ (T.take n)->(∀(hn:n<T.length),κ.klt (ky κ T[n]) (ky κ (T[n-1]'(by omega))))->Q (none,n) st):wpS (model prog w) A E s (asc lo a T.length) Q st:=by
 subst hL;unfold asc;refine Qk (I:=λ x c b0=>b0=st/\c=(none,x)/\So κ (T.take x)) ?step ?fin ⟨rfl,rfl,so⟩
 case fin =>
  rintro c b0 ⟨rfl,rfl,G5⟩;rw[show max a T.length=T.length by omega] at G5 ⊢;exact h T.length haT (Ql _) G5 (λ hn=>absurd hn (Jr _))
 case step =>
  rintro x c b0 wM hx ⟨rfl,rfl,G5⟩;dsimp only;have e2:(arrOf b0)[L.length+x-1]?=some (T[x-1]'(by omega)):=by
   rw[show L.length+x-1=L.length+(x-1) by omega];exact yV ea (by omega)
  refine Q0 (vx hO hk (yV ea hx) e2 (kT _ (Z6 _)) (kT _ (Z6 _)) ?_);cases hc:κ.blt (ky κ T[x]) (ky κ (T[x-1]'(by omega)))
  case true =>
   simp only[Q4];exact Qz (h x wM (by omega) G5 (λ _=>hc))
  case false =>
   simp only[Y7,Qy];exact Qz ⟨rfl,rfl,j9 qff G5 (by omega) hx hc⟩
theorem qbI(hO:κ.OneLt){lo:Nat}{L T:List Keyed}{Q:Option Nat->SortSt->Prop}(hk:kindOf st=oneType')(ea:(arrOf st).toList=L++T)(hL:L.length=lo)(h1:1<=T.length)(kT:∀ x∈T,Kd κ x)(nk:Nk κ T)(h:∀(m:Nat)(T':List Keyed)(arr:Array Keyed),T'.Perm T->arr.toList=L++T'->1<=m->m<=T.length->So κ (T'.take m)->Q (some m) (setArr st arr)):wpS (model prog w) A E s (countRun' lo T.length) Q st:=by
 rw[countRun'_eq];refine Q0 (show wpS (model prog w) A E s (asc lo 1 T.length) _ _ from qfg hO hk ea hL (Ql _) h1 kT (qaj T) λ n n1 n2 so hn=>?_);dsimp only;by_cases hnn:n=T.length
 ·rw[Q7 (by simpa using hnn)];exact Qz (h n T (arrOf st) (U9 _) ea n1 n2 so)
 rw[Q8 (by simpa using hnn)];by_cases hgt:n > 1
 ·rw[Q7 hgt];have e0:(arrOf st)[lo]?=some T[0]:=by rw[<- hL];exact yV (i:=0) ea (by omega)
  have e1:(arrOf st)[lo+n-1]?=some (T[n-1]'(by omega)):=by
   rw[<- hL,show L.length+n-1=L.length+(n-1) by omega];exact yV ea (by omega)
  refine Q0 (vx hO hk e0 e1 (kT _ (Z6 _)) (kT _ (Z6 _)) ?_);have d4:κ.blt (ky κ T[0]) (ky κ (T[n-1]'(by omega)))=true:=by
   cases hc:κ.blt (ky κ T[0]) (ky κ (T[n-1]'(by omega))) with
   |true=>rfl
   |false =>
    have h2:=Xr.mp so 0 (n-1) (by rw[Zy];omega) (by rw[Zy];omega) (by omega);rw[Zr,Zr] at h2;exact absurd (KeyOrd.kle_antisymm (O:=κ.toKeyOrd) h2 hc) (Xr.mp nk 0 (n-1) (by omega) (by omega) (by omega))
  rw[d4];dsimp only;rw[Q7 rfl];exact Qz (h n T (arrOf st) (U9 _) ea n1 n2 so)
 rw[Q8 hgt];have lX:n=1:=by omega
 subst lX;refine Q0 (wpS_lift (Qv ⟨rfl,?_⟩));refine Q0 (Q1 (Qk (I:=λ x c b0=>b0=st/\c=(none,x,0)/\(T.take x).Pairwise (λ x y=>kl κ y x))
  (Q:=λ c b0=>b0=st/\∃ x,c=(none,x,0)/\2<=x/\x<=T.length/\(T.take x).Pairwise (λ x y=>kl κ y x)) ?step ?fin ⟨rfl,rfl,?init⟩) ?post)
 case init =>
  exact j9 (r:=λ x y=>kl κ y x) (λ x y z a b=>qff _ _ _ b a) (qaj T) (Ql _) (by omega) (Zq (hn (by omega)))
 case fin =>
  rintro c b0 ⟨rfl,rfl,hp⟩;rw[show max (1+1) T.length=T.length by omega] at hp ⊢;exact⟨rfl,_,rfl,by omega,Ql _,hp⟩
 case step =>
  rintro x c b0 wM hx ⟨rfl,rfl,hp⟩;dsimp only;have ex:(arrOf b0)[lo+x]?=some T[x]:=by rw[<- hL];exact yV ea hx
  have ey:(arrOf b0)[lo+x-1]?=some (T[x-1]'(by omega)):=by
   rw[<- hL,show L.length+x-1=L.length+(x-1) by omega];exact yV ea (by omega)
  refine Q0 (vx hO hk ex ey (kT _ (Z6 _)) (kT _ (Z6 _)) ?_);cases hc:κ.blt (ky κ T[x]) (ky κ (T[x-1]'(by omega)))
  case true =>
   simp only[Q4];rw[Q8 (by omega)];exact Qz ⟨rfl,rfl,j9 (r:=λ x y=>kl κ y x) (λ x y z a b=>qff _ _ _ b a) hp (by omega) hx (Zq hc)⟩
  case false =>
   simp only[Y7,Qy];refine Q0 (vx hO hk ey ex (kT _ (Z6 _)) (kT _ (Z6 _)) ?_);have d4:κ.blt (ky κ (T[x-1]'(by omega))) (ky κ T[x])=true:=by
    cases hc2:κ.blt (ky κ (T[x-1]'(by omega))) (ky κ T[x]) with
    |true=>rfl
    |false=>exact absurd (KeyOrd.kle_antisymm (O:=κ.toKeyOrd) hc hc2) (Xr.mp nk (x-1) x (by omega) (by omega) (by omega))
   rw[d4];simp only[Q4];exact Qz ⟨rfl,x,rfl,wM,by omega,hp⟩
 case post =>
  rintro c b0 ⟨rfl,x,rfl,x2,xT,hp⟩;dsimp only;rw[Q8 (by omega)];rw[reverseSlice'_eq];have ml:=qcr (L:=L) (D:=T.take x) (R:=T.drop x) (arr:=arrOf b0) (by rw[XN];exact ea);rw[Zy,show min x T.length=x by omega,hL] at ml;refine Q0 (Qw ?_);have pT:((T.take x).reverse++T.drop x).Perm T:=by
   refine((List.reverse_perm _).append_right _).trans (List.Perm.of_eq (XN x T))
  have lT:((T.take x).reverse++T.drop x).length=T.length:=pT.length_eq;rw[<- lT];refine Q0 (show wpS (model prog w) A E s (asc lo x ((T.take x).reverse++T.drop x).length) _ _ from qfg (T:=(T.take x).reverse++T.drop x) hO hk ml hL (by omega) (by omega) (λ y hy=>kT y (pT.mem_iff.mp hy)) ?_ λ n n1 n2 so hn=>?_)
  ·have:x=(T.take x).reverse.length:=by rw[Yu,Zy];omega
   rw[Xb (by omega),XC (by omega)];exact List.pairwise_reverse.mpr hp
  ·exact Qz (h n _ _ pT ml (by omega) (by omega) so)
end
inductive Rs(κ:KeyKind):Nat->List (Nat×Nat×Nat)->List Keyed->Prop
 |nil (o:Nat):Rs κ o [] []
 |cons {o n p:Nat} {X:List Keyed} {ps:List (Nat×Nat×Nat)} {T:List Keyed}:X.length=n->0<n->So κ X->Rs κ (o+n) ps T->Rs κ o ((o,n,p)::ps) (X++T)
theorem Rs.snoc{κ:KeyKind}{o:Nat}{ps:List (Nat×Nat×Nat)}{T X:List Keyed}{n p:Nat}(h:Rs κ o ps T)(hX:X.length=n)(hn:0<n)(so:So κ X):Rs κ o (ps++[(o+T.length,n,p)]) (T++X):=by
 induction h with
 |nil o=>
  have:=Rs.cons (p:=p) (o:=o) hX hn so (Rs.nil (κ:=κ) (o+n))
  simpa using this
 |cons e1 e2 e3 _ ih =>
  rw[Zi,Y4,e1];refine Rs.cons e1 e2 e3 ?_;rw[<- Jx];exact ih
theorem Rs.len{κ:KeyKind}{o:Nat}{ps:List (Nat×Nat×Nat)}{T:List Keyed}(h:Rs κ o ps T):ps.length<=T.length:=by
 induction h with
 |nil o=>exact Ql _
 |cons e1 e2 _ _ ih=>rw[Zz,Y4];omega
theorem Rs.at2{κ:KeyKind}{o:Nat}{ps:List (Nat×Nat×Nat)}{T:List Keyed}(h:Rs κ o ps T):∀{i:Nat}{sa na pa sb nb pb:Nat},ps[i]?=some (sa,na,pa)->ps[i+1]?=some (sb,nb,pb) ->
  ∃ L X Y R,T=L++(X++(Y++R))/\o+L.length=sa/\X.length=na/\Y.length=nb/\0<na/\0<nb/\sb=sa+na/\So κ X/\So κ Y /\
   ∀ Z,Z.length=na+nb->So κ Z->Rs κ o ((ps.set i (sa,na+nb,pa)).eraseIdx (i+1)) (L++(Z++R)):=by
 induction h with
 |nil o=>intro i sa na pa sb nb pb h1 _;simp at h1
 | @cons o n p X ps T e1 e2 e3 hr ih =>
  intro i sa na pa sb nb pb h1 h2;cases i with
  |zero =>
   simp only[List.getElem?_cons_zero,Option.some.injEq,Prod.mk.injEq] at h1;obtain⟨rfl,rfl,rfl⟩:=h1;cases hr with
   |nil=>simp at h2
   | @cons _ n2 p2 Y ps T e4 e5 e6 hr =>
    simp only[List.getElem?_cons_succ,List.getElem?_cons_zero,Option.some.injEq,Prod.mk.injEq] at h2;obtain⟨rfl,rfl,rfl⟩:=h2;refine⟨[],X,Y,T,rfl,rfl,e1,e4,e2,e5,rfl,e3,e6,λ Z hZ so=>?_⟩;show Rs κ o ((o,n+n2,p)::ps) (Z++T)
    refine Rs.cons hZ (by omega) so ?_;rw[<- Jx];exact hr
  |succ i =>
   rw[List.getElem?_cons_succ] at h1 h2;obtain⟨L,X',Y,R,rfl,a1,a2,a3,a4,a5,a6,a7,a8,a9⟩:=ih h1 h2;refine⟨X++L,X',Y,R,by rw[Zi],by rw[Y4];omega,a2,a3,a4,a5,a6,a7,a8,λ Z hZ so=>?_⟩;rw[Zi];exact Rs.cons e1 e2 e3 (a9 Z hZ so)
theorem Rs.repower{κ:KeyKind}{o:Nat}{ps:List (Nat×Nat×Nat)}{T:List Keyed}(h:Rs κ o ps T)(q:Nat):∀ i,Rs κ o (ps.modify i λ x=>(x.1,x.2.1,q)) T:=by
 induction h with
 |nil o=>intro i;cases i <;> exact Rs.nil _
 |cons e1 e2 e3 hr ih =>
  intro i;cases i with
  |zero=>exact Rs.cons e1 e2 e3 hr
  |succ i=>exact Rs.cons e1 e2 e3 (ih i)
theorem Rs.one{κ:KeyKind}{ps:List (Nat×Nat×Nat)}{T:List Keyed}(h:Rs κ 0 ps T)(hl:ps.length<=1):So κ T:=by
 cases h with
 |nil=>exact List.Pairwise.nil
 |cons e1 e2 e3 hr =>
  cases hr with
  |nil=>rw[Ui];exact e3
  |cons _ _ _ _=>simp at hl
def Rt(κ:KeyKind)(a₀:List Keyed)(st:SortSt)(lo:Nat)(T:List Keyed):Prop:=
 kindOf st=oneType'/\failedOf st=none/\∃ D,(arrOf st).toList=D++T/\D.length=lo/\(D++T).Perm a₀/\Rs κ 0 (pendingOf st).toList D
section
variable {prog:Program}{w:World}{A:Around}{E:Value->Shared->Prop}{s:Shared}{κ:KeyKind}{st:SortSt}
theorem va(hO:κ.OneLt){a₀ T:List Keyed}{lo i:Nat}{Q:Bool->SortSt->Prop}(k0:∀ x∈a₀,Kd κ x)(rt:Rt κ a₀ st lo T)(hi:i+1<(pendingOf st).size)(h:∀ b0,Rt κ a₀ b0 lo T->(pendingOf b0).size+1=(pendingOf st).size->Q true b0):wpS (model prog w) A E s (mergeAt' i) Q st:=by
 obtain⟨hk,hf,D,ea,hD,pm,rs⟩:=rt;obtain⟨⟨sa,na,pa⟩,e1⟩:∃ x,(pendingOf st).toList[i]?=some x:=⟨_,Xv (by rw[Ym];omega)⟩;obtain⟨⟨sb,nb,pb⟩,e2⟩:∃ x,(pendingOf st).toList[i+1]?=some x:=⟨_,Xv (by rw[Ym];omega)⟩;obtain⟨L,X,Y,R,rfl,a1,a2,a3,a4,a5,a6,a7,a8,a9⟩:=rs.at2 e1 e2;have kd:∀ x∈X++Y,Kd κ x:=λ x hx=>k0 x (pm.mem_iff.mp (by
  rcases Ug.mp hx with h|h <;> simp[h]))
 refine qcq hO (L:=L) (X:=X) (Y:=Y) (R:=R++T) hk hf (by rw[<- XS];exact e1) (by rw[<- XS];exact e2) a6 (by rw[ea];simp only[Zi]) (by omega) a2 a3 a4 a5 a7 a8 (λ x hx=>kd x (Yb _ hx)) (λ x hx=>kd x (XH _ hx)) λ Z arr g pz sz ez=>?_
 have lZ:Z.length=na+nb:=by rw[pz.length_eq,Y4,a2,a3]
 refine h _ ⟨hk,hf,L++(Z++R),?_,?_,?_,?_⟩ ?_
 ·show arr.toList=_
  rw[ez];simp only[Zi]
 ·rw[<- hD];simp only[Y4];omega
 ·refine List.Perm.trans ?_ pm;refine List.Perm.append_right T (List.Perm.append_left L ?_);rw[<- Zi X];exact pz.append_right R
 ·show Rs κ 0 (((pendingOf st).setIfInBounds i (sa,na+nb,pa)).eraseIdxIfInBounds (i+1)).toList _
  rw[show(((pendingOf st).setIfInBounds i (sa,na+nb,pa)).eraseIdxIfInBounds (i+1)).toList=((pendingOf st).toList.set i (sa,na+nb,pa)).eraseIdx (i+1) by simp[Array.eraseIdxIfInBounds,hi]];exact a9 Z lZ sz
 ·show(((pendingOf st).setIfInBounds i (sa,na+nb,pa)).eraseIdxIfInBounds (i+1)).size+1=_
  simp only[Array.eraseIdxIfInBounds,Array.size_setIfInBounds,hi,Q6,Array.size_eraseIdx];omega
theorem Rt.len{a₀ T:List Keyed}{lo:Nat}(h:Rt κ a₀ st lo T):lo+T.length=a₀.length:=by
 obtain⟨_,_,D,_,hD,pm,_⟩:=h
 have:=pm.length_eq
 rw[Y4] at this;omega
theorem Rt.push{a₀ T:List Keyed}{lo n:Nat}(h:Rt κ a₀ st lo T)(n1:1<=n)(n2:n<=T.length)(so:So κ (T.take n)):Rt κ a₀ (setPending st ((pendingOf st).push (lo,n,0))) (lo+n) (T.drop n):=by
 obtain⟨b1,b2,D,b3,b4,b5,b6⟩:=h;refine⟨b1,b2,D++T.take n,?_,?_,?_,?_⟩
 ·show(arrOf st).toList=_
  rw[b3,Zi,XN]
 ·rw[Y4,Zy];omega
 ·rw[Zi,XN];exact b5
 ·show Rs κ 0 ((pendingOf st).push (lo,n,0)).toList _
  rw[Zn]
  have:=b6.snoc (p:=0) (X:=T.take n) (n:=n) (by rw[Zy];omega) (by omega) so
  rw[Nat.zero_add,b4] at this;exact this
theorem Rt.repower{a₀ T:List Keyed}{lo q:Nat}{f:Nat×Nat×Nat->Nat×Nat×Nat}(h:Rt κ a₀ st lo T)(hf:f=λ x=>(x.1,x.2.1,q))(i:Nat):Rt κ a₀ (setPending st ((pendingOf st).modify i f)) lo T:=by
 subst hf;obtain⟨b1,b2,D,b3,b4,b5,b6⟩:=h;refine⟨b1,b2,D,b3,b4,b5,?_⟩;show Rs κ 0 ((pendingOf st).modify i λ x=>(x.1,x.2.1,q)).toList D
 rw[Array.toList_modify];exact b6.repower _ _
theorem qaL(hO:κ.OneLt){a₀:Array Keyed}{Q:Unit->SortSt->Prop}(k0:∀ x∈a₀.toList,Kd κ x)(nk:Nk κ a₀.toList)(hk:kindOf st=oneType')(hf:failedOf st=none)(hp:pendingOf st=#[])(ha:arrOf st=a₀)(h:∀ b0,(arrOf b0).Perm a₀->failedOf b0=none->So κ (arrOf b0).toList->Q () b0):wpS (model prog w) A E s sortRuns' Q st:=by
 have nkp:∀{l:List Keyed},l.Perm a₀.toList->Nk κ l:=λ p=>(p.pairwise_iff (λ{x y} hxy e=>hxy e.symm)).mpr nk
 rw[sortRuns'_eq];refine Q0 (Q5 ?_);dsimp only;rw[ha];have rt0:Rt κ a₀.toList st 0 a₀.toList:=⟨hk,hf,[],by rw[ha];rfl,rfl,U9 _,by rw[hp];exact Rs.nil _⟩;refine Q0 (Q1 (Qk
  (I:=λ x (c:Option Unit×Nat) b0=>c.1=none/\∃ T,Rt κ a₀.toList b0 c.2 T/\(x<=c.2∨c.2=a₀.size))
  (Q:=λ c b0=>c.1=none/\Rt κ a₀.toList b0 a₀.size []) ?step ?fin ⟨rfl,_,rt0,.inl (Ql _)⟩) ?post)
 case fin =>
  rintro⟨v,lo⟩ b0 ⟨hv,T,rt,hx⟩
  have:=rt.len
  have hl0:a₀.toList.length=a₀.size:=Ym;change lo+_=_ at this
  change max 0 a₀.size<=lo∨lo=a₀.size at hx
  have e:lo=a₀.size:=by omega
  have e2:T=[]:=X4.mp (by omega);subst e;subst e2;exact⟨hv,rt⟩
 case step =>
  rintro x ⟨v,lo⟩ b0 _ hx ⟨hv,T,rt,lN⟩;have O2:v=none:=hv;subst O2;change x<=lo∨lo=a₀.size at lN
  change Rt κ a₀.toList b0 lo T at rt
  dsimp only;have u5:=rt.len;have hl0:a₀.toList.length=a₀.size:=Ym;by_cases hge:lo ≥ a₀.size
  ·rw[Q7 hge];have e:lo=a₀.size:=by omega
   have e2:T=[]:=X4.mp (by omega);subst e;subst e2;exact Qz ⟨rfl,rt⟩
  rw[Q8 hge];obtain⟨x3,hf',D,ea,hD,pm,rs⟩:=rt;have lT:a₀.size-lo=T.length:=by omega
  have kT:∀ x∈T,Kd κ x:=λ x hx=>k0 x (pm.mem_iff.mp (XH _ hx))
  have nT:Nk κ T:=(Yf.mp (nkp pm)).2.1;rw[lT];refine Q0 (qbI hO x3 ea hD (by omega) kT nT λ m T1 W8 p1 xW m1 m2 nO=>?_);dsimp only;have l1:T1.length=T.length:=p1.length_eq;have lC:∀(T2:List Keyed)(K5:Array Keyed),T2.Perm T->K5.toList=D++T2->Rt κ a₀.toList (setArr b0 K5) lo T2:=λ T2 K5 p2 mZ=>⟨x3,hf',D,mZ,hD,(p2.append_left D).trans pm,rs⟩
  by_cases d4:m<minRun' a₀.size a₀.size 0
  ·rw[Q7 d4];refine Q0 (wpS_lift (Qv ⟨rfl,?_⟩));refine Q0 (qak hO (st:=setArr b0 W8) x3 xW hD (n:=min T.length (minRun' a₀.size a₀.size 0)) (by omega) (by omega) (λ y hy=>kT y (p1.mem_iff.mp hy)) nO (by omega) λ T2 K5 p2 mZ iX=>?_);simp only[Jw,Y7,Qy];have l2:T2.length=T.length:=(p2.trans p1).length_eq;refine Q0 (Q5 ?_);cases(pendingOf (setArr b0 K5)).back? with
   |none =>
    dsimp only;exact Q0 (Qw (Qz ⟨rfl,_,Rt.push (lC T2 K5 (p2.trans p1) mZ) (by omega) (by omega) iX,.inl (by show x+1<=lo+min T.length (minRun' a₀.size a₀.size 0);omega)⟩))
   |some u =>
    obtain⟨s1,k1,z⟩:=u;dsimp only;refine Q0 (Q1 (Qk (I:=λ _ (c:Option Unit×Unit) d9=>c=(none,())/\Rt κ a₀.toList d9 lo T2) (Q:=λ c d9=>c=(none,())/\Rt κ a₀.toList d9 lo T2) ?cstep (λ _ _ hh=>hh) ⟨rfl,lC T2 K5 (p2.trans p1) mZ⟩) ?cpost)
    case cstep =>
     rintro y c d9 _ _ ⟨rfl,C9⟩;refine Q0 (Q5 ?_);by_cases h2:(pendingOf d9).size > 1
     ·rw[Q7 h2];obtain⟨⟨u,v,z⟩,e⟩:∃ x,(pendingOf d9)[(pendingOf d9).size-2]?=some x:=⟨_,getElem?_pos _ _ (by omega)⟩;rw[e];dsimp only;by_cases h3:z<=power' a₀.size (2*s1+k1) (2*s1+k1+k1+min T.length (minRun' a₀.size a₀.size 0)) a₀.size
      ·rw[Q7 h3];exact Qz ⟨rfl,C9⟩
      ·rw[Q8 h3];refine Q0 (va hO k0 C9 (by omega) λ B3 dM _=>?_);simp only[Jw,Y7,Qy];exact Qz ⟨rfl,dM⟩
     ·rw[Q8 h2];exact Qz ⟨rfl,C9⟩
    case cpost =>
     rintro c d9 ⟨rfl,C9⟩;dsimp only;refine Q0 (Qw ?_);refine Q0 (Qw (Qz ⟨rfl,_,Rt.push (C9.repower rfl _) (by omega) (by omega) iX,.inl (by show x+1<=lo+min T.length (minRun' a₀.size a₀.size 0);omega)⟩))
  ·rw[Q8 d4];refine Q0 (Q5 ?_);cases(pendingOf (setArr b0 W8)).back? with
   |none =>
    dsimp only;exact Q0 (Qw (Qz ⟨rfl,_,Rt.push (lC T1 W8 p1 xW) m1 (by omega) nO,.inl (by show x+1<=lo+m;omega)⟩))
   |some u =>
    obtain⟨s1,k1,z⟩:=u;dsimp only;refine Q0 (Q1 (Qk (I:=λ _ (c:Option Unit×Unit) d9=>c=(none,())/\Rt κ a₀.toList d9 lo T1) (Q:=λ c d9=>c=(none,())/\Rt κ a₀.toList d9 lo T1) ?cstep (λ _ _ hh=>hh) ⟨rfl,lC T1 W8 p1 xW⟩) ?cpost)
    case cstep =>
     rintro y c d9 _ _ ⟨rfl,C9⟩;refine Q0 (Q5 ?_);by_cases h2:(pendingOf d9).size > 1
     ·rw[Q7 h2];obtain⟨⟨u,v,z⟩,e⟩:∃ x,(pendingOf d9)[(pendingOf d9).size-2]?=some x:=⟨_,getElem?_pos _ _ (by omega)⟩;rw[e];dsimp only;by_cases h3:z<=power' a₀.size (2*s1+k1) (2*s1+k1+k1+m) a₀.size
      ·rw[Q7 h3];exact Qz ⟨rfl,C9⟩
      ·rw[Q8 h3];refine Q0 (va hO k0 C9 (by omega) λ B3 dM _=>?_);simp only[Jw,Y7,Qy];exact Qz ⟨rfl,dM⟩
     ·rw[Q8 h2];exact Qz ⟨rfl,C9⟩
    case cpost =>
     rintro c d9 ⟨rfl,C9⟩;dsimp only;refine Q0 (Qw ?_);refine Q0 (Qw (Qz ⟨rfl,_,Rt.push (C9.repower rfl _) m1 (by omega) nO,.inl (by show x+1<=lo+m;omega)⟩))
 case post =>
  rintro⟨v,lo⟩ b0 ⟨hv,rt⟩;have O2:v=none:=hv;subst O2;dsimp only;have fin:∀ b0,Rt κ a₀.toList b0 a₀.size []->(pendingOf b0).size<=1->Q () b0:=by
   rintro b0 ⟨b1,b2,D,b3,b4,b5,b6⟩ hs;rw[Ui] at b3 b5;exact h b0 (Array.perm_iff_toList_perm.mpr (by rw[b3];exact b5)) b2 (by rw[b3];exact b6.one (by rw[Ym];exact hs))
  have hsz:(pendingOf b0).size<=a₀.size:=by
   obtain⟨b1,b2,D,b3,b4,b5,b6⟩:=rt
   have:=b6.len
   rw[Ym] at this;omega
  refine Q0 (Q1 (Qk (I:=λ x (c:Option Unit×Unit) d9=>c=(none,())/\Rt κ a₀.toList d9 a₀.size []/\((pendingOf d9).size<=1∨(pendingOf d9).size+x<=a₀.size))
   (Q:=λ c d9=>c=(none,())/\Rt κ a₀.toList d9 a₀.size []/\(pendingOf d9).size<=1) ?step2 ?fin2 ⟨rfl,rt,.inr hsz⟩) ?post2)
  case post2 =>
   rintro c d9 ⟨rfl,C9,hs⟩;exact Qz (fin d9 C9 hs)
  case fin2 =>
   rintro c d9 ⟨rfl,C9,hs⟩;exact⟨rfl,C9,by omega⟩
  case step2 =>
   rintro x c d9 _ hx ⟨rfl,C9,hs⟩;refine Q0 (Q5 ?_);by_cases h1:(pendingOf d9).size<=1
   ·rw[Q7 h1];exact Qz ⟨rfl,C9,h1⟩
   ·rw[Q8 h1];refine Q0 (va hO k0 C9 ?_ λ B3 dM hs3=>?_)
    ·repeat' split
     all_goals omega
    ·simp only[Jw,Y7,Qy];exact Qz ⟨rfl,dM,.inr (by omega)⟩
end
end FsS
namespace FsS
open PySem PyProof.Rows PySem.Spec
section
variable {prog:Program}{w:World}{A:Around}{E:Value->Shared->Prop}{s:Shared}
theorem So.to{κ:KeyKind}{xs:Array Keyed}(h:So κ xs.toList):SortedToK κ xs xs.size:=by
 intro i j uV hj;have kk:∀ k,(hk:k<xs.size)->KK κ xs k=ky κ xs[k]:=λ k hk=>by
  unfold KK ky;rw[getElem?_pos xs k hk]
 rw[kk i (by omega),kk j hj];rcases Qf i j with h1|h1
 ·have:=Xr.mp h i j (by rw[Ym];omega) (by rw[Ym];omega) h1
  simpa using this
 ·have:i=j:=by omega
  subst this;exact Ut _
theorem nk_strs:∀{vs:List Value}{ss:List Str},StrsAre vs ss->ss.Nodup->Nk strKind (vs.zip vs)
 |_,_,.nil,_=>List.Pairwise.nil
 |_,_,.cons (ys:=ss) x t h,nd=>by
  have A7:=Uj.mp nd;rw[Y6];refine Y5.mpr ⟨λ p hp e=>?_,nk_strs h A7.2⟩;have hm:=(mem_zip_self hp).2;obtain⟨y,u,ey⟩:=h.all _ hm;have hy:y∈ss:=by
   rw[<- h.strs];exact Qd.mpr ⟨p.1,hm,by rw[ey];rfl⟩
  have e1:ky strKind p=y.cps.toList:=by unfold ky;rw[ey];rfl
  have e2:x.cps.toList=y.cps.toList:=(show ky strKind (Value.str x t,Value.str x t)=_ from rfl).symm.trans (e.trans e1);have e3:x=y:=by
   cases x;cases y
   congr 1
   exact Array.toList_inj.mp e2
  exact A7.1 (e3 ▸ hy)
theorem sort_method{κ:KeyKind}(one:κ.OneLt){l:Addr}{vs:List Value}{c:Nat}{R:Fin->Shared->Prop}(N4:s.heap.get? l=some (seqObj "list" vs.toArray c))(ks:KeysOf κ (pairsOf vs))(un:Nk κ (pairsOf vs).toList)(kind:∀ u v r,vs=u::v::r->keyKind' (u::v::r).toArray=pure oneType')(few:vs.length<100000)(fin:∀ b0:SortSt,(arrOf b0).Perm (pairsOf vs)->SortedToK κ (arrOf b0) (pairsOf vs).size->R (.done (.ret .none)) { s with heap:=sortedHeap s.heap l vs ((arrOf b0).map (·.2)) }):
  wpAny (model prog w) A (Builtin.«list.sort» ⟨[.ref l],[]⟩) R E s:=by
 by_cases short:vs.length<64
 ·exact list_sort_treeK one N4 ks kind short fin
 have lt0:l<s.heap.objs.size:=J5 N4;rw[list_sort_plain];refine Qs (listItems_at N4 rfl (Qs (listUpdate_at N4 rfl ?_ (by rw[sizeLine_eq,Zg];omega))));obtain⟨e,h1⟩:∃ e,(s.heap.update l (Obj.mapSeq λ _=>#[])).get? l=some (seqObj "list" #[] e):=⟨_,get?_update_seq N4 (λ _=>#[])⟩;refine Qs (seqEpoch_at h1 rfl (Qs (Jp (Qs (J4 (Jy ?_))))));have h2:(((s.heap.update l (Obj.mapSeq λ _=>#[])).push (seqObj "tuple" vs.toArray 0)).push (seqObj "list" #[] 0)).get? l=some (seqObj "list" #[] e):=
  (Heap.get?_push_ne _ _ _ (by rw[size_push',Heap.size_update];exact J6 (Zl lt0))).trans ((Heap.get?_push_ne _ _ _ (by rw[Heap.size_update];exact J6 lt0)).trans h1)
 show wpAny (model prog w) A _ R E { s with heap:=((s.heap.update l (Obj.mapSeq λ _=>#[])).push (seqObj "tuple" vs.toArray 0)).push (seqObj "list" #[] 0) }
 have big:¬ vs.toArray.size<2:=by simp;omega
 dsimp only;rw[Q8 big,Q8 big];obtain⟨u,v,r,rfl⟩:∃ u v r,vs=u::v::r:=by
  match vs,short with
  | [],h=>simp at h
  | [_],h=>simp at h
  |u::v::r,_=>exact⟨u,v,r,rfl⟩
 rw[kind u v r rfl];refine Qs (Qr (Qs (Qq (qaL one (a₀:=pairsOf (u::v::r)) (st:=SortSt.mk' oneType' (pairsOf (u::v::r)) #[] 7 none)
  (Q:=λ _ b0=>(arrOf b0).Perm (pairsOf (u::v::r))/\failedOf b0=none/\So κ (arrOf b0).toList) ks un rfl rfl rfl rfl λ b0 p f o=>⟨p,f,o⟩) ?_ λ _ _ z=>z)))
 rintro⟨⟨⟩,b0⟩ s' ⟨rfl,p,f,o⟩;have sz:(arrOf b0).size=(u::v::r).length:=p.size_eq.trans (pairsOf_size _);dsimp only;refine Qs (seqEpoch_at h2 rfl (Qs (listUpdate_at h2 rfl ?_ (hsz2:=by rw[Array.size_map,sz,sizeLine_eq];omega))));rw[f];simp only[Zw,Y7,Qy];refine Qr (fin b0 p ?_);rw[<- p.size_eq];exact o.to
end
end FsS
namespace L2
open PySem PySem.Spec PyProof.Rows
section
variable {prog:Program}{w:World}{A:Around}{E:Value->Shared->Prop}{s:Shared}
theorem qea{S:Addr}{ys:List Str}{Q:Value->Shared->Prop}(hh:A.handled=none)(hS:zv prog w s.heap S ys)(few:ys.length<4096)(un:ys.Nodup)(h:∀(l:Addr)(h':Heap)(tk e:Nat)(d:Drawn)(out:Array Value)(p8:List Str),(∀ b o,s.heap.get? b=some o->h'.get? b=some o)->s.heap.objs.size<=l->h'.get? l=some (seqObj "list" out e)->StrsAre out.toList p8->p8.Perm ys->sortedS p8=true ->
   Q (.ref l) { s with heap:=h',toks:=tk,drawn:=d }):wpAny (model prog w) A (call (.builtin "sorted") [.ref S]) Q E s:=by
 refine Xp kind_sorted plain_sorted entry_sorted (args_sorted1 _) ?_;unfold Builtin.«sorted»;refine Qs (m:=checkCount "sorted" 1 1 _) (Qr ?_);refine Qs (qa7 (by simpa using hh) hS λ h1 tk d vs zs hk u5 hz hA=>?_);have nz:zs.Nodup:=hz.nodup_iff.mpr un;have hl:vs.length<100000:=by
  have:vs.length=zs.length:=hA.length
  rw[this,hz.length_eq];omega
 refine Qs (J4 ?_);have V0:(h1.push (seqObj "list" vs.toArray 0)).get? h1.objs.size=some (seqObj "list" vs.toArray 0):=Yn _ rfl;refine Qs (Jy (Ue slot_list_sort ⟨_,V0,rfl⟩ entry_list_sort (FsS.sort_method strKind_oneLt V0 hA.keysOf (by rw[pairsOf_toList];exact FsS.nk_strs hA nz) (λ v₁ v₂ rest e=>keyKind_strs (by rw[<- e];exact hA)) hl λ b0 a1 a2=>⟨_,rfl,?_⟩) (args_list_sort _)));obtain⟨p8,b1,b2,b3⟩:=sorted_out_str hA a1 a2;obtain⟨e,he⟩:=sortedHeap_at (out:=(arrOf b0).map (·.2)) V0;refine Qr ⟨_,rfl,h h1.objs.size _ tk e d _ p8 (λ b o q=>?_) (J8 u5) he b1 (b2.trans hz) b3⟩;have q1:=hk b o q;have hb:=J5 q1;rw[sortedHeap_old (J6 hb) (by rw[Jb];exact Zl hb)];exact X9 _ q1
theorem qeb{l:Addr}{vs:List Value}{ss:List Str}{Q:Value->Shared->Prop}(hl:s.heap.IsList l vs.toArray)(hA:StrsAre vs ss)(few:vs.length<4096)(un:ss.Nodup)(h:∀(out:Array Value)(p8:List Str),StrsAre out.toList p8->p8.Perm ss->sortedS p8=true->Q (.ref (s.heap.objs.size+1)) { s with heap:=sortedAll s.heap vs out }):
  wpAny (model prog w) A (call (.builtin "sorted") [.ref l]) Q E s:=by
 refine Xp kind_sorted plain_sorted entry_sorted (args_sorted1 _) ?_;unfold Builtin.«sorted»;refine Qs (m:=checkCount "sorted" 1 1 _) (Qr ?_);refine Qs (collect_list hl (Qs (J4 ?_)));generalize hg:(s.heap.push (seqObj "list" #[] 0)).update s.heap.objs.size (Obj.mapSeq (·++vs.toArray))=g;have sz:g.objs.size=s.heap.objs.size+1:=by rw[<- hg,Heap.size_update,size_push']
 have N4:(g.push (seqObj "list" vs.toArray 0)).get? (s.heap.objs.size+1)=some (seqObj "list" vs.toArray 0):=by rw[<- sz];exact Yn _ rfl
 show wpAny _ _ _ _ _ { s with heap:=g.push (seqObj "list" vs.toArray 0) }
 rw[sz];refine Qs (Jy (Ue slot_list_sort ⟨_,N4,rfl⟩ entry_list_sort (FsS.sort_method strKind_oneLt N4 hA.keysOf (by rw[pairsOf_toList];exact FsS.nk_strs hA un) (λ v₁ v₂ rest e=>keyKind_strs (by rw[<- e];exact hA)) (by omega) λ b0 a1 a2=>⟨_,rfl,?_⟩) (args_list_sort _)));obtain⟨p8,b1,b2,b3⟩:=sorted_out_str hA a1 a2
 have:=h _ p8 b1 b2 b3
 refine Qr ⟨_,rfl,?_⟩;subst hg;exact this
end
section
variable {X:Cx}
theorem qal(hc:X.calm=true):yB X (.builtin "sorted") (λ xs H Q=>∃ p ys,xs=[.ref p]/\H p=some (qd4 X.prog X.w p ys)/\ys.length<4096/\ys.Nodup/\∀ l,H l=none->Q (.ref l) (upd H l (.lst ((vk ys).map V.str)))):=by
 intro pins s σ H xs us Q I r h;obtain⟨p,ys,rfl,hp,N3,un,q⟩:=h;obtain⟨u,rfl,ru⟩:=yn r;cases ru
 obtain⟨i7,p6,hS⟩:=I.set hp;refine qea (I.ok.hd hc) hS (by rw[p6.length_eq];exact N3) (p6.nodup_iff.mpr un) λ l h' tk e d out p8 hk u5 he h1 h2 h3=>?_
 have es:=qbu (h2.trans p6) h3;subst es;have hf:=I.hok.fresh u5;refine⟨.ref l,upd H l (.lst ((vk ys).map V.str)),I.call' (s':={ s with heap:=h',toks:=tk,drawn:=d }) (ch:=[]) rfl (Un.laid hk u5 hf) (I.hok.laid hk u5 ⟨?_,out.toList,e,ji h1,he⟩) I.bare (λ _ z=>nomatch z),rfl,q _ hf⟩
 have:(vk ys).length=ys.length:=(h2.trans p6).length_eq
 rw[Ul,this];exact J8 (Y0 N3 (by decide))
theorem jE:yB X (.builtin "sorted") (λ xs H Q=>∃ p ss,xs=[.ref p]/\SqL X.K H p (ss.map V.str)/\ss.length<4096/\ss.Nodup/\∀ l,H l=none->Q (.ref l) (upd H l (.lst ((vk ss).map V.str)))):=by
 intro pins s σ H xs us Q I r h;obtain⟨p,ss,rfl,hq,N3,un,q⟩:=h;obtain⟨u,rfl,ru⟩:=yn r;cases ru
 obtain⟨its,rv,pl,hz⟩:=I.list hq;have hl:=rv.length;rw[Ul] at hl;refine qeb pl.isList (jh rv) (by omega) un λ out p8 h1 h2 h3=>?_
 obtain⟨e,he⟩:=sortedAll_at s.heap its out;have es:=qbu h2 h3;subst es;refine⟨.ref (s.heap.objs.size+1),_,I.laid (a:=s.heap.objs.size+1) (o:=.lst ((vk ss).map V.str)) (t':=s.toks) (λ _ _=>sortedAll_old) (Qn _) ⟨?_,out.toList,e,ji h1,he⟩,rfl,q _ (I.hok.fresh (Qn _))⟩;rw[Ul] at hz ⊢;rw[h2.length_eq];exact hz
end
end L2
namespace Fs
def yk(ρ:Nat->Bool):Nat->List Nat->Nat
 |n,[]=>n
 |n,c::ls=>yk ρ (2*n+if ρ c then 1 else 0) ls
theorem jF(ρ:Nat->Bool):∀(ls:List Nat)(n:Nat),yk ρ n ls=n*2^ls.length+yk ρ 0 ls
 | [],n=>by simp[yk]
 |c::ls,n=>by
  rw[yk,jF ρ ls,yk,jF ρ ls (2*0+_),Zz,Qc];rw[Nat.add_mul,Nat.add_mul,<- Jx,Nat.mul_zero,Nat.zero_mul,Nat.zero_add,Qb 2 n,Nat.mul_assoc,Qb 2]
theorem jP(ρ:Nat->Bool):∀(ls:List Nat),yk ρ 0 ls<2^ls.length
 | []=>by simp[yk]
 |c::ls=>by
  rw[yk,jF,Zz,Qc]
  have:=jP ρ ls
  split <;> omega
theorem y2(ρ:Nat->Bool):∀(ls:List Nat)(t:List Bool),t.length=2^ls.length->look ρ ls t=t.getD (yk ρ 0 ls) false
 | [],[b],_=>by simp[look,yk]
 |c::ls,t,h=>by
  rw[Zz,Qc] at h;have h1:(t.take (2^ls.length)).length=2^ls.length:=by rw[Zy];omega
  have h2:(t.drop (2^ls.length)).length=2^ls.length:=by rw[Z0];omega
  have hl:=jP ρ ls;rw[look,yk,jF];cases ρ c with
  |true =>
   simp only[Q4,Nat.mul_zero,Nat.zero_add,Nat.one_mul];rw[y2 ρ ls _ h2];simp[Xi,Y8]
  |false =>
   simp only[Y7,Qy,Nat.mul_zero,Nat.zero_add,Nat.zero_mul];rw[y2 ρ ls _ h1];simp[Xi,Xu hl]
theorem vR{ρ τ:Nat->Bool}:∀{F:List Pr},(∀ p∈F,∀ c∈p,ρ c=τ c)->qo ρ F=qo τ F
 | [],_=>rfl
 |p::F,h=>by
  show xor (p.all ρ) (qo ρ F)=xor (p.all τ) (qo τ F)
  rw[vR λ q hq=>h q (Ya _ hq)];congr 1
  have h1:=h p Y1;revert h1;clear h;induction p with
  |nil=>intro _;rfl
  |cons c p ih=>intro h1;rw[List.all_cons,List.all_cons,h1 c Y1,ih λ d hd=>h1 d (Ya _ hd)]
def jq(ns:List Nat)(t:List Bool):List Nat:=List.zipWith (λ n b=>2*n+if b then 1 else 0) ns t
def vb(L:List Nat)(ps:List (List Pr)):List Nat:=ps.foldl (λ ns p=>jq ns (qL p L)) (List.replicate (2^L.length) 0)
def qy(ps:List (List Pr)):List Nat:=qb (ps.map qb)
def putIn(F:List Pr)(g:Nat->List Pr):List Pr:=
 formOf (qy ((qb F).map g)) ((vb (qy ((qb F).map g)) ((qb F).map g)).map λ n=>(qL F (qb F)).getD n false)
theorem vK{L:List Nat}{ns:List Nat}(p:List Pr)(h:ns.length=2^L.length):(jq ns (qL p L)).length=2^L.length:=by
 rw[jq,Yq,zi,h,Nat.min_self]
theorem qam{L:List Nat}:∀(ps:List (List Pr))(ns:List Nat),ns.length=2^L.length->(ps.foldl (λ ns p=>jq ns (qL p L)) ns).length=2^L.length
 | [],ns,h=>h
 |p::ps,ns,h=>qam ps _ (vK p h)
theorem qan(L:List Nat)(ps:List (List Pr)):(vb L ps).length=2^L.length:=qam ps _ (XI ..)
theorem qbJ{ps:List (List Pr)}{c:Nat}:c∈qy ps ↔ ∃ F∈ps,∃ p∈F,c∈p:=by
 rw[qy,zj];constructor
 ·rintro⟨p,hp,hc⟩;obtain⟨F,hF,rfl⟩:=Qd.mp hp;exact⟨F,hF,zj.mp hc⟩
 ·rintro⟨F,hF,p,hp,hc⟩;exact⟨qb F,Qd.mpr ⟨F,hF,rfl⟩,zj.mpr ⟨p,hp,hc⟩⟩
theorem qdD(ρ:Nat->Bool){L:List Nat}(g:Nat->List Pr)(hl:L.Pairwise (·<·)):∀(ls:List Nat)(ns:List Nat)(n:Nat),ns.length=2^L.length->ns[yk ρ 0 L]?=some n->(∀ c∈ls,Vf (g c))->(∀ c∈ls,∀ p∈g c,∀ d∈p,d∈L) ->
  ((ls.map g).foldl (λ ns p=>jq ns (qL p L)) ns)[yk ρ 0 L]?=some (yk (λ c=>qo ρ (g c)) n ls)
 | [],ns,n,_,h,_,_=>h
 |c::ls,ns,n,hn,h,hv,hm=>by
  rw[Jv,Up,yk];refine qdD ρ g hl ls _ _ (vK _ hn) ?_ (λ d hd=>hv d (Ya _ hd)) λ d hd=>hm d (Ya _ hd)
  have ht:=kP ρ hl (hv c Y1) (hm c Y1);rw[y2 ρ L _ (zi _ _)] at ht;have d4:=jP ρ L;have e:(qL (g c) L)[yk ρ 0 L]?=some (qo ρ (g c)):=by
   have h1:yk ρ 0 L<(qL (g c) L).length:=by rw[zi];exact d4
   rw[Xv h1];rw[Xi,Xv h1] at ht;exact congrArg some ht
  rw[jq,XT,h,e]
theorem qfh(F:List Pr)(g:Nat->List Pr):Vf (putIn F g):=vH (zn _) _
theorem qec{F:List Pr}{g:Nat->List Pr}:∀ p∈putIn F g,∀ d∈p,∃ c∈qb F,∃ q∈g c,d∈q:=by
 intro p hp d hd
 have:=(jw hp).subset hd
 obtain⟨G,hG,q,hq,hdq⟩:=qbJ.mp this;obtain⟨c,hc,rfl⟩:=Qd.mp hG;exact⟨c,hc,q,hq,hdq⟩
theorem qcs(ρ:Nat->Bool){F:List Pr}{g:Nat->List Pr}(hF:Vf F)(hg:∀ c∈qb F,Vf (g c)):qo ρ (putIn F g)=qo (λ c=>qo ρ (g c)) F:=by
 have hl:(qy ((qb F).map g)).Pairwise (·<·):=zn _;have lt:=jP ρ (qy ((qb F).map g));rw[putIn,vi ρ (by rw[Ul,qan]),y2 ρ _ _ (by rw[Ul,qan])];have hn:=qdD ρ g hl (qb F) (List.replicate (2^(qy ((qb F).map g)).length) 0) 0 (XI ..) (by rw[Xz,Q7 lt]) hg
  λ c hc p hp d hd=>qbJ.mpr ⟨g c,Qd.mpr ⟨c,hc,rfl⟩,p,hp,hd⟩
 rw[Xi,Ze];rw[show(vb (qy ((qb F).map g)) ((qb F).map g))[yk ρ 0 (qy ((qb F).map g))]?=some _ from hn];show(qL F (qb F)).getD _ false=_
 rw[<- y2 (λ c=>qo ρ (g c)) _ _ (zi _ _)];exact kP _ (zn F) hF λ p hp c hc=>zj.mpr ⟨p,hp,hc⟩
end Fs
namespace L2
open PySem PySem.Spec PyProof.Rows
theorem Draws.strAny{prog:Program}{w:World}{A:Around}(hh:A.handled=none)(it:Addr)(x:Str)(t:Tok):
  Draws prog w A it [it] x.cps.size (λ i v=>∃ c u,x.cps[i]?=some c/\v=.str ⟨#[c]⟩ u) (λ i h=>h.IsStrIter it (strIterType x) x t i):=by
 unfold strIterType;cases ha:x.cps.all (·<128) with
 |true=>rw[Q7 (by simpa using ha)];exact Jh hh it x t
 |false=>rw[Q8 (by simpa using ha)];exact Draws.strWide hh it x t
def qed(z:Str):It2:=⟨λ i H=>i<z.cps.size,λ i H ys H'=>H'=H/\ys=[.int i,sgn z i],λ i H=>i=z.cps.size⟩
def qhu(z:Str)(t:Tok)(e it:Addr)(i:Nat)(h:Heap):Prop:=(∃ M6,IsEnum h e it i M6)/\h.IsStrIter it (strIterType z) z t i
theorem qcY{P:Program}{w:World}{K:W.Frag}{es:List Expr}{k:Nat}{pos:Pos}(z:Str)(t:Tok)(e it:Addr)(fJ:e≠it):Turn2 P w K (.Tuple es k pos) (qed z) [e,it] e (qhu z t e it) where
 obj:=λ i h st b hb=>by
  obtain⟨⟨M6,he⟩,o,ho,c,d⟩:=st;have hb:b=e∨b=it:=by simpa using hb
  rcases hb with y|y
  ·subst y;exact⟨_,he,λ v q=>by cases q⟩
  ·subst y;exact⟨o,ho,λ v q=>by rw[d] at q;cases q⟩
 keep:=λ i h h' st k=>by
  obtain⟨⟨M6,he⟩,h8⟩:=st;obtain⟨o,ho,r⟩:=h8;exact⟨⟨M6,k e (by simp) _ he⟩,o,k it (by simp) o ho,r⟩
 item:=by
  intro X hP hw hK hc i pins s σ H E I hf st hg;subst hP hw hK;have d4:i<z.cps.size:=hg;obtain⟨⟨M6,he⟩,h8⟩:=st;have fe:=hf e (by simp);have fi:=hf it (by simp);refine wpAny_pyNext_enum_itemD (Draws.strAny (A:=X.A.in1) (by simpa using I.ok.hd hc) it z t) he h8 d4 fJ (by simpa using fJ) λ u h' tk hP R9 B5 ht hsz hk=>?_
  refine⟨s.heap.objs.size,rfl,wpAny_letOwnedTupleGo_enum R9 λ h2 wD i3=>?_⟩;replace i3:Heap.SameBut e h' h2:=i3;have cT:e<s.heap.objs.size:=J5 he;have k2:∀ b o,b≠e->b≠it->s.heap.get? b=some o->h2.get? b=some o:=λ b o h1 h3 q=>i3.extBut b o h1 (hk b o h1 h3 q)
  have I1:Inv X pins σ H { s with heap:=h2,toks:=tk+1 }:=by
   refine I.step (g':=s.gens) (d':=s.drawn) (ch:=[e,it]) (λ b hb=>?_) (λ b o _ _ d3 q _=>k2 b o (λ z=>d3 (by simp[z])) (λ z=>d3 (by simp[z])) q)
    (λ b o _ _ d3 q _=>⟨o.slots,k2 b o (λ z=>d3 (by simp[z])) (λ z=>d3 (by simp[z])) q⟩) (λ _ _ _ _ n=>n) (λ b o d3 q=>⟨o,k2 b o (λ z=>d3 (by simp[z])) (λ z=>d3 (by simp[z])) q⟩)
    (λ _ _ q=>q) (λ _ _ _ q=>q) (λ b ps q=>⟨#[],by rw[q];simp⟩) (λ m hm=>?_) (λ b u q=>?_) I.bare
   ·have hb:b=e∨b=it:=by simpa using hb
    rcases hb with z|z
    ·subst z;exact⟨fe.2.2.2.1,fe.2.1,fe.2.2.2.2.1,fe.2.2.2.2.2⟩
    ·subst z;exact⟨fi.2.2.2.1,fi.2.1,fi.2.2.2.2.1,fi.2.2.2.2.2⟩
   ·obtain⟨o,t4,ep,ho,r⟩:=hm;exact⟨o,t4,ep,k2 _ o (Q2 fe.2.1) (Q2 fi.2.1) ho,r⟩
   ·refine(I.hok b u q).stay (λ c v d3 z=>k2 c v (λ y=>?_) (λ y=>?_) z) (λ _ z=>z) λ _ _ z=>z
    ·rcases d3 with y' | y'
     ·rw[<- y',y,fe.1] at q;cases q
     ·rw[y,fe.1] at y';cases y'
    ·rcases d3 with y' | y'
     ·rw[<- y',y,fi.1] at q;cases q
     ·rw[y,fi.1] at y';cases y'
  obtain⟨c,u',ec,rfl⟩:=hP;obtain⟨o3,ho3,r3⟩:=B5;refine⟨[.int i,sgn z i],[.int i tk,.str ⟨#[c]⟩ u'],H,I1,⟨_,(i3.extBut _ _ (J9 cT) ht),rfl,_,rfl⟩,.cons ⟨_,rfl⟩ (.cons (qbs (v:=.str ⟨#[c]⟩ u') ⟨c,u',ec,rfl⟩) .nil),⟨rfl,rfl⟩,⟨⟨.str ⟨#[c]⟩ u',?_⟩,o3,i3.extBut _ _ (Q2 fJ) ho3,r3⟩,λ b hb=>(hf b hb).1⟩
  ·have:((i:Int)+1)=((i+1:Nat):Int):=by omega
   rw[<- this];exact wD
 done:=by
  intro X hP hw hK hc i pins s σ H E I hf st hg;subst hP hw hK;have hi:i=z.cps.size:=hg;subst hi;obtain⟨⟨M6,he⟩,h8⟩:=st;obtain⟨f0,f1,f2,f3,f4,f5⟩:=hf it (by simp);exact wpAny_pyNext_enum_endD (Draws.strAny (A:=X.A.in1) (by simpa using I.ok.hd hc) it z t) he h8 λ h' eb=>⟨rfl,I.turned (t':=s.toks) (λ b o hb e=>eb b o hb e) f0 f1 f3 f4 f5⟩
 self:=λ A i s Q E st h=>by
  obtain⟨⟨M6,he⟩,h8⟩:=st;exact wpAny_pyIter_enum he h
def qhv(ta:TA):TI2:=λ σ H R=>ta σ H λ vs H1=>∃ z,vs=[.str z]/\R (qed z) H1
theorem qfi{X:Cx}{es:List Expr}{k:Nat}{i9:Pos}{l:Expr}{ta:TA}{p pos:Pos}(hg:Gl X "enumerate")(hm:X.mg "enumerate"=none)(ha:PA X [l] ta)(hs:starEach [l] X.env=[(false,eval l X.env)]:=by rfl):
  PI2 X (.Tuple es k i9) (.Call (.Name "enumerate" p) [l] [] pos) (qhv ta):=by
 intro pins s σ H R I h;refine qcb (R:=λ vs H1=>∃ z,vs=[.str z]/\R (qed z) H1) hg hm boot_enumerate ha I h (λ us s1 vs H1 I1 r1 q1=>?_) (hs:=hs);obtain⟨z,e,q⟩:=q1;subst e;obtain⟨u,rfl,t,rfl⟩:=yn r1;refine call_enumerate_str λ h' he h8 hsz hk=>wpAny_pyIter_enum he ?_
 refine⟨s1.heap.objs.size+1,[s1.heap.objs.size+1,s1.heap.objs.size],_,_,H1,rfl,I1.kept (t':=s1.toks) hk,qcY z t _ _ (Z4 _),⟨⟨_,he⟩,h8⟩,λ b hb=>?_,q⟩;have hb:b=s1.heap.objs.size+1∨b=s1.heap.objs.size:=by simpa using hb
 rcases hb with z|z
 ·subst z;exact I1.fpOk (Qn _) (I1.hok.fresh (Qn _))
 ·subst z;exact I1.fpOk (Ql _) (I1.hok.fresh (Ql _))
def qbK(Fs Gs:List (List (List Nat)))(j:Nat):Bool:=match Fs[j]?,Gs[j]? with
 |some F,some G=>decide (F=G)
 |_,_=>true
theorem qct(Fs Gs:List (List (List Nat)))(hl:Fs.length=Gs.length):(List.range Fs.length).all (qbK Fs Gs)=decide (Fs=Gs):=by
 rw[Uh,decide_eq_true_iff,Z1];constructor
 ·intro h1;refine Zm λ j=>?_
  by_cases hj:j<Fs.length
  ·have:=h1 j (by rw[U6];omega)
   have ea:Fs[j]?=some Fs[j]:=Xv hj;have eb:Gs[j]?=some (Gs[j]'(by omega)):=Xv (by omega);unfold qbK at this;rw[ea,eb] at this;rw[ea,eb,Zx this]
  ·rw[XQ (by omega),XQ (by omega)]
 ·rintro rfl j _;unfold qbK;cases Fs[j]? with
  |none=>rfl
  |some a=>exact Jj rfl
def qii(K:W.Frag):R2:=λ x y H Q=>∃(a b:Addr)(as bs:List Addr)(Fs Gs:List (List (List Nat))),x=.ref a/\y=.ref b/\SqL K H a (as.map V.ref)/\SqL K H b (bs.map V.ref)/\Paired (λ c (F:List (List Nat))=>SqT K H c (F.map vS)) as Fs/\Paired (λ c (F:List (List Nat))=>SqT K H c (F.map vS)) bs Gs/\Fs.length=Gs.length/\Q (.bl (!decide (Fs=Gs))) H
theorem qao:∀{ss p8:List Str}{us:List Value},qI (ss.map V.str) us->qI (p8.map V.str) us->ss=p8
 | [],[],_,_,_=>rfl
 | [],_::_,_,.nil,h=>by cases h
 |_::_,[],_,.cons _ _,h=>by cases h
 |a::ss,b::p8,_,.cons r t,.cons r' t'=>by
  obtain⟨u,rfl⟩:=r;obtain⟨u',e⟩:=r';injection e with e1 e2
  rw[e1,qao t t']
theorem yI{α β:Type}{F:α->β->Prop}:∀{xs:List α}{l:List β},Paired F xs l->∀(k:Nat)(a:α),xs[k]?=some a->∃ b,l[k]?=some b/\F a b
 |_,_,.nil,k,a,h=>by simp at h
 |_,_,.cons r t,0,a,h=>by simp at h;subst h;exact⟨_,rfl,r⟩
 |_,_,.cons r t,k+1,a,h=>yI t k a (by simpa using h)
theorem kh{X:Cx}(hu:X.A.units+1<cLine):OpR X (compareOp .NotEq) (qii X.K):=by
 intro pins s σ H x y v u Q I rx ry h;obtain⟨a,b,as,bs,Fs,Gs,rfl,rfl,h1,h2,pa,pb,hl,q⟩:=h;cases rx
 cases ry
 obtain⟨its,r1,p1,_⟩:=I.list h1;obtain⟨i4,r2,p2,_⟩:=I.list h2;have l1:=r1.length;have l2:=r2.length;rw[Ul] at l1 l2;have la:=Yv pa;have lb:=Yv pb;have hs:its.toArray.size=i4.toArray.size:=by rw[Zg,Zg];omega
 refine SeqAt.RcNeAt.lists (A:=X.A) (s:=s) (e:=qbK Fs Gs) p1.isList p2.isList hs (by omega) (λ j h1 h2=>?_) X.prog X.w X.xe _ ⟨.bl (!decide (Fs=Gs)),H,I,?_,q⟩
 ·rw[Zg] at h1 h2;have ea:as[j]?=some (as[j]'(by omega)):=Xv (by omega);have eb:bs[j]?=some (bs[j]'(by omega)):=Xv (by omega);generalize as[j]'(by omega)=c at ea;generalize bs[j]'(by omega)=d at eb;obtain⟨F,eF,hF⟩:=yI pa j c ea;obtain⟨G,eG,hG⟩:=yI pb j d eb;obtain⟨u,eV,ru⟩:=r1.get (i:=j) (x:=V.ref c) (by rw[Ze,ea];rfl);obtain⟨v,O2,rv⟩:=r2.get (i:=j) (x:=V.ref d) (by rw[Ze,eb];rfl);cases ru
  cases rv
  have eu:its.toArray[j]=Value.ref c:=by
   have:its[j]?=some its[j]:=Xv h1
   rw[eV] at this;simpa using(Option.some.inj this).symm
  have ev:i4.toArray[j]=Value.ref d:=by
   have:i4[j]?=some i4[j]:=Xv h2
   rw[O2] at this;simpa using(Option.some.inj this).symm
  rw[eu,ev];have ee:qbK Fs Gs j=decide (F=G):=by unfold qbK;rw[eF,eG]
  rw[ee];rw[zt] at hF hG;obtain⟨iF,rF,pF,_⟩:=I.tuple hF;obtain⟨iG,rG,pG,_⟩:=I.tuple hG;by_cases A4:c=d
  ·subst A4;have e1:iF=iG:=by
    obtain⟨o,ho,_,n,hd⟩:=(show s.heap.IsTuple c iF.toArray from pF);obtain⟨o',E3,_,n',K2⟩:=(show s.heap.IsTuple c iG.toArray from pG);rw[ho] at E3;cases E3
    rw[hd] at K2;injection K2 with e _
    exact List.toArray_inj e
   subst e1;have e2:=qao rF rG;have e3:F=G:=by
    have:=congrArg (List.map cs) e2
    rwa [jj,jj] at this
   rw[Jj e3];exact SeqAt.EqAt.same _
  ·have lF:=rF.length;have lG:=rG.length;rw[Ul] at lF lG
   have:=SeqAt.RcAt.tuples (A:=X.A.in1) (s:=s) (e:=kW V.str (F.map qi) (G.map qi)) (show s.heap.IsTuple c iF.toArray from pF) (show s.heap.IsTuple d iG.toArray from pG) (show X.A.in1.units<cLine from hu) (λ j h1 h2=>qcc vm rF rG j h1 h2)
   rw[Zg,Zg,<- lF,<- lG,qa4 vm] at this;have e4:decide (F.map qi=G.map qi)=decide (F=G):=by
    by_cases h:F=G
    ·subst h;simp
    ·rw[Uz h,Uz];intro e
     have:=congrArg (List.map cs) e
     rw[jj,jj] at this;exact h this
   rw[e4] at this;exact SeqAt.EqAt.of_refs A4 this
 ·rw[Zg,show its.length=Fs.length by omega,qct Fs Gs hl];rfl
def qij(K:W.Frag):R2:=λ x y H Q=>∃(a b:Addr)(as bs:List Addr)(Fs Gs:List (List (List Nat))),x=.ref a/\y=.ref b/\SqL K H a (as.map V.ref)/\SqL K H b (bs.map V.ref)/\Paired (λ c (F:List (List Nat))=>SqT K H c (F.map vS)) as Fs/\Paired (λ c (F:List (List Nat))=>SqT K H c (F.map vS)) bs Gs/\Fs.length=Gs.length/\Q (.bl (decide (Fs=Gs))) H
theorem qgn{X:Cx}(hu:X.A.units+1<cLine):OpR X (compareOp .Eq) (qij X.K):=by
 intro pins s σ H x y v u Q I rx ry h;obtain⟨a,b,as,bs,Fs,Gs,rfl,rfl,h1,h2,pa,pb,hl,q⟩:=h;cases rx
 cases ry
 obtain⟨its,r1,p1,_⟩:=I.list h1;obtain⟨i4,r2,p2,_⟩:=I.list h2;have l1:=r1.length;have l2:=r2.length;rw[Ul] at l1 l2;have la:=Yv pa;have lb:=Yv pb;have hs:its.toArray.size=i4.toArray.size:=by rw[Zg,Zg];omega
 refine SeqAt.eq_listAt (e:=qbK Fs Gs) p1.isList p2.isList hs (by omega) (λ j h1 h2=>?_) ⟨.bl (decide (Fs=Gs)),H,I,?_,q⟩
 ·rw[Zg] at h1 h2;have ea:as[j]?=some (as[j]'(by omega)):=Xv (by omega);have eb:bs[j]?=some (bs[j]'(by omega)):=Xv (by omega);generalize as[j]'(by omega)=c at ea;generalize bs[j]'(by omega)=d at eb;obtain⟨F,eF,hF⟩:=yI pa j c ea;obtain⟨G,eG,hG⟩:=yI pb j d eb;obtain⟨u,eV,ru⟩:=r1.get (i:=j) (x:=V.ref c) (by rw[Ze,ea];rfl);obtain⟨v,O2,rv⟩:=r2.get (i:=j) (x:=V.ref d) (by rw[Ze,eb];rfl);cases ru
  cases rv
  have eu:its.toArray[j]=Value.ref c:=by
   have:its[j]?=some its[j]:=Xv h1
   rw[eV] at this;simpa using(Option.some.inj this).symm
  have ev:i4.toArray[j]=Value.ref d:=by
   have:i4[j]?=some i4[j]:=Xv h2
   rw[O2] at this;simpa using(Option.some.inj this).symm
  rw[eu,ev];have ee:qbK Fs Gs j=decide (F=G):=by unfold qbK;rw[eF,eG]
  rw[ee];rw[zt] at hF hG;obtain⟨iF,rF,pF,_⟩:=I.tuple hF;obtain⟨iG,rG,pG,_⟩:=I.tuple hG;by_cases A4:c=d
  ·subst A4;have e1:iF=iG:=by
    obtain⟨o,ho,_,n,hd⟩:=(show s.heap.IsTuple c iF.toArray from pF);obtain⟨o',E3,_,n',K2⟩:=(show s.heap.IsTuple c iG.toArray from pG);rw[ho] at E3;cases E3
    rw[hd] at K2;injection K2 with e _
    exact List.toArray_inj e
   subst e1;have e2:=qao rF rG;have e3:F=G:=by
    have:=congrArg (List.map cs) e2
    rwa [jj,jj] at this
   rw[Jj e3];exact SeqAt.EqAt.same _
  ·have lF:=rF.length;have lG:=rG.length;rw[Ul] at lF lG
   have:=SeqAt.RcAt.tuples (A:=X.A.in1) (s:=s) (e:=kW V.str (F.map qi) (G.map qi)) (show s.heap.IsTuple c iF.toArray from pF) (show s.heap.IsTuple d iG.toArray from pG) (show X.A.in1.units<cLine from hu) (λ j h1 h2=>qcc vm rF rG j h1 h2)
   rw[Zg,Zg,<- lF,<- lG,qa4 vm] at this;have e4:decide (F.map qi=G.map qi)=decide (F=G):=by
    by_cases h:F=G
    ·subst h;simp
    ·rw[Uz h,Uz];intro e
     have:=congrArg (List.map cs) e
     rw[jj,jj] at this;exact h this
   rw[e4] at this;exact SeqAt.EqAt.of_refs A4 this
 ·rw[Zg,show its.length=Fs.length by omega,qct Fs Gs hl];rfl
theorem qee{z:Str}{t:TGs}{tb:TS}{D:Ends}{σ:St}{H:Hp}(Pv:Nat->St->Hp->Prop)(h0:Pv 0 σ H)(hs:∀ i σ H,i<z.cps.size->Pv i σ H->t [.int i,sgn z i] σ H λ σ2 H2=>tb { D with nx:=Pv (i+1),ct:=Pv (i+1),bk:=D.nx } σ2 H2)(hd:∀ σ H,Pv z.cps.size σ H->D.nx σ H):
  ∃ W:Nat->Nat->St->Hp->Prop,(∃ m,W 0 m σ H)/\∀ i m σ H,W i m σ H ->
   ((qed z).stop i H/\D.nx σ H)∨((qed z).go i H/\∃ N:St->Hp->Prop,(∀ σ' H',N σ' H'->∃ m',m'<m/\W (i+1) m' σ' H')/\∀ zs H',(qed z).yld i H zs H'->zs.length=2/\t zs σ H' λ σ2 H2=>tb { D with nx:=N,ct:=N,bk:=D.nx } σ2 H2):=by
 refine⟨λ i m σ H=>m=z.cps.size-i/\i<=z.cps.size/\Pv i σ H,⟨z.cps.size,by simp,Qm _,h0⟩,?_⟩;rintro i m σ H ⟨rfl,hi,p⟩;by_cases d4:i<z.cps.size
 ·refine .inr ⟨d4,Pv (i+1),λ σ' H' p'=>⟨z.cps.size-(i+1),by omega,rfl,d4,p'⟩,λ zs H' y=>?_⟩;obtain⟨e,ez⟩:=y;subst e ez;exact⟨rfl,hs i σ _ d4 p⟩
 ·have e:i=z.cps.size:=by omega
  subst e;exact .inl ⟨rfl,hd σ H p⟩
end L2
namespace Fs
def uni(a b:Pr):Pr:=qb [a++b]
end Fs
namespace L2
open PySem PySem.Spec PyProof.Rows
section
variable {X:Cx}{pins:List (Addr×Obj)}{σ:St}{H:Hp}{s:Shared}{a:Addr}
theorem Inv.swap{u u':HO}(I:Inv X pins σ H s)(e:H a=some u)(n1:∀ x,u≠.own x)(n2:∀ xs,u≠.tup xs)(n3:∀ ps,u≠.tbl ps)(n4:∀ o v,X.H₀ a≠some (.frz o v))(ok:qQ X.prog X.w (upd H a u') s.heap a u'):Inv X pins σ (upd H a u') s:=by
 have ne:∀{b:Addr},H b=none->b≠a:=λ h q=>by rw[q,e] at h;cases h
 refine⟨I.ok,I.os,I.bare,⟨I.base.keep,I.base.slot,λ b o q n hx=>?_,I.base.there,λ b xs q=>?_,λ b o v q=>?_,λ b ps q=>?_⟩,I.loc,I.cell,?_,λ x c q=>?_,λ p hp=>?_,λ b v q=>?_,I.len⟩
 ·have:=I.base.free b o q n hx
  rw[qg (ne this)];exact this
 ·have:=I.base.tups b xs q
  rw[qg (λ z=>by rw[z,e] at this;exact n2 _ (Option.some.inj this))];exact this
 ·have:=I.base.frzs b o v q
  rw[qg (show b≠a from λ z=>n4 o v (by rw[<- z];exact q))];exact this
 ·obtain⟨more,h⟩:=I.base.tbls b ps q;exact⟨more,by rw[qg (λ z=>by rw[z,e] at h;exact n3 _ (Option.some.inj h))];exact h⟩
 ·rw[qg (ne I.free)];exact I.free
 ·rw[qg (ne (I.freeC x c q))];exact I.freeC x c q
 ·obtain⟨p1,p2,p3⟩:=I.pin p hp;exact⟨p1,by rw[qg (ne p2)];exact p2,p3⟩
 ·by_cases hb:b=a
  ·subst hb;rw[qe] at q;cases q
   exact ok
  ·rw[qg hb] at q;refine(I.hok b v q).stay (λ c w _ r=>r) (λ c r=>?_) λ c xs r=>?_
   ·rw[qg (λ z=>by rw[z,e] at r;exact n1 _ (Option.some.inj r))];exact r
   ·rw[qg (λ z=>by rw[z,e] at r;exact n2 _ (Option.some.inj r))];exact r
theorem Inv.nofrz{u:HO}(I:Inv X pins σ H s)(e:H a=some u)(h:∀ o v,u≠.frz o v):∀ o v,X.H₀ a≠some (.frz o v):=λ o v q=>by
 have:=I.base.frzs a o v q
 rw[e] at this;exact h o v (Option.some.inj this)
end
def qik(a:Addr)(kvs:List (Key×V))(D:Ends):Ends where
 nx:=λ σ H=>∃ o,H a=some (.frz o (.dK kvs))/\D.nx σ (upd H a (.dK kvs))
 rt:=λ v H=>∃ o,H a=some (.frz o (.dK kvs))/\D.rt v (upd H a (.dK kvs))
 bk:=λ σ H=>∃ o,H a=some (.frz o (.dK kvs))/\D.bk σ (upd H a (.dK kvs))
 ct:=λ σ H=>∃ o,H a=some (.frz o (.dK kvs))/\D.ct σ (upd H a (.dK kvs))
def qhw(t:TS):TS:=λ D σ H=>∃ a kvs,H a=some (.dK kvs)/\t (qik a kvs D) σ H
section
variable {X:Cx}
theorem Inv.thaw{pins:List (Addr×Obj)}{σ:St}{H:Hp}{s:Shared}{a:Addr}{o:Obj}{kvs:List (Key×V)}(I:Inv X pins σ H s)(nf:∀ o v,X.H₀ a≠some (.frz o v))(ho:H a=some (.frz o (.dK kvs))):Inv X pins σ (upd H a (.dK kvs)) s:=by
 refine I.swap ho (λ _ z=>by cases z) (λ _ z=>by cases z) (λ _ z=>by cases z) nf ?_;obtain⟨_,z,y,vs,r,k⟩:=(show qQ X.prog X.w H s.heap a (.frz o (.dK kvs)) from I.hok a _ ho);exact⟨z,y,vs,r,k⟩
theorem qgo{st:Stmt}{t:TS}(h:PS X st t):PS X st (qhw t):=by
 intro pins s σ H D I hw;obtain⟨a,kvs,ha,hw⟩:=hw;have nf:=I.nofrz ha λ _ _ z=>by cases z
 refine thn (h pins s σ H _ I hw) λ f s1 q=>?_
 cases f with
 |next=>obtain⟨σ1,H1,I1,o,ho,q⟩:=q;exact⟨σ1,_,I1.thaw nf ho,q⟩
 |brk=>obtain⟨σ1,H1,I1,o,ho,q⟩:=q;exact⟨σ1,_,I1.thaw nf ho,q⟩
 |cont=>obtain⟨σ1,H1,I1,o,ho,q⟩:=q;exact⟨σ1,_,I1.thaw nf ho,q⟩
 |ret u=>obtain⟨v,σ1,H1,I1,r,o,ho,q⟩:=q;exact⟨v,σ1,_,I1.thaw nf ho,r,q⟩
end
end L2
namespace L2
open PySem PySem.Spec PyProof.Rows PySem.StrLaws PySem.Builtin PySem.Builtin.Str
end L2
namespace L2
open PySem PySem.Spec PyProof.Rows
theorem ke{n:Nat}:∀(G:List (List Nat)),(∀ p∈G,p.length<=n)->G.flatten.length<=n*G.length:=by
 intro G;induction G with
 |nil=>intro _;simp
 |cons g G ih =>
  intro h;have h1:=h g (Y1 ..);have h2:=ih λ p hp=>h p (Ya _ hp)
  rw[Zh,Y4,Zz,Nat.mul_succ];omega
end L2
namespace Fs
def qv(F G:List Pr):List Pr:=F.flatMap λ p=>G.map λ q=>uni p q
end Fs
namespace L2
open PySem PySem.Spec PyProof.Rows
section
variable {X:Cx}
abbrev rAS:R2:=λ x y H Q=>∃ i j,x=.str i/\y=.str j/\i.length+j.length<=sizeLine/\Q (.str (i++j)) H
theorem qgp:OpR X (binaryOp .Add) rAS:=kC
end
end L2
namespace L2
open PySem PySem.Spec PyProof.Rows PySem.StrLaws PySem.Builtin PySem.Builtin.Str
end L2
namespace Fs
theorem qfj{k M N:Nat}(hM:M<2^k)(hN:N<2^k):M &&& (2^k+N)=M &&& N:=by
 apply Nat.eq_of_testBit_eq
 intro i;rw[Uv,Uv];by_cases h:i<k
 ·rw[Xj h]
 ·have:M.testBit i=false:=XE (Y0 hM (Yk (by decide) (Nat.le_of_not_lt h)))
  rw[this];rfl
theorem qef{k M N:Nat}(hM:M<2^k)(hN:N<2^k):(2^k+M) &&& (2^k+N)=2^k+(M &&& N):=by
 have hMN:M &&& N<2^k:=Nat.lt_of_le_of_lt Nat.and_le_left hM;apply Nat.eq_of_testBit_eq
 intro i;rw[Uv];rcases Nat.lt_trichotomy i k with h|h|h
 ·rw[Xj h,Xj h,Xj h,Uv]
 ·subst h;rw[Xk,Xk,Xk,XE hM,XE hN,XE hMN];rfl
 ·have up:∀ x,x<2^k->(2^k+x).testBit i=false:=λ x hx=>XE (by
   have:2^(k+1)<=2^i:=Yk (by decide) h
   rw[Qc] at this;omega)
  rw[up _ hM,up _ hMN];rfl
def prt(N M:Nat):Bool:=(M &&& N) == M
theorem qhx{N M:Nat}(h:prt N M=true):M<=N:=by
 have e:M &&& N=M:=by simpa [prt] using h
 rw[<- e];exact Nat.and_le_right
def jr(l:List Bool):Bool:=l.foldl (λ a b=>xor a b) false
theorem qcu(l:List Bool)(a:Bool):l.foldl (λ a b=>xor a b) a=xor a (jr l):=by
 induction l generalizing a with
 |nil=>simp[jr]
 |cons x l ih=>unfold jr;rw[Up,Up,ih,ih (xor false x)];cases a <;> cases x <;> simp
theorem jG(l m:List Bool):jr (l++m)=xor (jr l) (jr m):=by unfold jr;rw[Zp,qcu];rfl
theorem qeg{l:List Bool}(h:∀ b∈l,b=false):jr l=false:=by
 induction l with
 |nil=>rfl
 |cons x l ih =>
  unfold jr;rw[Up,qcu,h x (Y1 ..),ih λ b hb=>h b (Ya _ hb)];rfl
def jl(t:List Bool)(N:Nat):Bool:=jr ((List.range (N+1)).map λ M=>prt N M && t.getD M false)
theorem qfk(t:List Bool){N K:Nat}(h:N<K):jr ((List.range K).map λ M=>prt N M && t.getD M false)=jl t N:=by
 obtain⟨d,rfl⟩:∃ d,K=N+1+d:=⟨K-(N+1),by omega⟩;rw[List.range_add,Ur,jG,qeg (l:=List.map _ (List.map _ _)) λ b hb=>?_]
 ·unfold jl;simp
 ·rw[Qe] at hb;obtain⟨j,_,rfl⟩:=Qd.mp hb;show(prt N (N+1+j) && _)=false
  have:prt N (N+1+j)=false:=by
   cases e:prt N (N+1+j) with
   |false=>rfl
   |true=>have:=qhx e;omega
  rw[this];rfl
theorem qfl{M7 K1:List Bool}{k N:Nat}(hl:M7.length=2^k)(hN:N<2^k):jl (M7++K1) N=jl M7 N:=by
 unfold jl;congr 1
 refine Yw λ M hM=>?_
 have:M<M7.length:=by have:=U6.mp hM;omega
 rw[Xi,Xi,Xm this]
theorem qeh{M7 K1:List Bool}{k N:Nat}(hl:M7.length=2^k)(hN:N<2^k):jl (M7++K1) (2^k+N)=xor (jl M7 N) (jl K1 N):=by
 have e:jl (M7++K1) (2^k+N)=jr ((List.range (2^k+(N+1))).map λ M=>prt (2^k+N) M && (M7++K1).getD M false):=by unfold jl;rw[Jx]
 rw[e,List.range_add,Ur,jG];congr 1
 ·rw[<- qfk M7 hN];congr 1
  refine Yw λ M hM=>?_
  have hM:M<2^k:=U6.mp hM;have e1:prt (2^k+N) M=prt N M:=by unfold prt;rw[qfj hM hN]
  rw[e1,Xi,Xi,Xm (by omega)]
 ·unfold jl;rw[Qe];congr 1
  refine Yw λ M hM=>?_
  have hM':M<2^k:=by have:=U6.mp hM;omega
  show(prt (2^k+N) (2^k+M) && (M7++K1).getD (2^k+M) false)=_
  have e1:prt (2^k+N) (2^k+M)=prt N M:=by
   unfold prt;rw[qef hM' hN];rw[Uh,beq_iff_eq,beq_iff_eq];omega
  rw[e1,Xi,Xi,Xg (by omega),hl,X3]
theorem ki:∀(n:Nat)(t:List Bool),t.length=2^n->∀ N,N<2^n->(qR n t)[N]?=some (jl t N)
 |0,t,h,N,hN=>by
  have e:N=0:=by simpa using hN
  subst e
  match t,h with
  | [b],_=>cases b <;> rfl
 |n+1,t,h,N,hN=>by
  have hp:2^(n+1)=2^n+2^n:=by rw[Qc];omega
  have h1:(t.take (2^n)).length=2^n:=by rw[Zy];omega
  have h2:(t.drop (2^n)).length=2^n:=by rw[Z0];omega
  have l1:=qB n _ h1;have et:t=t.take (2^n)++t.drop (2^n):=(XN _ _).symm;rw[qR];by_cases d4:N<2^n
  ·rw[Xm (by omega),ki n _ h1 N d4]
   conv=>rhs;rw[et,qfl h1 d4]
  ·obtain⟨N',rfl⟩:∃ N',N=2^n+N':=⟨N-2^n,by omega⟩;have wR:N'<2^n:=by omega
   rw[Xg (by omega),l1,X3,XT,ki n _ h1 N' wR,ki n _ h2 N' wR]
   conv=>rhs;rw[et,qeh h1 wR]
end Fs
namespace Fs
def qD(n N:Nat):List Bool:=(List.range n).map λ k=>decide (N / 2^(n-1-k) % 2=1)
theorem y3(n N:Nat):(qD n N).length=n:=by unfold qD;rw[Ul,Zo]
theorem qfm{n N k:Nat}(h:k<n):(qD n N)[k]?=some (decide (N / 2^(n-1-k) % 2=1)):=by
 unfold qD;rw[Ze,Yx h];rfl
theorem qap(n N:Nat):qD (n+1) N=decide (N / 2^n % 2=1)::qD n N:=by
 unfold qD;rw[List.range_succ_eq_map,Jv,Qe];congr 1
 refine Yw λ k hk=>?_
 show decide (N / 2^(n+1-1-(k+1)) % 2=1)=_
 rw[show n+1-1-(k+1)=n-1-k by omega]
theorem qbb(n N:Nat):qD n (N % 2^n)=qD n N:=by
 unfold qD;refine Yw λ k hk=>?_
 have hk:=U6.mp hk;rw[<- Nat.testBit_eq_decide_div_mod_eq,<- Nat.testBit_eq_decide_div_mod_eq,Nat.testBit_mod_two_pow,Jj (show n-1-k<n by omega)];rfl
def asg(ls:List Nat)(r:List Bool)(c:Nat):Bool:=(((ls.zip r).find? λ x=>decide (x.1=c)).map (·.2)).getD false
theorem qaq(c:Nat)(ls:List Nat)(b:Bool)(r:List Bool):asg (c::ls) (b::r) c=b:=by unfold asg;rw[Y6,Um];simp
theorem qar{c d:Nat}(ls:List Nat)(b:Bool)(r:List Bool)(h:¬ c=d):asg (c::ls) (b::r) d=asg ls r d:=by
 unfold asg;rw[Y6,Um,show decide ((c,b).1=d)=false from Uz h]
theorem qcv(ρ:Nat->Bool):∀{ls:List Nat},ls.Nodup->∀ c∈ls,asg ls (qD ls.length (yk ρ 0 ls)) c=ρ c
 | [],_,c,h=>by simp at h
 |d::ls,nd,c,hc=>by
  have A7:=Uj.mp nd;have d4:=jP ρ ls;have hM:yk ρ 0 (d::ls)=(if ρ d then 1 else 0)*2^ls.length+yk ρ 0 ls:=by rw[yk,jF];simp
  have hp:0<2^ls.length:=Nat.two_pow_pos _;have e1:yk ρ 0 (d::ls) / 2^ls.length=if ρ d then 1 else 0:=by
   rw[hM,Qb,Nat.mul_add_div hp,Nat.div_eq_of_lt d4,Nat.add_zero]
  have e2:yk ρ 0 (d::ls) % 2^ls.length=yk ρ 0 ls:=by
   rw[hM,Qb,Nat.mul_add_mod,Nat.mod_eq_of_lt d4]
  rw[Zz,qap,e1,<- qbb,e2];by_cases h:d=c
  ·subst h;rw[qaq];cases ρ d <;> rfl
  ·rw[qar _ _ _ h];have A0:c∈ls:=by
    rcases Js.mp hc with e|e
    ·exact absurd e.symm h
    ·exact e
   exact qcv ρ A7.2 c A0
def sel(ls:List Nat)(N:Nat):Pr:=ls.filter (asg ls (qD ls.length N))
theorem qfn{d:Nat}{ls:List Nat}(nd:(d::ls).Nodup)(N:Nat):sel (d::ls) N=if N / 2^ls.length % 2=1 then d::sel ls (N % 2^ls.length) else sel ls (N % 2^ls.length):=by
 have A7:=Uj.mp nd;unfold sel;rw[Zz,qap,qbb];have e:ls.filter (asg (d::ls) (decide (N / 2^ls.length % 2=1)::qD ls.length N))=ls.filter (asg ls (qD ls.length N)):=
  List.filter_congr λ c hc=>qar _ _ _ λ e=>A7.1 (e ▸ hc)
 rw[List.filter_cons,qaq,e];by_cases h:N / 2^ls.length % 2=1
 ·rw[Q7 h,Jj h,Q7 rfl]
 ·rw[Q8 h,Uz h,Q8 (by decide)]
theorem qas:∀{ls:List Nat},ls.Nodup->∀{N:Nat},N<2^ls.length->(qT ls)[N]?=some (sel ls N)
 | [],_,N,h=>by
  have e:N=0:=by simpa using h
  rw[e];rfl
 |d::ls,nd,N,h=>by
  have A7:=Uj.mp nd;have hp:0<2^ls.length:=Nat.two_pow_pos _;rw[Zz,Qc] at h;rw[qT,qfn nd];by_cases d4:N<2^ls.length
  ·rw[Xm (by rw[qA];exact d4),Nat.div_eq_of_lt d4,Nat.mod_eq_of_lt d4,Q8 (by decide),qas A7.2 d4]
  ·have e1:N / 2^ls.length=1:=by
    rw[Nat.div_eq_iff hp];omega
   have e2:N % 2^ls.length=N-2^ls.length:=by
    rw[Nat.mod_eq_sub_mod (by omega),Nat.mod_eq_of_lt (by omega)]
   rw[Xg (by rw[qA];omega),qA,Ze,qas A7.2 (N:=N-2^ls.length) (by omega),e1,e2,Q7 rfl];rfl
def jX(ls:List Nat)(t:List Bool)(i:Nat):List Pr:=(List.range i).filterMap λ N=>if jl t N=true then some (sel ls N) else none
theorem qat(ls:List Nat)(t:List Bool)(i:Nat):jX ls t (i+1)=jX ls t i++(if jl t i=true then [sel ls i] else []):=by
 unfold jX;rw[List.range_succ,XO];congr 1
 by_cases h:jl t i=true
 ·simp[h]
 ·simp[h]
theorem qbc(ls:List Nat)(t:List Bool)(i:Nat):(jX ls t i).length<=i:=by
 have:=List.length_filterMap_le (λ N=>if jl t N=true then some (sel ls N) else none) (List.range i)
 rw[Zo] at this;exact this
theorem qbd{ls:List Nat}{t:List Bool}(nd:ls.Nodup)(ht:t.length=2^ls.length):jX ls t (2^ls.length)=zF ls (qR ls.length t):=by
 have e:(qT ls).zip (qR ls.length t)=(List.range (2^ls.length)).map λ N=>(sel ls N,jl t N):=by
  refine Zm λ N=>?_
  rw[Ze];by_cases h:N<2^ls.length
  ·have e1:((qT ls).zip (qR ls.length t))[N]?=some (sel ls N,jl t N):=List.getElem?_zip_eq_some.mpr ⟨qas nd h,ki _ _ ht N h⟩;rw[Yx h,e1];rfl
  ·rw[XQ (by rw[Uw,qA];omega),XQ (by rw[Zo];omega)];rfl
 unfold zF jX;rw[e,List.filterMap_map];rfl
theorem qfo(l:List Bool)(b:Bool):jr (l++[b])=xor (jr l) b:=by rw[jG];congr 1;cases b <;> rfl
theorem qfp{ls:List Nat}{F:List Pr}{t:List Bool}(hl:ls.Pairwise (·<·))(hF:Vf F)(hm:∀ p∈F,∀ c∈p,c∈ls)(ht:t.length=2^ls.length)(h:∀ N,N<2^ls.length->t.getD N false=qo (asg ls (qD ls.length N)) F):formOf ls t=F:=
 (vH hl t).only hF λ ρ=>by
  rw[vi ρ ht,y2 ρ ls t ht,h _ (jP ρ ls)];exact vR λ p hp c hc=>qcv ρ (qO Jr hl) c (hm p hp c hc)
end Fs
namespace Fs
open PySem L2
theorem zJ{α β:Type}{F:α->β->Prop}:∀{xs:List α}{l:List β},Paired F xs l->∀(k:Nat)(a:α),xs[k]?=some a->∃ b,l[k]?=some b/\F a b
 |_,_,.nil,k,a,h=>by simp at h
 |_,_,.cons r t,0,a,h=>by simp at h;subst h;exact⟨_,rfl,r⟩
 |_,_,.cons r t,k+1,a,h=>zJ t k a (by simpa using h)
theorem qgq(M N:Nat):Builtin.bitAnd (M:Int) (N:Int)=((M &&& N:Nat):Int):=by
 unfold Builtin.bitAnd;rw[Jj (Int.natCast_nonneg M),Jj (Int.natCast_nonneg N)];rfl
theorem vT{α:Type}{l:List α}{f:α->Bool}{i:Nat}(hi:i<l.length):(l.take (i+1)).filter f=(l.take i).filter f++(if f l[i]=true then [l[i]] else []):=by
 rw[Xa hi,List.filter_append];congr 1
 rw[List.filter_cons];rfl
theorem jm(ls:List Nat):(ls.map λ c=>vS [c])=(ls.map λ c=>[c]).map vS:=by rw[Qe];rfl
end Fs
namespace L2
open PySem PySem.Spec PyProof.Rows
def qfq(a:Addr)(o:Obj)(kvs:List (Key×V)):It2:=
 ⟨λ i H=>H a=some (.frz o (.dK kvs))/\i<kvs.length,λ i H xs H'=>H'=H/\∃ k v,kvs[i]?=some (k,v)/\xs=[kV k,v],λ i H=>H a=some (.frz o (.dK kvs))/\kvs.length<=i⟩
def qhy(it a:Addr)(n ep:Nat)(i:Nat)(h:Heap):Prop:=∃ ok ov,IsItemIter h it a i n ep ok ov
theorem qcZ{P:Program}{w:World}{K:W.Frag}{es:List Expr}{k:Nat}{pos:Pos}(a it:Addr)(o:Obj)(kvs:List (Key×V))(vs:List (Key×Value))(ep:Nat)(r:KV kvs vs)(hd:∀ h:Heap,h.get? a=some o->h.DictAt (qk P w) a vs ep):
  Turn2 P w K (.Tuple es k pos) (qfq a o kvs) [it] it (qhy it a vs.length ep) where
 obj:=λ i h st b hb=>by
  obtain⟨ok,ov,he⟩:=st;have e:b=it:=by simpa using hb
  subst e;exact⟨_,he,λ v q=>by cases q⟩
 keep:=λ i h h' st k=>by
  obtain⟨ok,ov,he⟩:=st;exact⟨ok,ov,k it (by simp) _ he⟩
 item:=by
  intro X hP hw hK hc i pins s σ H E I hf st hg;subst hP hw hK;obtain⟨hq,hi⟩:=hg;have ho:s.heap.get? a=some o:=(I.hok a _ hq).1;obtain⟨f0,f1,f2,f3,f4,f5⟩:=hf it (by simp);have hx:kvs[i]?=some kvs[i]:=Xv hi;obtain⟨q,E9,rk⟩:=vt r i kvs[i] hx;obtain⟨k,v⟩:=q;obtain⟨ok,ov,he⟩:=st;refine wpAny_pyNext_items_item he (hd _ ho) E9 λ key h' A3 R9 ht hsz hk=>?_
  refine⟨s.heap.objs.size,rfl,wpAny_letOwnedTupleGo_items R9 λ h2 wD i3=>?_⟩;replace i3:Heap.SameBut it h' h2:=i3;have cT:it<s.heap.objs.size:=J5 he;have I1:Inv X pins σ H { s with heap:=h2 }:=I.turned (t':=s.toks) (λ b o hb e=>i3.extBut b o hb (hk b o hb e)) f0 f1 f3 f4 f5;have ek:kvs[i].1=k:=rk.1;exact⟨[kV k,kvs[i].2],[key,v],H,I1,⟨_,(i3.extBut _ _ (J9 cT) ht),rfl,_,rfl⟩,.cons (qgi A3) (.cons rk.2 .nil),⟨rfl,k,kvs[i].2,by rw[hx,<- ek],rfl⟩,⟨_,_,wD⟩,λ b hb=>(hf b hb).1⟩
 done:=by
  intro X hP hw hK hc i pins s σ H E I hf st hg;subst hP hw hK;obtain⟨hq,hi⟩:=hg;have ho:s.heap.get? a=some o:=(I.hok a _ hq).1;have lv:kvs.length=vs.length:=Yv r;obtain⟨f0,f1,f2,f3,f4,f5⟩:=hf it (by simp);obtain⟨ok,ov,he⟩:=st;exact wpAny_pyNext_items_end (I.ok.hd hc) he (hd _ ho) (XQ (by omega)) λ h' eb=>⟨rfl,I.turned (t':=s.toks) (λ b o hb e=>eb b o hb e) f0 f1 f3 f4 f5⟩
 self:=λ A i s Q E st h=>by
  obtain⟨ok,ov,he⟩:=st;exact W.kcp_self he h
section
variable {X:Cx}{tg:Expr}
def qhz(tl:TE):TI2:=λ σ H R=>tl σ H λ x H1=>∃ a kvs,x=.ref a/\H1 a=some (.dK kvs)/\∀ o,R (qfq a o kvs) (upd H1 a (.frz o (.dK kvs)))
theorem qfr{es:List Expr}{k:Nat}{i9:Pos}{o:Expr}{to:TE}{apos cpos:Pos}(ho:PE X o to)(E6:attributeBase o "items" X.env (eval o X.env)=eval o X.env:=by rfl)(E4:(apos.endLine == cpos.line)=true:=by rfl):PI2 X (.Tuple es k i9) (.Call (.Attribute o "items" apos) [] [] cpos) (qhz to):=by
 intro pins s σ H R I h;refine wpAny_Call_method0_late E6 E4 (thn (ho pins s σ H _ I h) λ v s1 ⟨x,H1,I1,r1,q1⟩=>?_);obtain⟨d,kvs,rfl,hd,q⟩:=q1;cases r1
 obtain⟨z,y,vs,r,ob,es,ep,cN,rest⟩:=(show qQ X.prog X.w H1 s1.heap d (.dK kvs) from I1.hok d _ hd);have dd:s1.heap.DictOf (qk X.prog X.w) d vs:=⟨ob,es,ep,cN,rest⟩;have hdA:∀ h:Heap,h.get? d=some ob->h.DictAt (qk X.prog X.w) d vs ep:=λ h e=>⟨ob,es,e,rest⟩
 obtain⟨h1,h2⟩:=qcK (T:="dict") I1 (x:=.ref d) (v:=.ref d) rfl (.inr (.inr (.inl ⟨rfl,.inl ⟨kvs,hd⟩⟩)));refine⟨"dict","dict.items",PySem.F.plainAttrs_dict,PySem.F.slot_dict_items,PySem.F.type_dict_items,h1,h2,XA rfl (PySem.evalArgs_none ?_)⟩;refine call_meetsIn PySem.F.slot_dict_items dd.typeIs PySem.F.entry_dict_items (PySem.F.args_dict_items_1 _) (meets_dict_items (qk X.prog X.w) d y) ⟨⟨vs,dd⟩,?_⟩;refine wpAny_pyIter_items (knd:=qk X.prog X.w) (kvs:=vs) (ep:=ep) (d:=d) (s:={ s1 with heap:=s1.heap.push { cls:=.type "dict_items",data:=.fields #[.ref d] } }) ⟨_,Yn _ rfl,rfl,rfl⟩ (hdA _ (X9 _ cN)) ?_;have I2:Inv X pins σ (upd H1 d (.frz ob (.dK kvs))) s1:=I1.swap hd (λ _ z=>by cases z) (λ _ z=>by cases z) (λ _ z=>by cases z) (I1.nofrz hd λ _ _ z=>by cases z) ⟨cN,z,y,vs,r,ob,es,ep,cN,rest⟩;have I3:Inv X pins σ (upd H1 d (.frz ob (.dK kvs))) { s1 with heap:=s1.heap.push { cls:=.type "dict_items",data:=.fields #[.ref d] } }:=I2.kept (t':=s1.toks) λ b o e=>X9 _ e
 refine⟨(s1.heap.push { cls:=.type "dict_items",data:=.fields #[.ref d] }).objs.size,[(s1.heap.push { cls:=.type "dict_items",data:=.fields #[.ref d] }).objs.size],_,_,upd H1 d (.frz ob (.dK kvs)),rfl,I3.kept (t':=s1.toks) λ b o e=>X9 _ e,qcZ d _ ob kvs vs ep r hdA,⟨_,_,Yn _ rfl⟩,λ b hb=>?_,q ob⟩;have e:b=(s1.heap.push { cls:=.type "dict_items",data:=.fields #[.ref d] }).objs.size:=by simpa using hb
 subst e;exact I3.fpOk (Ql _) (I3.hok.fresh (Ql _))
end
theorem qhA{a:Addr}{ob:Obj}{kvs:List (Key×V)}{t:TGs}{tb:TS}{D:Ends}{σ:St}{H:Hp}(Pv:Nat->St->Hp->Prop)(h0:Pv 0 σ H)(hl:∀ i σ H,i<=kvs.length->Pv i σ H->H a=some (.frz ob (.dK kvs)))(hs:∀ i k v σ H,kvs[i]?=some (k,v)->Pv i σ H->t [kV k,v] σ H λ σ2 H2=>tb { D with nx:=Pv (i+1),ct:=Pv (i+1),bk:=D.nx } σ2 H2)(hd:∀ σ H,Pv kvs.length σ H->D.nx σ H):
  ∃ W:Nat->Nat->St->Hp->Prop,(∃ m,W 0 m σ H)/\∀ i m σ H,W i m σ H ->
   ((qfq a ob kvs).stop i H/\D.nx σ H)∨((qfq a ob kvs).go i H/\∃ N:St->Hp->Prop,(∀ σ' H',N σ' H'->∃ m',m'<m/\W (i+1) m' σ' H')/\∀ zs H',(qfq a ob kvs).yld i H zs H'->zs.length=2/\t zs σ H' λ σ2 H2=>tb { D with nx:=N,ct:=N,bk:=D.nx } σ2 H2):=by
 refine⟨λ i m σ H=>m=kvs.length-i/\i<=kvs.length/\Pv i σ H,⟨kvs.length,by simp,Qm _,h0⟩,?_⟩;rintro i m σ H ⟨rfl,hi,p⟩;have q:=hl i σ H hi p;by_cases d4:i<kvs.length
 ·refine .inr ⟨⟨q,d4⟩,Pv (i+1),λ σ' H' p'=>⟨kvs.length-(i+1),by omega,rfl,d4,p'⟩,λ zs H' y=>?_⟩;obtain⟨e,k,v,hk,ex⟩:=y;subst e ex;exact⟨rfl,hs i k v σ _ hk p⟩
 ·have e:i=kvs.length:=by omega
  subst e;exact .inl ⟨⟨q,Ql _⟩,hd σ H p⟩
def GP(w:World)(es:List DictEntry)(kvs:List (Str×Str)):Prop:=Paired (λ(e:DictEntry)(kv:Str×Str)=>∃ t t',e=⟨hashStr w kv.1,.str kv.1 t,.str kv.2 t'⟩) es kvs
def GD(K:W.Frag)(w:World)(fr:Addr)(kvs:List (Str×Str)):Prop:=
 (∃(es:List DictEntry)(n:Nat),K.lookup fr=some ⟨.type "dict",none,.dict es.toArray n,#[]⟩/\GP w es kvs)/\(kvs.map (·.1)).Nodup
theorem qcw{P:Program}{w:World}:∀{es:List DictEntry}{kvs:List (Str×Str)},GP w es kvs->∃ vs:List (Key×Value),Pairs (qk P w) es vs/\(∀ e∈es,∃ k,(qk P w).is k e.key=true/\e.hash=(qk P w).hash k) /\
  vs.map (·.1)=kvs.map (λ kv=>(Sum.inr kv.1:Key))/\∀ k v,kvs.lookup k=some v->∃ t,valueAt vs (Sum.inr k)=some (.str v t)
 |_,_,.nil=>⟨[],.nil,by simp,rfl,by simp⟩
 |_,kv::kvs,.cons ⟨t,t',h⟩ r=>by
  obtain⟨vs,p,q,m,l⟩:=qcw (P:=P) r;subst h;refine⟨(Sum.inr kv.1,.str kv.2 t')::vs,.cons (qV P w kv.1 t) rfl p,λ e he=>?_,by rw[Jv,Jv,m],λ k v hv=>?_⟩
  ·rcases Js.mp he with e1 | e1
   ·subst e1;exact⟨Sum.inr kv.1,qV P w kv.1 t,rfl⟩
   ·exact q e e1
  ·rw[Z2] at hv;unfold valueAt;rw[Um];by_cases e1:k=kv.1
   ·subst e1;rw[beq_self_eq_true] at hv;cases hv
    exact⟨t',by simp⟩
   ·rw[beq_false_of_ne e1] at hv;rw[show decide ((Sum.inr kv.1:Key)=Sum.inr k)=false from Uz (λ e2=>e1 (Sum.inr.inj e2).symm)];exact l k v hv
theorem qgr{P:Program}{w:World}{K:W.Frag}{fr:Addr}{kvs:List (Str×Str)}{h:Heap}(g:GD K w fr kvs)(L9:∀ a o,K.lookup a=some o->h.get? a=some o):
  ∃ vs:List (Key×Value),h.DictOf (qk P w) fr vs/\∀ k v,kvs.lookup k=some v->∃ t,valueAt vs (Sum.inr k)=some (.str v t):=by
 obtain⟨⟨es,n,lk,gp⟩,nd⟩:=g;obtain⟨vs,p,q,m,l⟩:=qcw (P:=P) gp;refine⟨vs,⟨_,es.toArray,n,L9 _ _ lk,⟨rfl,rfl,rfl⟩,rfl,λ e he=>q e (by simpa using he),by simpa using p,?_⟩,l⟩;rw[m];exact Zk.mpr ((Zk.mp nd).imp λ{a b} o7 e=>o7 (Sum.inr.inj e))
def qil(kvs:List (Str×Str))(ty:TE):TE:=λ σ H Q=>ty σ H λ y H1=>∃ k v,y=.str k/\kvs.lookup k=some v/\Q (.str v) H1
theorem qgs{X:Cx}{x:Str}{fr:Addr}{kvs:List (Str×Str)}{i:Expr}{p pos:Pos}{ty:TE}(hg:Gl X x)(hm:X.mg x=some (.ref fr))(g:GD X.K X.w fr kvs)(hi:PE X i ty)(hs:qhc i)(hd:(x == ("__debug__":Str))=false:=by decide):
  PE X (.Subscript (.Name x p) i pos) (qil kvs ty):=by
 intro pins s σ H Q I h;refine qdv PySem.F.slot_dict_getitem.lookup hs (qdn I hg hm (thn (hi pins s σ H _ I h) λ iv s2 ⟨y,H2,I2,ry,k,v,ey,hl,q2⟩=>?_) hd);subst ey;obtain⟨vs,dd,l⟩:=qgr (P:=X.prog) g I2.kIn;obtain⟨t,hv⟩:=l k v hl;exact⟨dd.typeIs,wpAny_getItem_of (kE (k:=Sum.inr k) ry) dd.mapOf hv ⟨.str v,H2,I2.tok _,⟨t,rfl⟩,q2⟩⟩
end L2
namespace PySem
open Sem (wp)
structure ZApart(z TI TO i1 i2:Addr)(fp1 fp2:List Addr):Prop where
 TIz:TI≠z
 TOz:TO≠z
 i1z:i1≠z
 i2z:i2≠z
 TITO:TI≠TO
 TIi1:TI≠i1
 TIi2:TI≠i2
 TOi1:TO≠i1
 TOi2:TO≠i2
 i12:i1≠i2
 z1:z∉fp1
 TO1:TO∉fp1
 o1:i2∉fp1
 z2:z∉fp2
 TO2:TO∉fp2
 o2:i1∉fp2
section
variable {prog:Program}{w:World}{A:Around}{E:Value->Shared->Prop}{s:Shared}
theorem Draws.past{it c:Addr}{fp:List Addr}{n:Nat}{P:Nat->Value->Prop}{St:Nat->Heap->Prop}(D:Draws prog w A it fp n P St){i:Nat}{h h':Heap}(st:St i h)(hs:Heap.ExtBut c h h')(nc:c∉fp):St i h':=
 D.frame i h h' st λ b hb o e=>hs b o (λ z=>nc (z ▸ hb)) e
theorem jH{z TI TO i1 i2:Addr}{fp1 fp2:List Addr}{n1 n2 k1 k2:Nat}{P1 P2:Nat->Value->Prop}{S1 S2:Nat->Heap->Prop}{a b:Value}{Q:Value->Shared->Prop}(D1:Draws prog w A i1 fp1 n1 P1 S1)(D2:Draws prog w A i2 fp2 n2 P2 S2)(D:ZApart z TI TO i1 i2 fp1 fp2)(hz:IsZip s.heap z TI TO .none)(p9:IsPair s.heap TI (.ref i1) (.ref i2))(i6:IsPair s.heap TO a b)(h1:S1 k1 s.heap)(h2:S2 k2 s.heap)(hx:k1<n1)(hy:k2<n2)(hQ:∀ x y h' tk,P1 k1 x->P2 k2 y->IsZip h' z TI TO (rawInt s.heap.objs.size)->IsPair h' TO x y->S1 (k1+1) h'->S2 (k2+1) h'->IsPair h' s.heap.objs.size x y->h'.objs.size=s.heap.objs.size+1 ->
   (∀ c o,c≠z->c≠TO->c≠i1->c≠i2->s.heap.get? c=some o->h'.get? c=some o)->Q (.ref s.heap.objs.size) { s with heap:=h',toks:=tk }):
  wpAny (model prog w) A (Builtin.«zip.__next__» ⟨[.ref z],[]⟩) (λ fin s'=>∃ v,fin=.done (.ret v)/\Q v s') E s:=by
 show wpAny _ _ (field (.ref z) 2 >>= _) _ _ _
 refine Qs (Qp hz rfl (x:=.bool false) rfl ?_);show wpAny _ _ (field (.ref z) 3 >>= _) _ _ _
 refine Qs (Qp hz rfl (x:=.ref TI) rfl ?_);refine Qs (Jo p9 rfl ?_);show wpAny _ _ (Builtin.SmallTypes.ownedTupleIsFree (.ref z) >>= _) _ _ _
 refine Qs ?_;unfold Builtin.SmallTypes.ownedTupleIsFree;refine Qs (Qp hz rfl (x:=.none) rfl (Qr ?_));simp only[Q4];refine Qs (Qv ?_);refine Qs (Qp hz rfl (x:=.ref TO) rfl ?_);refine Qs (Zd hz (by simp) λ h₁ hz₁ hs₁=>?_);replace hz₁:IsZip h₁ z TI TO .ellipsis:=hz₁;refine Qs ?_;simp only[List.zipIdx_cons,List.zipIdx_nil,Us,Ja];refine Qs (Qs (wpAny_onRaise ?_));show wpAny _ _ (Builtin.SmallTypes.nextOf (.ref i1) >>= _) _ _ _
 refine Qs (D1.item k1 _ _ _ hx (D1.past h1 hs₁.extBut D.z1) λ x h₂ tk wP h1₂ hs₂=>Qr ?_);replace hs₂:Heap.SameBut i1 h₁ h₂:=hs₂;have i6₂:IsPair h₂ TO a b:=hs₂.extBut _ _ D.TOi1 (hs₁.extBut _ _ D.TOz i6);refine Qs (Jo i6₂ rfl ?_);refine Qs (wpAny_updateSeq_pair i6₂ λ h₃ i6₃ hs₃=>?_);replace i6₃:IsPair h₃ TO x b:=i6₃;replace hs₃:Heap.SameBut TO h₂ h₃:=hs₃;refine Qs (wpAny_letGo (Qr ?_));refine Qs (Qs (wpAny_onRaise ?_));show wpAny _ _ (Builtin.SmallTypes.nextOf (.ref i2) >>= _) _ _ _
 refine Qs (D2.item k2 _ _ _ hy (D2.past (D2.past (D2.past h2 hs₁.extBut D.z2) hs₂.extBut D.o2) hs₃.extBut D.TO2) λ y h₄ G2 wO h2₄ hs₄=>Qr ?_);replace hs₄:Heap.SameBut i2 h₃ h₄:=hs₄;have i6₄:IsPair h₄ TO x b:=hs₄.extBut _ _ D.TOi2 i6₃;refine Qs (Jo i6₄ rfl ?_);refine Qs (wpAny_updateSeq_pair i6₄ λ h₅ i6₅ hs₅=>?_);replace i6₅:IsPair h₅ TO x y:=i6₅;replace hs₅:Heap.SameBut TO h₄ h₅:=hs₅;refine Qs (wpAny_letGo (Qr (Qr ?_)));refine Qs (Jo i6₅ rfl ?_);refine Qs (Jp ?_);have hsz:h₅.objs.size=s.heap.objs.size:=by rw[hs₅.1,hs₄.1,hs₃.1,hs₂.1,hs₁.1]
 have hz₅:IsZip h₅ z TI TO .ellipsis:=hs₅.extBut _ _ D.TOz.symm (hs₄.extBut _ _ D.i2z.symm (hs₃.extBut _ _ D.TOz.symm (hs₂.extBut _ _ D.i1z.symm hz₁)));have hk₅:∀ c o,c≠z->c≠TO->c≠i1->c≠i2->s.heap.get? c=some o->h₅.get? c=some o:=λ c o c1 c2 c3 c4 e =>
  hs₅.extBut _ _ c2 (hs₄.extBut _ _ c4 (hs₃.extBut _ _ c2 (hs₂.extBut _ _ c3 (hs₁.extBut _ _ c1 e))))
 have h1₅:S1 (k1+1) h₅:=D1.past (D1.past (D1.past h1₂ hs₃.extBut D.TO1) hs₄.extBut D.o1) hs₅.extBut D.TO1;have h2₅:S2 (k2+1) h₅:=D2.past h2₄ hs₅.extBut D.TO2;have eL:z<h₅.objs.size:=J5 hz₅;show wpAny _ _ (Builtin.SmallTypes.ownedTupleHandOut (.ref z) (.ref h₅.objs.size) >>= _) _ _ _
 refine Qs ?_;unfold Builtin.SmallTypes.ownedTupleHandOut;have hz₆:IsZip (h₅.push { cls:=.type "tuple",data:=.seq #[x,y] }) z TI TO .ellipsis:=X9 _ hz₅;refine Qs (Zd hz₆ (by simp) λ h₇ hz₇ hs₇=>?_);replace hz₇:IsZip h₇ z TI TO (rawInt h₅.objs.size):=hz₇;refine Zd hz₇ (by simp) λ h₈ hz₈ hs₈=>?_
 replace hz₈:IsZip h₈ z TI TO (rawInt h₅.objs.size):=hz₈;have up:∀ c o,c≠z->h₅.get? c=some o->h₈.get? c=some o:=λ c o c1 e=>hs₈.extBut _ _ c1 (hs₇.extBut _ _ c1 (X9 _ e))
 have hT₈:IsPair h₈ h₅.objs.size x y:=hs₈.extBut _ _ (J9 eL) (hs₇.extBut _ _ (J9 eL) (Yn _ rfl));have lM:h₈.objs.size=h₅.objs.size+1:=by rw[hs₈.1,hs₇.1,Jb]
 rw[hsz] at hz₈ hT₈ lM;refine Qr ⟨_,rfl,?_⟩;show Q (.ref h₅.objs.size) _
 rw[hsz];exact hQ x y h₈ G2 wP wO hz₈ (up _ _ D.TOz i6₅) (D1.frame _ _ _ h1₅ λ c hc o e=>up c o (λ q=>D.z1 (q ▸ hc)) e) (D2.frame _ _ _ h2₅ λ c hc o e=>up c o (λ q=>D.z2 (q ▸ hc)) e) hT₈ lM λ c o c1 c2 c3 c4 e=>up c o c1 (hk₅ c o c1 c2 c3 c4 e)
end
end PySem
namespace L2
open PySem PySem.Spec PyProof.Rows
structure ZD(S1 S2:Nat->Heap->Prop)(h:Heap)(z TI TO i1 i2 S:Addr)(i:Nat):Prop where
 zip:∃ f0 fl,h.get? z=some { cls:=.type "zip",dict:=none,data:=.fields #[f0,.bool fl,.bool false,.ref TI,.ref TO],slots:=#[] }/\((f0=.none/\fl=false)∨∃(a:Addr)(oa:Obj),f0=rawInt a/\h.get? a=some oa/\a∉[z,TO,i1,i2,S])
 ti:IsPair h TI (.ref i1) (.ref i2)
 to:∃ a b,IsPair h TO a b
 it1:S1 i h
 it2:S2 i h
section
variable {prog:Program}{w:World}{A:Around}{E:Value->Shared->Prop}{s:Shared}{z TI TO i1 i2 S:Addr}{i n1 n2:Nat}{fp1 fp2:List Addr}{P1 P2:Nat->Value->Prop}{S1 S2:Nat->Heap->Prop}
theorem ZD.keep{h h':Heap}(D1:Draws prog w A i1 fp1 n1 P1 S1)(D2:Draws prog w A i2 fp2 n2 P2 S2)(st:ZD S1 S2 h z TI TO i1 i2 S i)(hk:∀ b o,b≠S->h.get? b=some o->h'.get? b=some o)(hn:S∉[z,TI,TO])(h1:S∉fp1)(h2:S∉fp2):ZD S1 S2 h' z TI TO i1 i2 S i:=by
 have ne:∀ c,c∈[z,TI,TO]->c≠S:=λ c hc e=>hn (e ▸ hc)
 obtain⟨⟨f0,fl,hz,hf⟩,ti,⟨a,b,to⟩,s1,s2⟩:=st;refine⟨⟨f0,fl,hk _ _ (ne z (by simp)) hz,?_⟩,hk _ _ (ne TI (by simp)) ti,⟨a,b,hk _ _ (ne TO (by simp)) to⟩,D1.frame _ _ _ s1 λ c hc o e=>hk c o (λ q=>h1 (q ▸ hc)) e,D2.frame _ _ _ s2 λ c hc o e=>hk c o (λ q=>h2 (q ▸ hc)) e⟩;rcases hf with hf|⟨a,oa,e,ha,aI⟩
 ·exact .inl hf
 ·exact .inr ⟨a,oa,e,hk _ _ (λ q=>aI (by rw[q];simp)) ha,aI⟩
theorem qhB{a:Addr}{oa:Obj}{fl:Bool}{Q:Option Value->Shared->Prop}(hh:A.handled=none)(D1:∀ A':Around,A'.handled=none->Draws prog w A' i1 fp1 n1 P1 S1)(D2:∀ A':Around,A'.handled=none->Draws prog w A' i2 fp2 n2 P2 S2)(D:ZApart z TI TO i1 i2 fp1 fp2)(hz:s.heap.get? z=some { cls:=.type "zip",dict:=none,data:=.fields #[rawInt a,.bool fl,.bool false,.ref TI,.ref TO],slots:=#[] })(ha:s.heap.get? a=some oa)(bR:a∉[z,TO,i1,i2,S])(p9:IsPair s.heap TI (.ref i1) (.ref i2))(i6:∃ a b,IsPair s.heap TO a b)(h1:S1 i s.heap)(h2:S2 i s.heap)(hx:i<n1)(hy:i<n2)(hQ:∀ x y h' tk,P1 i x->P2 i y->ZD S1 S2 h' z TI TO i1 i2 S (i+1)->IsPair h' s.heap.objs.size x y->h'.objs.size=s.heap.objs.size+1->(∀ c o,c∉[z,TO,i1,i2]->s.heap.get? c=some o->h'.get? c=some o)->Q (some (.ref s.heap.objs.size)) { s with heap:=h',toks:=tk }):
  wpAny (model prog w) A (pyNext (.ref z)) Q E s:=by
 have hT:s.TypeIs (.ref z) "zip":=⟨_,hz,rfl⟩;have haz:a≠z:=λ q=>bR (by rw[q];simp)
 have ha1:a≠i1:=λ q=>bR (by rw[q];simp)
 have ha2:a≠i2:=λ q=>bR (by rw[q];simp)
 obtain⟨c1,c2,i6⟩:=i6;unfold pyNext;refine Qs (J0 (X7 (name:=Str.ofString "__next__") hT XU (Ue XU hT XF ?_ (X5 _))));show wpAny _ _ (field (.ref z) 2 >>= _) _ _ _
 refine Qs (Qp hz rfl (x:=.bool false) rfl ?_);show wpAny _ _ (field (.ref z) 3 >>= _) _ _ _
 refine Qs (Qp hz rfl (x:=.ref TI) rfl ?_);refine Qs (Jo p9 rfl ?_);show wpAny _ _ (Builtin.SmallTypes.ownedTupleIsFree (.ref z) >>= _) _ _ _
 refine Qs (thn (Q:=λ b s1=>b=false/\∃ h₁:Heap,s1={ s with heap:=h₁ }/\h₁.get? z=some { cls:=.type "zip",dict:=none,data:=.fields #[rawInt a,.bool true,.bool false,.ref TI,.ref TO],slots:=#[] }/\Heap.SameBut z s.heap h₁) ?_ ?_)
 ·unfold Builtin.SmallTypes.ownedTupleIsFree;refine Qs (Qp hz rfl (x:=rawInt a) rfl ?_);show wpAny _ _ (loadIfAlive ((a:Int).toNat) >>= _) _ _ _
  rw[Zf];refine Qs (qdA ha ?_);simp only[Option.isNone_some,Y7,Qy];refine Qs (Qp hz rfl (x:=.bool fl) rfl ?_);cases fl with
  |true =>
   rw[Q8 (show ¬ ((Value.bool true != Value.bool true)=true) from Y2)];exact Qr ⟨rfl,s.heap,rfl,hz,Heap.SameBut.refl _ _⟩
  |false =>
   rw[Q7 (show(Value.bool false != Value.bool true)=true from rfl)];refine Qs (Zd hz (by simp) λ h₃ he₃ hs₃=>?_);exact Qr ⟨rfl,h₃,rfl,he₃,hs₃⟩
 rintro b s1 ⟨rfl,h₁,rfl,hz₁,hs₁⟩;simp only[Y7,Qy];simp only[List.forIn_toArray,Us,Ja];refine Qs (Qs (Qs (Jy ?_)));show wpAny _ _ (Builtin.SmallTypes.nextOf (.ref i1) >>= _) _ _ _
 have E1:=D1 _ hh;have E2:=D2 _ hh;refine Qs ((D1 _ (by simpa using hh)).item i _ _ _ hx (E1.past h1 hs₁.extBut D.z1) λ x h₂ tk wP h1₂ hs₂=>Qr (Qr ?_));replace hs₂:Heap.SameBut i1 h₁ h₂:=hs₂;refine Qs (Qs (Jy ?_));show wpAny _ _ (Builtin.SmallTypes.nextOf (.ref i2) >>= _) _ _ _
 refine Qs ((D2 _ (by simpa using hh)).item i _ _ _ hy (E2.past (E2.past h2 hs₁.extBut D.z2) hs₂.extBut D.o2) λ y h₃ G2 wO h2₃ hs₃=>Qr (Qr (Qr ?_)));replace hs₃:Heap.SameBut i2 h₂ h₃:=hs₃;refine Qs (Jp (hsz:=by show 2<=_;decide) ?_);have sz:h₃.objs.size=s.heap.objs.size:=by rw[hs₃.1,hs₂.1,hs₁.1]
 have up:∀ c o,c≠z->c≠i1->c≠i2->s.heap.get? c=some o->(h₃.push { cls:=.type "tuple",data:=.seq #[x,y] }).get? c=some o:=λ c o e1 e2 e3 q=>X9 _ (hs₃.extBut _ _ e3 (hs₂.extBut _ _ e2 (hs₁.extBut _ _ e1 q)))
 refine Qr ⟨_,rfl,?_⟩;refine Qr ?_;show Q (some (.ref h₃.objs.size)) _
 rw[sz];have ht:IsPair (h₃.push { cls:=.type "tuple",data:=.seq #[x,y] }) s.heap.objs.size x y:=by rw[<- sz];exact Yn _ rfl
 refine hQ x y _ G2 wP wO ⟨⟨rawInt a,true,X9 _ (hs₃.extBut _ _ D.i2z.symm (hs₂.extBut _ _ D.i1z.symm hz₁)),.inr ⟨a,oa,rfl,up a oa haz ha1 ha2 ha,bR⟩⟩,up _ _ D.TIz D.TIi1 D.TIi2 p9,⟨c1,c2,up _ _ D.TOz D.TOi1 D.TOi2 i6⟩,?_,?_⟩ ht (by rw[Jb,sz]) λ c o hc e=>up c o (λ q=>hc (by simp[q])) (λ q=>hc (by simp[q])) (λ q=>hc (by simp[q])) e
 ·exact E1.frame _ _ _ (E1.past h1₂ hs₃.extBut D.o1) λ c hc o e=>X9 _ e
 ·exact E2.frame _ _ _ h2₃ λ c hc o e=>X9 _ e
theorem qgt{Q:Option Value->Shared->Prop}(hh:A.handled=none)(D1:∀ A':Around,A'.handled=none->Draws prog w A' i1 fp1 n1 P1 S1)(D2:∀ A':Around,A'.handled=none->Draws prog w A' i2 fp2 n2 P2 S2)(D:ZApart z TI TO i1 i2 fp1 fp2)(st:ZD S1 S2 s.heap z TI TO i1 i2 S i)(hS:S<s.heap.objs.size)(hx:i<n1)(hy:i<n2)(hQ:∀ x y h' tk,P1 i x->P2 i y->ZD S1 S2 h' z TI TO i1 i2 S (i+1)->IsPair h' s.heap.objs.size x y->h'.objs.size=s.heap.objs.size+1->(∀ c o,c∉[z,TO,i1,i2]->s.heap.get? c=some o->h'.get? c=some o)->Q (some (.ref s.heap.objs.size)) { s with heap:=h',toks:=tk }):
  wpAny (model prog w) A (pyNext (.ref z)) Q E s:=by
 obtain⟨⟨f0,fl,hz,hf⟩,ti,to,h1,h2⟩:=st;rcases hf with⟨rfl,rfl⟩|⟨a,oa,rfl,ha,bR⟩
 ·obtain⟨c1,c2,to⟩:=to;have hT:s.TypeIs (.ref z) "zip":=⟨_,hz,rfl⟩;unfold pyNext;refine Qs (J0 (X7 (name:=Str.ofString "__next__") hT XU
   (Ue XU hT XF
    (jH (D1 _ (by simpa using hh)) (D2 _ (by simpa using hh)) D hz ti to h1 h2 hx hy λ x y h' tk px py a1 a2 a3 a4 a5 a6 a7=>Qr ?_) (X5 _))))
  have l1':z<s.heap.objs.size:=J5 hz;have l2':TO<s.heap.objs.size:=J5 to;have l3':i1<s.heap.objs.size:=by obtain⟨_,e⟩:=(D1 _ hh).live _ _ h1;exact J5 e
  have l4':i2<s.heap.objs.size:=by obtain⟨_,e⟩:=(D2 _ hh).live _ _ h2;exact J5 e
  refine hQ x y h' tk px py ⟨⟨_,false,a1,.inr ⟨_,_,rfl,a5,?_⟩⟩,a7 _ _ D.TIz D.TITO D.TIi1 D.TIi2 ti,⟨_,_,a2⟩,a3,a4⟩ a5 a6 λ c o hc e=>a7 c o (λ q=>hc (by simp[q])) (λ q=>hc (by simp[q])) (λ q=>hc (by simp[q])) (λ q=>hc (by simp[q])) e
  intro hm;have hm:s.heap.objs.size=z∨s.heap.objs.size=TO∨s.heap.objs.size=i1∨s.heap.objs.size=i2∨s.heap.objs.size=S:=by simpa using hm
  rcases hm with e|e|e|e|e
  ·exact Jr _ (e ▸ l1')
  ·exact Jr _ (e ▸ l2')
  ·exact Jr _ (e ▸ l3')
  ·exact Jr _ (e ▸ l4')
  ·exact Jr _ (e ▸ hS)
 ·exact qhB hh D1 D2 D hz ha bR ti to h1 h2 hx hy hQ
end
section
variable {prog:Program}{w:World}{A:Around}{E:Value->Shared->Prop}{s:Shared}{z TI TO i1 i2 S:Addr}{n1 n2:Nat}{fp1 fp2:List Addr}{P1 P2:Nat->Value->Prop}{S1 S2:Nat->Heap->Prop}
theorem jY{a b:Value}{Q:Fin->Shared->Prop}(D1:Draws prog w A i1 fp1 n1 P1 S1)(D:ZApart z TI TO i1 i2 fp1 fp2)(hz:IsZip s.heap z TI TO .none)(p9:IsPair s.heap TI (.ref i1) (.ref i2))(i6:IsPair s.heap TO a b)(h1:S1 n1 s.heap)(hE:∀ h' e,(∀ c o,c≠z->c≠TO->c≠i1->c≠i2->s.heap.get? c=some o->h'.get? c=some o)->(∃ o,h'.get? e=some o/\o.cls=.type "StopIteration")->E (.ref e) { s with heap:=h' }):
  wpAny (model prog w) A (Builtin.«zip.__next__» ⟨[.ref z],[]⟩) Q E s:=by
 show wpAny _ _ (field (.ref z) 2 >>= _) _ _ _
 refine Qs (Qp hz rfl (x:=.bool false) rfl ?_);show wpAny _ _ (field (.ref z) 3 >>= _) _ _ _
 refine Qs (Qp hz rfl (x:=.ref TI) rfl ?_);refine Qs (Jo p9 rfl ?_);show wpAny _ _ (Builtin.SmallTypes.ownedTupleIsFree (.ref z) >>= _) _ _ _
 refine Qs ?_;unfold Builtin.SmallTypes.ownedTupleIsFree;refine Qs (Qp hz rfl (x:=.none) rfl (Qr ?_));simp only[Q4];refine Qs (Qv ?_);refine Qs (Qp hz rfl (x:=.ref TO) rfl ?_);refine Qs (Zd hz (by simp) λ h₁ hz₁ hs₁=>?_);replace hz₁:IsZip h₁ z TI TO .ellipsis:=hz₁;refine Qs ?_;simp only[List.zipIdx_cons,List.zipIdx_nil,Us,Ja];refine Qs (Qs (wpAny_onRaise ?_));show wpAny _ _ (Builtin.SmallTypes.nextOf (.ref i1) >>= _) _ _ _
 refine Qs (D1.done _ _ _ (D1.past h1 hs₁.extBut D.z1) λ h₂ e hs₂ he=>?_);obtain⟨oe,fI,cU⟩:=he;have hz₂:IsZip h₂ z TI TO .ellipsis:=hs₂ _ _ D.i1z.symm hz₁;have hez:e≠z:=λ x=>by subst x;rw[hz₂] at fI;cases fI;simp at cU
 refine Zd hz₂ (by simp) λ h₃ _ hs₃=>hE h₃ e (λ c o c1 _ c3 _ x=>hs₃.extBut _ _ c1 (hs₂ _ _ c3 (hs₁.extBut _ _ c1 x))) ⟨oe,hs₃.extBut _ _ hez fI,cU⟩
theorem qgu{Q:Option Value->Shared->Prop}(hh:A.handled=none)(D1:∀ A':Around,A'.handled=none->Draws prog w A' i1 fp1 n1 P1 S1)(D:ZApart z TI TO i1 i2 fp1 fp2)(st:ZD S1 S2 s.heap z TI TO i1 i2 S n1)(hQ:∀ h',(∀ c o,c∉[z,TO,i1,i2]->s.heap.get? c=some o->h'.get? c=some o)->Q none { s with heap:=h' }):wpAny (model prog w) A (pyNext (.ref z)) Q E s:=by
 obtain⟨⟨f0,fl,hz,hf⟩,ti,⟨c1,c2,to⟩,h1,h2⟩:=st;have hT:s.TypeIs (.ref z) "zip":=⟨_,hz,rfl⟩;rcases hf with⟨rfl,rfl⟩ | ⟨a,oa,rfl,ha,bR⟩
 ·unfold pyNext;refine Qs (J0 (X7 (name:=Str.ofString "__next__") hT XU
   (Ue XU hT XF (jY (fp2:=fp2) (D1 _ (by simpa using hh)) D hz ti to h1 λ h' e hk he=>?_) (X5 _))))
  obtain⟨o,ho,hc⟩:=he;refine Qs (Ud (T:="StopIteration") (b:=true) ⟨o,ho,hc⟩ Jn ?_);exact Qr (hQ _ λ c o hc e=>hk c o (λ q=>hc (by simp[q])) (λ q=>hc (by simp[q])) (λ q=>hc (by simp[q])) (λ q=>hc (by simp[q])) e)
 unfold pyNext;refine Qs (J0 (X7 (name:=Str.ofString "__next__") hT XU (Ue XU hT XF ?_ (X5 _))));show wpAny _ _ (field (.ref z) 2 >>= _) _ _ _
 refine Qs (Qp hz rfl (x:=.bool false) rfl ?_);show wpAny _ _ (field (.ref z) 3 >>= _) _ _ _
 refine Qs (Qp hz rfl (x:=.ref TI) rfl ?_);refine Qs (Jo ti rfl ?_);show wpAny _ _ (Builtin.SmallTypes.ownedTupleIsFree (.ref z) >>= _) _ _ _
 refine Qs (thn (Q:=λ b s1=>b=false/\∃ h₁:Heap,s1={ s with heap:=h₁ }/\Heap.SameBut z s.heap h₁) ?_ ?_)
 ·unfold Builtin.SmallTypes.ownedTupleIsFree;refine Qs (Qp hz rfl (x:=rawInt a) rfl ?_);show wpAny _ _ (loadIfAlive ((a:Int).toNat) >>= _) _ _ _
  rw[Zf];refine Qs (qdA ha ?_);simp only[Option.isNone_some,Y7,Qy];refine Qs (Qp hz rfl (x:=.bool fl) rfl ?_);cases fl with
  |true =>
   rw[Q8 (show ¬ ((Value.bool true != Value.bool true)=true) from Y2)];exact Qr ⟨rfl,s.heap,rfl,Heap.SameBut.refl _ _⟩
  |false =>
   rw[Q7 (show(Value.bool false != Value.bool true)=true from rfl)];refine Qs (Zd hz (by simp) λ h₃ he₃ hs₃=>?_);exact Qr ⟨rfl,h₃,rfl,hs₃⟩
 rintro b s1 ⟨rfl,h₁,rfl,hs₁⟩;simp only[Y7,Qy];simp only[List.forIn_toArray,Us,Ja];refine Qs (Qs (Qs (Jy ?_)));show wpAny _ _ (Builtin.SmallTypes.nextOf (.ref i1) >>= _) _ _ _
 have E1:=D1 _ hh;refine Qs ((D1 _ (by simpa using hh)).done _ _ _ (E1.past h1 hs₁.extBut D.z1) λ h₂ e hs₂ he=>?_);obtain⟨oe,fI,cU⟩:=he;refine Qs (Ud (T:="StopIteration") (b:=true) ⟨oe,fI,cU⟩ Jn ?_);exact Qr (hQ _ λ c o hc q=>hs₂ c o (λ x=>hc (by simp[x])) (hs₁.extBut c o (λ x=>hc (by simp[x])) q))
end
end L2
namespace PySem
open Sem (wp)
abbrev qgv(h:Heap)(x:Str)(t:Tok):Heap:=h.push { cls:=.type "str_ascii_iterator",data:=.fields #[.str x t,.int 0 0] }
abbrev qgw(h:Heap)(x:Str)(t:Tok)(l2:Addr):Heap:=(qgv h x t).push { cls:=.type "list_iterator",data:=.fields #[.ref l2,.int 0 0] }
abbrev qgx(h:Heap)(x:Str)(t:Tok)(l2:Addr):Heap:=(qgw h x t l2).push { cls:=.type "tuple",data:=.seq #[.ref h.objs.size,.ref (qgv h x t).objs.size] }
abbrev qgy(h:Heap)(x:Str)(t:Tok)(l2:Addr):Heap:=(qgx h x t l2).push { cls:=.type "tuple",data:=.seq #[.none,.none] }
abbrev qc0(h:Heap)(x:Str)(t:Tok)(l2:Addr):Heap:=(qgy h x t l2).push { cls:=.type "zip",data:=.fields #[.none,.bool false,.bool false,.ref (qgw h x t l2).objs.size,.ref (qgx h x t l2).objs.size] }
theorem qau(x:Str)(t:Tok)(ha:x.cps.all (·<128)=true)(l2:Addr)(ys:Array Value):
  Meets (Builtin.«zip.__new__» ⟨[.type "zip",.str x t,.ref l2],[]⟩) (λ _ R s=>s.heap.IsList l2 ys /\
   R (.ok (.ret (.ref (qgy s.heap x t l2).objs.size))) { s with heap:=qc0 s.heap x t l2 }):=
 .of_wp λ prog w A R s h=>by
  obtain⟨hp,g,d,tk,os⟩:=s;obtain⟨F0,h⟩:=h;have D9:=sub_zip;have gE:Heap.IsList (Shared.heap ⟨hp.push { cls:=.type "str_ascii_iterator",data:=.fields #[.str x t,.int 0 0] },g,d,tk,os⟩) l2 ys:=Heap.IsList.push F0 _
  wp_walk using wpAny_pyIter_ascii ha,Zt gE
  exact⟨_,rfl,h⟩
section
variable {prog:Program}{w:World}{A:Around}{E:Value->Shared->Prop}{s:Shared}
theorem qav{x:Str}{t:Tok}{l2:Addr}{ys:Array Value}{Q:Value->Shared->Prop}(ha:x.cps.all (·<128)=true)(F0:s.heap.IsList l2 ys)(h:∀ h',IsZip h' (s.heap.objs.size+4) (s.heap.objs.size+2) (s.heap.objs.size+3) .none->IsPair h' (s.heap.objs.size+2) (.ref s.heap.objs.size) (.ref (s.heap.objs.size+1)) ->
   IsPair h' (s.heap.objs.size+3) .none .none->h'.IsStrIter s.heap.objs.size "str_ascii_iterator" x t 0->h'.IsListIter (s.heap.objs.size+1) l2 0->h'.objs.size=s.heap.objs.size+5 ->
   (∀ c o,s.heap.get? c=some o->h'.get? c=some o)->Q (.ref (s.heap.objs.size+4)) { s with heap:=h' }):
  wpAny (model prog w) A (call (.type "zip") [.str x t,.ref l2]) Q E s:=by
 refine callType_new F.called_zip (by decide) (F.typeCall_zip_2 _ _) (F.newCall_zip_2 _ _) (λ obj=>F.args_object_init_3 obj _ _) F.entry_zip_new
  (qau x t ha l2 ys) ⟨F0,?_⟩
 have z1:(qgv s.heap x t).objs.size=s.heap.objs.size+1:=Jb ..;have z2:(qgw s.heap x t l2).objs.size=s.heap.objs.size+2:=by rw[Jb,z1]
 have z3:(qgx s.heap x t l2).objs.size=s.heap.objs.size+3:=by rw[Jb,z2]
 have z4:(qgy s.heap x t l2).objs.size=s.heap.objs.size+4:=by rw[Jb,z3]
 have z5:(qc0 s.heap x t l2).objs.size=s.heap.objs.size+5:=by rw[Jb,z4]
 have g5:(qc0 s.heap x t l2).get? (qgy s.heap x t l2).objs.size=some _:=Yn _ rfl;have g4:(qc0 s.heap x t l2).get? (qgx s.heap x t l2).objs.size=some _:=X9 _ (Yn _ rfl);have g3:(qc0 s.heap x t l2).get? (qgw s.heap x t l2).objs.size=some _:=X9 _ (X9 _ (Yn _ rfl));have g2:(qc0 s.heap x t l2).get? (qgv s.heap x t).objs.size=some _:=X9 _ (X9 _ (X9 _ (Yn _ rfl)));have g1:(qc0 s.heap x t l2).get? s.heap.objs.size=some _:=X9 _ (X9 _ (X9 _ (X9 _ (Yn _ rfl))));show _/\_
 rw[z2,z3,z4] at g5;rw[z1,z2] at g3;rw[z3] at g4;rw[z1] at g2;rw[z4];exact⟨⟨_,g5,rfl⟩,h _ g5 g3 g4 ⟨_,g1,rfl,rfl⟩ ⟨_,g2,rfl,rfl⟩ z5 λ c o x =>
  X9 _ (X9 _ (X9 _ (X9 _ (X9 _ x))))⟩
theorem qaw{n l2:Nat}(h2:l2<n):ZApart (n+4) (n+2) (n+3) (n+0) (n+1) [n+0] [n+1,l2] where
 TIz:=(by show(n+2:Nat)≠n+4;omega)
 TOz:=(by show(n+3:Nat)≠n+4;omega)
 i1z:=(by show(n+0:Nat)≠n+4;omega)
 i2z:=(by show(n+1:Nat)≠n+4;omega)
 TITO:=(by show(n+2:Nat)≠n+3;omega)
 TIi1:=(by show(n+2:Nat)≠n+0;omega)
 TIi2:=(by show(n+2:Nat)≠n+1;omega)
 TOi1:=(by show(n+3:Nat)≠n+0;omega)
 TOi2:=(by show(n+3:Nat)≠n+1;omega)
 i12:=(by show(n+0:Nat)≠n+1;omega)
 z1:=λ h=>by have h:(n+4:Nat)=n+0:=Y9.mp h;omega
 TO1:=λ h=>by have h:(n+3:Nat)=n+0:=Y9.mp h;omega
 o1:=λ h=>by have h:(n+1:Nat)=n+0:=Y9.mp h;omega
 z2:=λ h=>by
  rcases Js.mp h with e|e
  ·have e:(n+4:Nat)=n+1:=e;omega
  ·have e:(n+4:Nat)=l2:=Y9.mp e;omega
 TO2:=λ h=>by
  rcases Js.mp h with e|e
  ·have e:(n+3:Nat)=n+1:=e;omega
  ·have e:(n+3:Nat)=l2:=Y9.mp e;omega
 o2:=λ h=>by
  rcases Js.mp h with e|e
  ·have e:(n+0:Nat)=n+1:=e;omega
  ·have e:(n+0:Nat)=l2:=Y9.mp e;omega
end
end PySem
namespace L2
open PySem PySem.Spec PyProof.Rows
section
variable {prog:Program}{w:World}{A:Around}
abbrev zS1(i1:Addr)(x:Str)(t:Tok)(i:Nat)(h:Heap):Prop:=h.IsStrIter i1 "str_ascii_iterator" x t i
abbrev zS2(i2 l2:Addr)(ys:Array Value)(i:Nat)(h:Heap):Prop:=h.IsListIter i2 l2 i/\h.IsList l2 ys
theorem qc1{z TI TO i1 i2 l2 D:Addr}{x:Str}{t:Tok}{ys:Array Value}{qv:List (Str×V)}{s0:Shared}{R:Result->Shared->Prop}(hh:A.handled=none)(Ap:ZApart z TI TO i1 i2 [i1] [i2,l2])(hli:l2≠i2)(nD:D∉[z,TI,TO,i1,i2,l2])(lX:x.cps.size=qv.length)(cO:ys.size=qv.length)(hsz:qv.length<=sizeLine)(hp:∀(j:Nat) kv,qv[j]?=some kv->∃ c u,x.cps[j]?=some c/\kv.1=⟨#[c]⟩/\ys[j]?=some u/\qF kv.2 u)(hR:∀ s' u6,s'.os=s0.os->s'.gens=s0.gens->s'.drawn=s0.drawn->(∀ b o,b∉[D,z,TO,i1,i2]->s0.heap.get? b=some o->s'.heap.get? b=some o)->s'.heap.DictOf (qk prog w) D u6->KV (qu [] (kvK qv)) u6->R (.ok (.ret .none)) s'):
  ∀(k i:Nat)(s:Shared)(u6:List (Key×Value))(ti:Tok),qv.length-i=k->i<=qv.length->s.os=s0.os->s.gens=s0.gens->s.drawn=s0.drawn->(∀ b o,b∉[D,z,TO,i1,i2]->s0.heap.get? b=some o->s.heap.get? b=some o)->ZD (zS1 i1 x t) (zS2 i2 l2 ys) s.heap z TI TO i1 i2 D i ->
   s.heap.DictOf (qk prog w) D u6->KV (qu [] (kvK (qv.take i))) u6->u6.length<=i->codeAny (model prog w) A (.builtin "dict.update.loop" ⟨[.ref D,.ref z,.int i ti,.none],[]⟩) R s:=by
 have D1:∀ A':Around,A'.handled=none->Draws prog w A' i1 [i1] x.cps.size _ (zS1 i1 x t):=λ A' h=>Jh h i1 x t
 have D2:∀ A':Around,A'.handled=none->Draws prog w A' i2 [i2,l2] ys.size _ (zS2 i2 l2 ys):=λ A' h=>Draws.list h i2 l2 hli ys
 have ne:∀ c,c∈[z,TI,TO,i1,i2,l2]->D≠c:=λ c hc e=>nD (e ▸ hc)
 have dz:D∉[z,TO,i1,i2]:=λ h=>by
  have h:D=z∨D=TO∨D=i1∨D=i2:=by simpa using h
  rcases h with e|e|e|e
  ·exact ne z (by simp) e
  ·exact ne TO (by simp) e
  ·exact ne i1 (by simp) e
  ·exact ne i2 (by simp) e
 intro k;induction k with
 |zero =>
  intro i s u6 ti hk hi e1 e2 e3 N1 t9 hD E7 hcl;have L9:i=qv.length:=by omega
  subst L9;refine U3 F.entry_dict_update_loop ?_;rw[Ye F.plain_dict_update_loop _];unfold Builtin.«dict.update.loop»;refine Qs (qgu (A:=A.in1) (by simpa using hh) D1 Ap (by rw[lX];exact t9) λ h' A2=>?_);show wpAny _ _ (Builtin.Dict.addKeywords D [] >>= _) _ _ _
  refine Qs (Qr (Qr ?_));refine hR _ u6 e1 e2 e3 (λ b o hb e=>A2 b o (λ h=>hb (Ya _ h)) (N1 b o hb e)) ?_ (by rw[Z8] at E7;exact E7);obtain⟨o,es,ep,ho,rest⟩:=hD;exact⟨o,es,ep,A2 D o dz ho,rest⟩
 |succ k ih =>
  intro i s u6 ti hk hi e1 e2 e3 N1 t9 hD E7 hcl;have d4:i<qv.length:=by omega
  have O9:D<s.heap.objs.size:=by obtain⟨o,es,ep,ho,rest⟩:=hD;exact J5 ho
  refine U3 F.entry_dict_update_loop ?_;rw[Ye F.plain_dict_update_loop _];unfold Builtin.«dict.update.loop»;refine Qs (qgt (A:=A.in1) (by simpa using hh) D1 D2 Ap t9 O9 (by omega) (by omega) λ v1 v2 h1 tk wQ mD tW D3 hsz1 A2=>?_);obtain⟨c,u,hc,ek,hu,ru⟩:=hp i qv[i] (Xv d4);obtain⟨c',G2,A0,rfl⟩:=wQ;have ec:c'=c:=by rw[hc] at A0;exact(Option.some.inj A0).symm
  have ev:v2=u:=by rw[hu] at mD;exact(Option.some.inj mD).symm
  subst ec ev;have wV:h1.DictOf (qk prog w) D u6:=by
   obtain⟨o,es,ep,ho,rest⟩:=hD;exact⟨o,es,ep,A2 D o dz ho,rest⟩
  refine Qs (Jy ?_);refine Qs (wpAny_tryCatch ?_);unfold Builtin.Dict.pairItems;refine Qs (Qj (T:="tuple") ⟨_,D3,rfl⟩ ?_);simp only[show(Value.type "tuple" == Value.type "list")=false by decide,show(Value.type "tuple" == Value.type "tuple")=true by decide,Bool.or_true,Ju,Q4];refine Qs (Jo D3 rfl ?_);refine Qr ?_;show wpAny _ _ (holding _ (dictSet D (.str ⟨#[c']⟩ G2) v2)) _ _ _
  rw[<- ek];refine Jy (wpAny_dictSet_pairs (hsz:=by omega) (k:=.inr qv[i].1) (qV prog w _ G2) wV λ h2 N2 i3=>?_);refine Qr ⟨Jz F.plain_dict_update_loop _,?_⟩;refine ih (i+1) { s with heap:=h2,toks:=tk+1 } (stored u6 (.inr qv[i].1) v2) 0 (by omega) d4 e1 e2 e3 (λ b o hb e=>(i3.2 b (λ q=>hb (by simp[q]))).trans (A2 b o (λ h=>hb (Ya _ h)) (N1 b o hb e))) ?_ N2 ?_ ?_
  ·refine tW.keep (D1 _ hh) (D2 _ hh) (λ b o hb e=>(i3.2 b hb).trans e) (λ h=>?_) (λ h=>?_) (λ h=>?_)
   ·have h:D=z∨D=TI∨D=TO:=by simpa using h
    rcases h with e|e|e
    ·exact ne z (by simp) e
    ·exact ne TI (by simp) e
    ·exact ne TO (by simp) e
   ·exact ne i1 (by simp) (Y9.mp h)
   ·have h:D=i2∨D=l2:=by simpa using h
    rcases h with e|e
    ·exact ne i2 (by simp) e
    ·exact ne l2 (by simp) e
  ·have et:qv.take (i+1)=qv.take i++[qv[i]]:=by rw[Jc,Xv d4];rfl
   rw[et];unfold kvK;rw[Ur,Jv,Qa,vN];exact E7.put _ ru
  ·have:=E7.length
   have h2:=(E7.put (.inr qv[i].1) ru).length;rw[<- h2];have h3:=zG (qu [] (kvK (qv.take i))) (.inr qv[i].1) qv[i].2;omega
end
namespace F
theorem lk_zip_keys:typeLookup (.type "zip") "keys"=pure none:=by rw[U4,XZ];kernel_rfl
theorem zip_getattr_none:typeLookup (.type "zip") "__getattr__"=pure none:=by rw[U4,XZ];kernel_rfl
theorem entry_zip_getattribute:entryFor table "zip.__getattribute__"=some Builtin.«object.__getattribute__»:=
 Jl (id':="object.__getattribute__") (by kernel_rfl) (by first | rfl | decide +kernel | (unfold String.splitOn;simp +decide [String.splitOnAux])) (by decide +kernel) (by kernel_rfl)
end F
theorem qax(a:Addr)(fs:Array Value)(sl:Array (Option Value))(name:Str)(u:Tok)(aA0:typeLookup (.type "zip") name=pure none)(fK:(["__module__","__name__","__qualname__","__doc__","__annotations__"]:List Str).contains name=false)(hsz:name.length+100<=sizeLine):
  Meets (Builtin.«object.__getattribute__» ⟨[.ref a,.str name u],[]⟩) (λ A R s=>s.heap.get? a=some { cls:=.type "zip",dict:=none,data:=.fields fs,slots:=sl }/\raisesAttr (.ref a) name A R s):=
 Meets.of_wp λ prog w A R s hs=>by
  obtain⟨hp,g,d,tk,os⟩:=s;obtain⟨hx,hs⟩:=hs;have hT:(⟨hp,g,d,tk,os⟩:Shared).TypeIs (.ref a) "zip":=⟨_,hx,rfl⟩;unfold Builtin.«object.__getattribute__»
  repeat (any_goals (first|assumption|wp_step))
  simp only[fK,Y7,Qy]
  repeat (any_goals (first|assumption|wp_step))
  exact wpAny_raiseAttrError hs.1 hs.2 (attrMsg_fits (by decide +kernel) hsz)
section
variable {prog:Program}{w:World}{A:Around}{E:Value->Shared->Prop}{s:Shared}
theorem qc2{a:Addr}{fs:Array Value}{Q:Option Value->Shared->Prop}(hx:s.heap.get? a=some { cls:=.type "zip",dict:=none,data:=.fields fs,slots:=#[] })(hA:A.handled=none)(h:∀ h' tk,(∀ b o,s.heap.get? b=some o->h'.get? b=some o)->Q none { s with heap:=h',toks:=tk }):wpAny (model prog w) A (getAttr? (.ref a) "keys") Q E s:=by
 obtain⟨hp,g,d,tk,os⟩:=s;have hT:∀ G2,(⟨hp,g,d,G2,os⟩:Shared).TypeIs (.ref a) "zip":=λ _=>⟨_,hx,rfl⟩
 have f1:=sub_AttributeError;have f3:=PySem.F.slot_zip_getattribute.lookup;have f4:=PySem.F.slot_zip_getattribute.bind (.ref a);have f5:=F.zip_getattr_none;have hsz:("keys":Str).length+100<=sizeLine:=by decide
 unfold getAttr? getAttrBy? getAttrBy
 repeat (any_goals (first | assumption | exact hT _ | ((with_reducible show wpAny _ _ (call (Value.builtin "zip.__getattribute__") _ _) _ _ _);refine Qu PySem.F.slot_zip_getattribute (hT _) F.entry_zip_getattribute (PySem.F.args_zip_getattribute_2 _ _) (qax a fs #[] "keys" _ F.lk_zip_keys (by decide +kernel) hsz) ⟨hx,hA,λ h' G2 e i5=>?_⟩) | wp_step))
 obtain⟨t',u',he⟩:=i5.there;show wpAny _ _ (getattributeRaised _ _ _ _ _ _ _) _ _ _
 unfold getattributeRaised
 repeat (any_goals (first|assumption|wp_step))
 exact h _ _ i5.keeps
end
def zo(x:Str)(ys:List V):List (Str×V):=(x.cps.toList.map λ c=>(⟨#[c]⟩:Str)).zip ys
theorem qc3{x:Str}{ys:List V}(h:x.cps.size=ys.length):(zo x ys).length=ys.length:=by
 unfold zo;rw[Uw,Ul,Ym];omega
theorem qei{x:Str}{ys:List V}{j:Nat}{kv:Str×V}(h:(zo x ys)[j]?=some kv):∃ c,x.cps[j]?=some c/\kv.1=⟨#[c]⟩/\ys[j]?=some kv.2:=by
 unfold zo at h;rw[List.getElem?_zip_eq_some] at h;obtain⟨h1,h2⟩:=h;rw[Ze] at h1;obtain⟨c,hc,e⟩:=Option.map_eq_some_iff.mp h1;exact⟨c,by rw[<- XS];exact hc,e.symm,h2⟩
def qfs(K:W.Frag)(ta:TA):TE:=λ σ H Q=>ta σ H λ vs H1=>∃(x:Str)(b:Addr)(ys:List V),vs=[.str x,.ref b]/\x.cps.all (·<128)=true/\SqL K H1 b ys/\x.cps.size=ys.length /\
 ∀ d,H1 d=none->Q (.ref d) (upd H1 d (.dK (qu [] (kvK (zo x ys)))))
theorem qc4{X:Cx}{l1 l2:Expr}{ta:TA}{p p2 pos N7:Pos}(hc:X.calm=true)(hgl:Gl X "dict")(uM:X.mg "dict"=none)(hgz:Gl X "zip")(uL:X.mg "zip"=none)(ha:PA X [l1,l2] ta)(hs0:starEach [.Call (.Name "zip" p2) [l1,l2] [] N7] X.env=[(false,eval (.Call (.Name "zip" p2) [l1,l2] [] N7) X.env)]:=by rfl)(hs:starEach [l1,l2] X.env=[(false,eval l1 X.env),(false,eval l2 X.env)]:=by rfl)(i3:starEach [l2] X.env=[(false,eval l2 X.env)]:=by rfl):
  PE X (.Call (.Name "dict" p) [.Call (.Name "zip" p2) [l1,l2] [] N7] [] pos) (qfs X.K ta):=by
 intro pins s σ H Q I h;refine Zb (y9 I hgl uM F.boot_dict ?_);refine Xd ?_ (by rw[hs0];rfl) (by rfl);rw[hs0];show wpAny _ _ (spliced [(false,eval (.Call (.Name "zip" p2) [l1,l2] [] N7) X.env)]) _ _ s
 refine Y3 ?_;refine Call_ (y9 I hgz uL boot_zip (Xd (thn (ha N7 pins s σ H _ I h) λ us s1 ⟨vs,H1,I1,r1,q1⟩=>?_) (by rw[hs,i3]) (by rw[i3];rfl)));obtain⟨x,b,ys,e,bT,E9,hl,q⟩:=q1;subst e;obtain⟨u1,u2,rfl,aZ,S8⟩:=qaQ r1;obtain⟨t,rfl⟩:=aZ;cases S8
 obtain⟨i4,R5,pM,eO⟩:=I1.list E9;have a2:b<s1.heap.objs.size:=by obtain⟨_,e,_⟩:=pM.isList;exact J5 e
 have n2:=R5.length;have hA:=I1.ok.hd hc;have plen:=qc3 hl;refine qav bT pM.isList λ h' hz p9 i6 hi1 hi2 hsz hk=>?_
 refine Calls.spliced_nil ?_;refine callType_codes (s:={ s1 with heap:=h' }) (Q₁:=λ obj s₁=>obj=.ref h'.objs.size/\s₁={ s1 with heap:=h'.push { cls:=.type "dict",data:=.dict #[] } }) PySem.F.kt_called_dict (PySem.F.kt_typeCall_dict_1 _) PySem.F.entry_dict_init (kt_code_dict_new _ ⟨rfl,rfl⟩) ?_;rintro obj s₁ ⟨rfl,rfl⟩;have o6:(h'.push { cls:=.type "dict",data:=.dict #[] }).DictOf (qk X.prog X.w) h'.objs.size []:=Heap.DictOf.new h';refine⟨o6.typeIs,PySem.F.args_dict_init_2 _ _,?_⟩;unfold Builtin.«dict.__init__»;refine Qs ?_;unfold Builtin.Dict.selfAndRest;refine Qs (wpAny_notOrdered_dict o6.typeIs ?_);show wpAny _ _ (pure (h'.objs.size,[Value.ref (s1.heap.objs.size+4)])) _ _ _
 refine Qr ?_;show wpAny _ _ (Builtin.Dict.updateFrom "dict.__init__" h'.objs.size (.ref (s1.heap.objs.size+4)) [] .none) _ _ _
 unfold Builtin.Dict.updateFrom;have eQ:(h'.push { cls:=.type "dict",data:=.dict #[] }).get? (s1.heap.objs.size+4)=some _:=X9 _ hz;refine Qs (Qj (T:="zip") ⟨_,eQ,rfl⟩ ?_);rw[Q7 (by decide)];refine Qs (qc2 (s:={ s1 with heap:=h'.push { cls:=.type "dict",data:=.dict #[] } }) eQ (by simpa using hA) λ h2 dI R7=>?_);simp only[Option.isNone_none,Q4];refine Qs (Qv ?_);have aU:∀ c o,h'.get? c=some o->h2.get? c=some o:=λ c o e=>R7 c o (X9 _ e)
 have L8:IsZip h2 (s1.heap.objs.size+4) (s1.heap.objs.size+2) (s1.heap.objs.size+3) .none:=aU _ _ hz;have N2:h2.DictOf (qk X.prog X.w) h'.objs.size []:=by
  obtain⟨o,es,ep,ho,rest⟩:=o6;exact⟨o,es,ep,R7 _ o ho,rest⟩
 refine Qs (Ub (s:={ s1 with heap:=h2,toks:=dI }) L8 ?_);refine Qr ⟨Jz F.plain_dict_update_loop _,?_⟩;rw[hsz] at N2 ⊢;have bN:@LT.lt Nat _ b s1.heap.objs.size:=a2;have D1:Draws X.prog X.w X.A s1.heap.objs.size [s1.heap.objs.size] x.cps.size _ (zS1 s1.heap.objs.size x t):=Jh hA _ x t;refine qc1 (A:=X.A.in1) (z:=s1.heap.objs.size+4) (TI:=s1.heap.objs.size+2) (TO:=s1.heap.objs.size+3) (i1:=s1.heap.objs.size) (i2:=s1.heap.objs.size+1) (l2:=b) (D:=s1.heap.objs.size+5) (x:=x) (t:=t) (ys:=i4.toArray) (qv:=zo x ys) (s0:={ s1 with heap:=h2,toks:=dI })
  (by simpa using hA) (qaw a2) (J6 (Zl a2)) ?nD (by omega) (by rw[Zg];omega) (by omega) ?hp ?hR (zo x ys).length 0 _ [] 0 (by omega) (Qm _) rfl rfl rfl (λ b o _ e=>e) ?st N2 (by rw[Jd];exact .nil) (Ql _)
 case nD =>
  intro hm;have hm:@Eq Nat (s1.heap.objs.size+5) (s1.heap.objs.size+4)∨@Eq Nat (s1.heap.objs.size+5) (s1.heap.objs.size+2)∨@Eq Nat (s1.heap.objs.size+5) (s1.heap.objs.size+3)∨@Eq Nat (s1.heap.objs.size+5) s1.heap.objs.size∨@Eq Nat (s1.heap.objs.size+5) (s1.heap.objs.size+1)∨@Eq Nat (s1.heap.objs.size+5) b:=by
   have h0:=hm;simp only[Js,Y9,Z7,or_false] at h0;exact h0
  omega
 case hp =>
  intro j kv uR;obtain⟨c,A0,ek,hy⟩:=qei uR;obtain⟨u,hu,ru⟩:=R5.get hy;exact⟨c,u,A0,ek,by simpa using hu,ru⟩
 case st =>
  exact⟨⟨.none,false,L8,.inl ⟨rfl,rfl⟩⟩,aU _ _ p9,⟨_,_,aU _ _ i6⟩,D1.frame _ _ _ hi1 λ c hc o e=>aU c o e,hi2.at λ o e=>aU _ o e,pM.isList.at λ o e=>aU _ o (hk _ o e)⟩
 case hR =>
  intro s' u6 e1 e2 e3 N1 hD E7;refine⟨rfl,?_⟩;have u5:s1.heap.objs.size<=s1.heap.objs.size+5:=Nat.le_add_right _ _;have hf:=I1.hok.fresh u5;have fQ:∀ c o,s1.heap.get? c=some o->s'.heap.get? c=some o:=λ c o e=>N1 c o (λ hm=>by
   have d4:@LT.lt Nat _ c s1.heap.objs.size:=J5 e;have hm:@Eq Nat c (s1.heap.objs.size+5)∨@Eq Nat c (s1.heap.objs.size+4)∨@Eq Nat c (s1.heap.objs.size+3)∨@Eq Nat c s1.heap.objs.size∨@Eq Nat c (s1.heap.objs.size+1):=by
    have h0:=hm;simp only[Js,Y9,Z7,or_false] at h0;exact h0
   omega) (aU c o (hk c o e))
  have uK:(qu [] (kvK (zo x ys))).length<=sizeLine:=by
   have:=yc (kvK (zo x ys)) []
   have e:(kvK (zo x ys)).length=(zo x ys).length:=by unfold kvK;rw[Ul]
   simp at this;omega
  refine⟨.ref (s1.heap.objs.size+5),_,I1.call' (s':=s') (ch:=[]) e1 (Un.laid fQ u5 hf) (I1.hok.laid fQ u5 (kG uK (Yy.mpr ?_) E7 hD)) (by rw[e2];exact I1.bare) (λ _ z=>nomatch z),rfl,q _ hf⟩;exact Q2 (J6 (Y0 I1.big (Nat.le_add_right _ _)))
def qft(K:W.Frag)(x:Str)(b:Addr):It2:=
 ⟨λ i H=>i<x.cps.size/\∃ ys y,SqL K H b ys/\ys[i]?=some y,λ i H zs H'=>H'=H/\∃ y,zs=[sgn x i,y]/\∀ ys,SqL K H b ys->ys[i]?=some y,λ i H=>i=x.cps.size/\∃ ys,SqL K H b ys⟩
def qiZ(z TI TO i1 i2:Addr)(x:Str)(t:Tok)(b:Addr)(i:Nat)(h:Heap):Prop:=IsZip h z TI TO .none/\IsPair h TI (.ref i1) (.ref i2)/\(∃ c d,IsPair h TO c d)/\h.IsStrIter i1 "str_ascii_iterator" x t i/\h.IsListIter i2 b i
theorem qej{P:Program}{w:World}{K:W.Frag}{es:List Expr}{k:Nat}{pos:Pos}{b z TI TO i1 i2:Addr}{x:Str}{t:Tok}(D:ZApart z TI TO i1 i2 [i1] [i2,b])(G1:b≠i2):
  Turn2 P w K (.Tuple es k pos) (qft K x b) [z,TI,TO,i1,i2] z (qiZ z TI TO i1 i2 x t b) where
 obj:=λ i h st c hc=>by
  obtain⟨hz,p9,⟨c1,d1,i6⟩,⟨o1,R6,cc1,dd1⟩,⟨o2,uI,cc2,xZ⟩⟩:=st;have hc:c=z∨c=TI∨c=TO∨c=i1∨c=i2:=by simpa using hc
  rcases hc with e|e|e|e|e
  ·subst e;exact⟨_,hz,λ v q=>by cases q⟩
  ·subst e;exact⟨_,p9,λ v q=>by cases q⟩
  ·subst e;exact⟨_,i6,λ v q=>by cases q⟩
  ·subst e;exact⟨o1,R6,λ v q=>by rw[dd1] at q;cases q⟩
  ·subst e;exact⟨o2,uI,λ v q=>by rw[xZ] at q;cases q⟩
 keep:=λ i h h' st k=>by
  obtain⟨hz,p9,⟨c1,d1,i6⟩,⟨o1,R6,r1⟩,h2⟩:=st;exact⟨k z (by simp) _ hz,k TI (by simp) _ p9,⟨c1,d1,k TO (by simp) _ i6⟩,⟨o1,k i1 (by simp) _ R6,r1⟩,h2.at λ o q=>k i2 (by simp) o q⟩
 item:=by
  intro X hP hw hK hc i pins s σ H E I hf st hg;subst hP hw hK;obtain⟨hi,ys,y,E9,hy⟩:=hg;obtain⟨i4,R5,p2,eO⟩:=I.list E9;obtain⟨u2,lO,S8⟩:=R5.get hy;obtain⟨hz,p9,⟨c1,d1,i6⟩,h1,h2⟩:=st;have hh:=I.ok.hd hc;have hT:s.TypeIs (.ref z) "zip":=⟨_,hz,rfl⟩;have hy2:i<i4.toArray.size:=by
   have:=Xl.mp lO
   obtain⟨h,_⟩:=this;simpa using h
  unfold pyNext;refine Qs (J0 (X7 (name:=Str.ofString "__next__") hT XU
   (Ue XU hT XF
    (jH (Jh (by simpa using hh) i1 x t) (Draws.list (by simpa using hh) i2 b G1 i4.toArray) D hz p9 i6 h1 ⟨h2,p2.isList⟩ hi hy2 λ v1 v2 h' tk wQ mD tN bV cW L5 hp hsz hk=>Qr ?_) (X5 _))))
  have e2:v2=u2:=by
   have:i4[i]?=some v2:=by simpa using mD
   rw[lO] at this;exact(Option.some.inj this).symm
  subst e2;have rs:qF (sgn x i) v1:=qbs wQ;refine⟨s.heap.objs.size,rfl,wpAny_letOwnedTupleGo_zip tN λ L5 L8 i3=>?_⟩;rename_i cX;replace i3:Heap.SameBut z h' L5:=i3;have eN:z<s.heap.objs.size:=J5 hz;have k2:∀ c o,c≠z->c≠TO->c≠i1->c≠i2->s.heap.get? c=some o->L5.get? c=some o:=λ c o a1 a2 a3 a4 q=>i3.extBut c o a1 (hk c o a1 a2 a3 a4 q)
  have fz:=hf z (by simp);have fO:=hf TO (by simp);have f1:=hf i1 (by simp);have f2:=hf i2 (by simp);have nn:∀ c,c∉[z,TO,i1,i2]->c≠z/\c≠TO/\c≠i1/\c≠i2:=λ c d3=>by simpa using d3
  have I1:Inv X pins σ H { s with heap:=L5,toks:=tk }:=by
   refine I.step (g':=s.gens) (d':=s.drawn) (t':=tk) (ch:=[z,TO,i1,i2]) (λ c d3=>?_) (λ c o _ _ d3 q _=>k2 c o (nn c d3).1 (nn c d3).2.1 (nn c d3).2.2.1 (nn c d3).2.2.2 q)
    (λ c o _ _ d3 q _=>⟨o.slots,k2 c o (nn c d3).1 (nn c d3).2.1 (nn c d3).2.2.1 (nn c d3).2.2.2 q⟩) (λ _ _ _ _ n=>n) (λ c o d3 q=>⟨o,k2 c o (nn c d3).1 (nn c d3).2.1 (nn c d3).2.2.1 (nn c d3).2.2.2 q⟩)
    (λ _ _ q=>q) (λ _ _ _ q=>q) (λ c ps q=>⟨#[],by rw[q];simp⟩) (λ m hm=>?_) (λ c u q=>?_) I.bare
   ·have:yO X pins H c:=by
     have d3:c=z∨c=TO∨c=i1∨c=i2:=by simpa using d3
     rcases d3 with e|e|e|e <;> subst e <;> assumption
    exact⟨this.2.2.2.1,this.2.1,this.2.2.2.2.1,this.2.2.2.2.2⟩
   ·obtain⟨o,t4,ep,ho,r⟩:=hm;exact⟨o,t4,ep,k2 _ o (Q2 fz.2.1) (Q2 fO.2.1) (Q2 f1.2.1) (Q2 f2.2.1) ho,r⟩
   ·have no:∀ b',H b'=none->∀ c',(c'=c∨H c'=some (.own c))->c'≠b':=λ b' O8 c' A0 e=>by
     subst e;rcases A0 with e|e
     ·subst e;rw[O8] at q;cases q
     ·rw[O8] at e;cases e
    exact(I.hok c u q).stay (λ c' v d3 r=>k2 c' v (no z fz.1 c' d3) (no TO fO.1 c' d3) (no i1 f1.1 c' d3) (no i2 f2.1 c' d3) r) (λ _ r=>r) λ _ _ r=>r
  have bJ:IsPair L5 s.heap.objs.size v1 v2:=i3.extBut _ _ (J9 eN) hp;refine⟨[sgn x i,y],[v1,v2],H,I1,⟨_,bJ,rfl,_,rfl⟩,.cons rs (.cons S8 .nil),⟨rfl,y,rfl,λ ws hw=>by rw[I.list_inj hw E9];exact hy⟩,?_,λ c d3=>(hf c d3).1⟩;obtain⟨o1,R6,r1⟩:=cW;refine⟨L8,i3.extBut _ _ D.TIz (hk _ _ D.TIz D.TITO D.TIi1 D.TIi2 p9),⟨_,_,i3.extBut _ _ D.TOz bV⟩,⟨o1,i3.extBut _ _ D.i1z R6,r1⟩,?_⟩;exact cX.1.extBut i3.extBut D.i2z
 done:=by
  intro X hP hw hK hc i pins s σ H E I hf st hg;subst hP hw hK;obtain⟨hx,ys,E9⟩:=hg;subst hx;obtain⟨hz,p9,⟨c1,d1,i6⟩,h1,h2⟩:=st;have hh:=I.ok.hd hc;have hT:s.TypeIs (.ref z) "zip":=⟨_,hz,rfl⟩;have fz:=hf z (by simp);have fO:=hf TO (by simp);have f1:=hf i1 (by simp);have f2:=hf i2 (by simp);have nn:∀ c,c∉[z,TO,i1,i2]->c≠z/\c≠TO/\c≠i1/\c≠i2:=λ c d3=>by simpa using d3
  unfold pyNext;refine Qs (J0 (X7 (name:=Str.ofString "__next__") hT XU
   (Ue XU hT XF (jY (fp2:=[i2,b]) (Jh (by simpa using hh) i1 x t) D hz p9 i6 h1 λ h' e k2 he=>?_) (X5 _))))
  obtain⟨o,ho,hcl⟩:=he;refine Qs (Ud (T:="StopIteration") (b:=true) ⟨o,ho,hcl⟩ Jn ?_);refine Qr ⟨rfl,?_⟩;refine I.step (g':=s.gens) (d':=s.drawn) (t':=s.toks) (ch:=[z,TO,i1,i2]) (λ c d3=>?_) (λ c o _ _ d3 q _=>k2 c o (nn c d3).1 (nn c d3).2.1 (nn c d3).2.2.1 (nn c d3).2.2.2 q)
   (λ c o _ _ d3 q _=>⟨o.slots,k2 c o (nn c d3).1 (nn c d3).2.1 (nn c d3).2.2.1 (nn c d3).2.2.2 q⟩) (λ _ _ _ _ n=>n) (λ c o d3 q=>⟨o,k2 c o (nn c d3).1 (nn c d3).2.1 (nn c d3).2.2.1 (nn c d3).2.2.2 q⟩)
   (λ _ _ q=>q) (λ _ _ _ q=>q) (λ c ps q=>⟨#[],by rw[q];simp⟩) (λ m hm=>?_) (λ c u q=>?_) I.bare
  ·have:yO X pins H c:=by
    have d3:c=z∨c=TO∨c=i1∨c=i2:=by simpa using d3
    rcases d3 with e|e|e|e <;> subst e <;> assumption
   exact⟨this.2.2.2.1,this.2.1,this.2.2.2.2.1,this.2.2.2.2.2⟩
  ·obtain⟨o,t4,ep,ho,r⟩:=hm;exact⟨o,t4,ep,k2 _ o (Q2 fz.2.1) (Q2 fO.2.1) (Q2 f1.2.1) (Q2 f2.2.1) ho,r⟩
  ·have no:∀ b',H b'=none->∀ c',(c'=c∨H c'=some (.own c))->c'≠b':=λ b' O8 c' A0 e=>by
    subst e;rcases A0 with e|e
    ·subst e;rw[O8] at q;cases q
    ·rw[O8] at e;cases e
   exact(I.hok c u q).stay (λ c' v d3 r=>k2 c' v (no z fz.1 c' d3) (no TO fO.1 c' d3) (no i1 f1.1 c' d3) (no i2 f2.1 c' d3) r) (λ _ r=>r) λ _ _ r=>r
 self:=λ A i s Q E st h=>Ub st.1 h
def qim(K:W.Frag)(ta:TA):TI2:=λ σ H R=>ta σ H λ vs H1=>∃ x b,vs=[.str x,.ref b]/\x.cps.all (·<128)=true/\(∃ ys,SqL K H1 b ys)/\R (qft K x b) H1
theorem qgz{X:Cx}{es:List Expr}{k:Nat}{i9:Pos}{l1 l2:Expr}{ta:TA}{p pos:Pos}(hg:Gl X "zip")(hm:X.mg "zip"=none)(ha:PA X [l1,l2] ta)(hs:starEach [l1,l2] X.env=[(false,eval l1 X.env),(false,eval l2 X.env)]:=by rfl)(i3:starEach [l2] X.env=[(false,eval l2 X.env)]:=by rfl):
  PI2 X (.Tuple es k i9) (.Call (.Name "zip" p) [l1,l2] [] pos) (qim X.K ta):=by
 intro pins s σ H R I h;refine Call_ (y9 I hg hm boot_zip (Xd (thn (ha pos pins s σ H _ I h) λ us s1 ⟨vs,H1,I1,r1,q1⟩=>?_) (by rw[hs,i3]) (by rw[i3];rfl)));obtain⟨x,b,e,bT,⟨ys,E9⟩,q⟩:=q1;subst e;obtain⟨u1,u2,rfl,aZ,S8⟩:=qaQ r1;obtain⟨t,rfl⟩:=aZ;cases S8
 obtain⟨i4,R5,p2,eO⟩:=I1.list E9;have a2:b<s1.heap.objs.size:=by obtain⟨_,e,_⟩:=p2.isList;exact J5 e
 refine qav bT p2.isList λ h' hz p9 i6 hi1 hi2 hsz hk=>Ub hz ?_
 refine⟨s1.heap.objs.size+4,[s1.heap.objs.size+4,s1.heap.objs.size+2,s1.heap.objs.size+3,s1.heap.objs.size,s1.heap.objs.size+1],_,_,H1,rfl,I1.kept (t':=s1.toks) hk,qej (qaw a2) (J6 (Zl a2)),⟨hz,p9,⟨_,_,i6⟩,hi1,hi2⟩,λ c hc=>?_,q⟩;have hc:c=s1.heap.objs.size+4∨c=s1.heap.objs.size+2∨c=s1.heap.objs.size+3∨c=s1.heap.objs.size∨c=s1.heap.objs.size+1:=by simpa using hc
 have u5:s1.heap.objs.size<=c:=by rcases hc with e|e|e|e|e <;> rw[e] <;> omega
 exact I1.fpOk u5 (I1.hok.fresh u5)
theorem qfu{K:W.Frag}{x:Str}{b:Addr}{ys:List V}{t:TGs}{tb:TS}{D:Ends}{σ:St}{H:Hp}(Pv:Nat->St->Hp->Prop)(h0:Pv 0 σ H)(d5:x.cps.size=ys.length)(hl:∀ i σ H,i<=ys.length->Pv i σ H->SqL K H b ys)(hs:∀ i y σ H,i<x.cps.size->ys[i]?=some y->Pv i σ H->t [sgn x i,y] σ H λ σ2 H2=>tb { D with nx:=Pv (i+1),ct:=Pv (i+1),bk:=D.nx } σ2 H2)(hd:∀ σ H,Pv ys.length σ H->D.nx σ H):
  ∃ W:Nat->Nat->St->Hp->Prop,(∃ m,W 0 m σ H)/\∀ i m σ H,W i m σ H ->
   ((qft K x b).stop i H/\D.nx σ H)∨((qft K x b).go i H/\∃ N:St->Hp->Prop,(∀ σ' H',N σ' H'->∃ m',m'<m/\W (i+1) m' σ' H')/\∀ zs H',(qft K x b).yld i H zs H'->zs.length=2/\t zs σ H' λ σ2 H2=>tb { D with nx:=N,ct:=N,bk:=D.nx } σ2 H2):=by
 refine⟨λ i m σ H=>m=ys.length-i/\i<=ys.length/\Pv i σ H,⟨ys.length,by simp,Qm _,h0⟩,?_⟩;rintro i m σ H ⟨rfl,hi,p⟩;have q2:=hl i σ H hi p;by_cases d4:i<ys.length
 ·refine .inr ⟨⟨by omega,ys,ys[i],q2,Xv d4⟩,Pv (i+1),λ σ' H' p'=>⟨ys.length-(i+1),by omega,rfl,d4,p'⟩,λ zs H' y=>?_⟩;obtain⟨e,y,ez,hy⟩:=y;subst e ez;exact⟨rfl,hs i y σ _ (by omega) (hy ys q2) p⟩
 ·have e:i=ys.length:=by omega
  subst e;exact .inl ⟨⟨d5.symm,ys,q2⟩,hd σ H p⟩
def hide(H:Hp)(cs:List Addr):Hp:=λ b=>if b∈cs then none else H b
def unhide(H H':Hp)(cs:List Addr):Hp:=λ b=>if b∈cs then H b else H' b
theorem kj{H:Hp}{cs:List Addr}{b:Addr}(h:b∈cs):hide H cs b=none:=Q7 h
theorem ze{H:Hp}{cs:List Addr}{b:Addr}(h:b∉cs):hide H cs b=H b:=Q8 h
theorem y4{H:Hp}{cs:List Addr}{b:Addr}(h:H b=none):hide H cs b=none:=by
 by_cases m:b∈cs
 ·exact kj m
 ·rw[ze m,h]
theorem qek{H:Hp}{cs:List Addr}{b:Addr}{o:HO}(h:hide H cs b=some o):b∉cs/\H b=some o:=by
 by_cases m:b∈cs
 ·rw[kj m] at h;cases h
 ·rw[ze m] at h;exact⟨m,h⟩
theorem Env0.hide{P:Program}{w:World}{K:W.Frag}{mg:Str->Option Value}{base:Heap}{A:Around}{outer:List Env}{s:Shared}{H:Hp}{cs:List Addr}(e:Env0 P w K mg base A outer s H)(hx:∀ c∈cs,∃ φ,H c=some (.ext φ)):
  Env0 P w K mg base A outer s (L2.hide H cs):=by
 have ne:∀ b o,H b=some o->(∀ φ,o≠.ext φ)->b∉cs:=λ b o q n m=>by
  obtain⟨φ,y⟩:=hx b m;rw[y] at q;exact n φ (Option.some.inj q).symm
 refine⟨e.frames,e.mod,λ b o q=>⟨(e.bs b o q).1,y4 (e.bs b o q).2⟩,e.bsz,e.funs,λ b hb=>y4 (e.frf b hb),λ a o q=>?_,e.bare⟩;refine(e.hok a o (qek q).2).stay (λ _ _ _ z=>z) (λ b z=>?_) (λ b xs z=>?_)
 ·rw[ze (ne b _ z (λ φ=>by nofun))];exact z
 ·rw[ze (ne b _ z (λ φ=>by nofun))];exact z
theorem CE.unhide{P:Program}{w:World}{outer:List Env}{H:Hp}{s s':Shared}{Q:VK}{u:Value}{cs:List Addr}(frf:∀ b∈frs outer,H b=none)(hok:HOk P w H s.heap)(hx:∀ c∈cs,∃ φ,H c=some (.ext φ))(h:CE outer P w (L2.hide H cs) s (λ v H'=>(∀ c∈cs,H' c=none)->Q v (L2.unhide H H' cs)) u s'):CE outer P w H s Q u s':=by
 obtain⟨v,H',os,bare,un,T9,r,q⟩:=h;have nc:∀ c∈cs,H' c=none/\∀ o,s.heap.get? c=some o->s'.heap.get? c=some o:=λ c hc=>by
  obtain⟨φ,e⟩:=hx c hc;obtain⟨_,⟨o,ho⟩,_⟩:=hok c _ e;have hn:L2.hide H cs c=none:=kj hc;exact⟨un.free c o ho hn (by simp),λ o' E3=>un.keep c o' E3 hn (λ z=>by rw[frf c z] at e;cases e) (by simp)⟩
 have ne:∀ b o,H b=some o->(∀ φ,o≠.ext φ)->b∉cs:=λ b o q n m=>by
  obtain⟨φ,y⟩:=hx b m;rw[y] at q;exact n φ (Option.some.inj q).symm
 have nn:∀ b,H b=none->b∉cs:=λ b n m=>by obtain⟨φ,y⟩:=hx b m;rw[y] at n;cases n
 have out:∀ b,b∉cs->L2.unhide H H' cs b=H' b:=λ b m=>Q8 m
 have nn':∀ b o,H' b=some o->b∉cs:=λ b o e m=>by rw[(nc b m).1] at e;cases e
 refine⟨v,L2.unhide H H' cs,os,bare,⟨λ b o e n hb bE=>un.keep b o e (y4 n) hb bE,λ b o e n hb bE=>un.slot b o e (y4 n) hb bE,λ b o e n bE=>?_,λ b o e bE=>un.there b o e bE,λ b xs e=>?_,λ b o xs e=>?_,λ b ps e=>?_⟩,λ b o e=>?_,r,q λ c hc=>(nc c hc).1⟩
 ·rw[out b (nn b n)];exact un.free b o e (y4 n) bE
 ·have m:=ne b _ e (λ φ=>by nofun);rw[out b m];exact un.tups b xs (by rw[ze m];exact e)
 ·have m:=ne b _ e (λ φ=>by nofun);rw[out b m];exact un.frzs b o xs (by rw[ze m];exact e)
 ·have m:=ne b _ e (λ φ=>by nofun);rw[out b m];exact un.tbls b ps (by rw[ze m];exact e)
 ·by_cases m:b∈cs
  ·have e':H b=some o:=by rw[<- e];exact(Q7 m).symm
   obtain⟨φ,y⟩:=hx b m;rw[y] at e';obtain rfl:HO.ext φ=o:=Option.some.inj e';obtain⟨p,⟨ob,ho⟩,st⟩:=hok b _ y;exact⟨st _ _ p λ o' z=>(nc b m).2 o' z,⟨ob,(nc b m).2 ob ho⟩,st⟩
  ·rw[out b m] at e;exact(T9 b o e).stay (λ _ _ _ z=>z) (λ c z=>by rw[out c (nn' c _ z)];exact z) λ c xs z=>by rw[out c (nn' c _ z)];exact z
theorem HOk.track{P:Program}{w:World}{H:Hp}{h:Heap}{a:Addr}{o:HO}(x:HOk P w H h)(hn:H a=none)(new:qQ P w (upd H a o) h a o):HOk P w (upd H a o) h:=λ b u e=>by
 by_cases hb:b=a
 ·subst hb;rw[qe] at e;cases e;exact new
 ·rw[qg hb] at e;exact(x b u e).stay (λ c v _ q=>q) (λ c q=>by rw[qg (qr q hn)];exact q) λ c xs q=>by rw[qg (qr q hn)];exact q
theorem Un.track{fs ex:List Addr}{H H':Hp}{h h':Heap}{a:Addr}{o:HO}(u:Un fs ex H H' h h')(hs:h.objs.size<=a)(hn:H' a=none):Un fs ex H (upd H' a o) h h':=by
 have ne:∀ b ob,h.get? b=some ob->b≠a:=λ b ob e z=>by subst z;exact absurd (Y0 (J5 e) hs) (Jr _)
 refine⟨u.keep,u.slot,λ b ob e n hx=>?_,u.there,λ b xs e=>?_,λ b ob xs e=>?_,λ b ps e=>?_⟩
 ·rw[qg (ne b ob e)];exact u.free b ob e n hx
 ·have q:=u.tups b xs e;rw[qg (qr q hn)];exact q
 ·have q:=u.frzs b ob xs e;rw[qg (qr q hn)];exact q
 ·obtain⟨more,q⟩:=u.tbls b ps e;exact⟨more,by rw[qg (qr q hn)];exact q⟩
def jI(c:Addr)(q:Str):HO:=.ext λ h=>h.CodeRec (.ref c) q
def qaM(f:Addr)(name qual:Str)(params:Arguments)(body:List Stmt)(scope:Scope)(cl:List (Str×Addr))(c:Addr):HO:=.ext λ h=>∃ doc pm ctv,h.get? f=some (W.fnMade name qual params body scope cl doc pm c ctv)
def zw(c:Addr)(v:V):HO:=.ext λ h=>∃ u,qF v u/\h.IsCell c (some u)
section
variable {P:Program}{w:World}{H:Hp}{h:Heap}{a c:Addr}{q:Str}{v:V}
theorem qel(x:h.CodeRec (.ref c) q):qQ P w H h c (jI c q):=by
 obtain⟨c2,oc,vs,t,e2,cM,hd,hv⟩:=id x;cases e2
 exact⟨x,⟨_,cM⟩,λ h1 h2 ⟨c3,rU,vs3,t3,e3,uH,wE,hv3⟩ k=>by cases e3;exact⟨_,rU,vs3,t3,rfl,k _ uH,wE,hv3⟩⟩
theorem qbe{u:Value}(r:qF v u)(x:h.IsCell c (some u)):qQ P w H h c (zw c v):=by
 obtain⟨o,ho,hd⟩:=id x;exact⟨⟨u,r,x⟩,⟨_,ho⟩,λ h1 h2 ⟨u',r',o',E3,K2⟩ k=>⟨u',r',o',k _ E3,K2⟩⟩
theorem qdE{name qual:Str}{params:Arguments}{body:List Stmt}{scope:Scope}{cl:List (Str×Addr)}{doc pm ctv:Value}(x:h.get? a=some (W.fnMade name qual params body scope cl doc pm c ctv)):qQ P w H h a (qaM a name qual params body scope cl c):=
 ⟨⟨doc,pm,ctv,x⟩,⟨_,x⟩,λ h1 h2 ⟨d,p,t,e⟩ k=>⟨d,p,t,k _ e⟩⟩
end
def qgA(P:Program)(w:World)(K:W.Frag)(mg:Str->Option Value)(base:Heap)(N:List Str)(qual:Str)(scope:Scope)(y:Str)(cl:List (Str×Addr))(f:Addr)(cd:Value)(A:Around)(outer:List Env)(s:Shared)(H:Hp):Cx where
 prog:=P
 w:=w
 K:=K
 mg:=mg
 base:=base
 A:=A.deeper (W.envX qual scope s.heap.objs.size f cd ((y,s.heap.objs.size+1)::cl))
 N:=N
 s₀:=s
 H₀:=H
 env:=W.envX qual scope s.heap.objs.size f cd ((y,s.heap.objs.size+1)::cl)
 outer:=outer
 stack:=W.envX qual scope s.heap.objs.size f cd ((y,s.heap.objs.size+1)::cl)::outer
 ex:=[]
 calm:=true
 fn:=λ x=>x == y
 pn:=[]
 xe:=λ _ _=>False
structure ClScope(x1 y:Str)(cl:List (Str×Addr))(sc:Scope):Prop where
 kind:sc.kind=.function
 co:sc.isCoroutine=false
 gen:sc.isGenerator=false
 loc:sc.names.lookup x1=some .local
 own:∀ x,sc.names.lookup x=some .cell->x=y
 free:∀ x,sc.names.lookup x=some .free->∃ c,cl.lookup x=some c
 ny:cl.lookup y=none
 cells:∀ n,cellsFrom n sc.names cl=(y,n)::cl
 push:∀ h,pushCells h sc.names=h.push { cls:=.type "cell",data:=.cell none }
theorem qem{M:Model}{A:Around}{E:Value->Shared->Prop}{s:Shared}{scope:Scope}{globals:Addr}{x1 y:Str}{u1:Value}{cl:List (Str×Addr)}{qual:Str}{func:Option Addr}{code:Value}{builtins:Addr}{Q:Env->Shared->Prop}(S:ClScope x1 y cl scope)(hQ:∀ h' tk,(∀ b o,s.heap.get? b=some o->h'.get? b=some o)->h'.Ns s.heap.objs.size (λ z=>if z=x1 then some u1 else none)->h'.IsCell (s.heap.objs.size+1) none ->
   Q (newEnv scope s.heap.objs.size globals ((y,s.heap.objs.size+1)::cl) qual func code none builtins) { s with heap:=h',toks:=tk }):
  wpAny M A (newFunctionEnv scope globals cl [(x1,u1)] qual func code none builtins) Q E s:=by
 simp only[newFunctionEnv,Option.isSome_none,Y7,Qy];refine Qs (wpAny_alloc ?_);refine Qs (wpAny_layCells _ (λ name kind cells=>by cases hkc:kind == NameKind.cell <;> simp[hkc]) _ _ _ _ ?_);rw[show({ s with heap:=s.heap.push { cls:=.type "frame",data:=.dict #[] } }:Shared).heap.objs.size=s.heap.objs.size+1 from Jb ..];rw[S.cells,S.push];simp only[Us,Ja];have ns0:((s.heap.push { cls:=.type "frame",data:=.dict #[] }).push { cls:=.type "cell",data:=.cell none }).Ns s.heap.objs.size (λ _=>none):=(Heap.Ns.new s.heap (.type "frame")).push _;refine Qs (Qs (Qs (wpAny_storeName_local (env:=newEnv scope s.heap.objs.size globals ((y,s.heap.objs.size+1)::cl) qual func code none builtins) S.loc ns0 (λ h' hn hs=>?_) (by show(scope.kind == .class || (scope.kind == .module && _))=false;rw[S.kind];rfl))));have e5:((s.heap.push { cls:=.type "frame",data:=.dict #[] }).push { cls:=.type "cell",data:=.cell none }).get? (s.heap.push { cls:=.type "frame",data:=.dict #[] }).objs.size=some { cls:=.type "cell",data:=.cell none }:=Yn _ rfl;rw[Jb] at e5;have hc:h'.IsCell (s.heap.objs.size+1) none:=⟨{ cls:=.type "cell",data:=.cell none },(hs.2 _ (Z4 _)).trans e5,rfl⟩;refine Qr (Qr (Qr (hQ h' _ (λ b o e=>?_) hn hc)));exact hs.extBut b o (J6 (J5 e)) (X9 _ (X9 _ e))
theorem qc5{P:Program}{w:World}{K:W.Frag}{mg:Str->Option Value}{base:Heap}{N:List Str}{qual:Str}{scope:Scope}{x1 y:Str}{cl:List (Str×Addr)}{f:Addr}{cd:Value}{A:Around}{outer:List Env}{s:Shared}{H:Hp}{u1:Value}{σ:St}{h':Heap}{tk:Nat}(S:ClScope x1 y cl scope)(hd:A.handled=none)(e0:Env0 P w K mg base A outer s H)(inj:∀ x z c,cl.lookup x=some c->cl.lookup z=some c->x=z)(hcl:∀ x c,cl.lookup x=some c->H c=none/\∃ v,s.heap.IsCell c v)(hl:σ.length=N.length)(hσ:∀(i:Nat)(x:Str)(v:V),N[i]?=some x->σ[i]?=some (some v)->(x=x1/\qF v u1)∨(scope.names.lookup x=some .free/\∃ c u,cl.lookup x=some c/\qF v u/\s.heap.IsCell c (some u)))(hk:∀ b o,s.heap.get? b=some o->h'.get? b=some o)(hn:h'.Ns s.heap.objs.size (λ z=>if z=x1 then some u1 else none))(hc:h'.IsCell (s.heap.objs.size+1) none):
  Inv (qgA P w K mg base N qual scope y cl f cd A outer s H) [] σ H { s with heap:=h',toks:=tk }:=by
 have look:∀ x c,List.lookup x ((y,s.heap.objs.size+1)::cl)=some c->(x=y/\c=s.heap.objs.size+1)∨(x≠y/\cl.lookup x=some c):=λ x c e=>by
  rw[Z2] at e;by_cases hx:(x == y)=true
  ·rw[hx] at e;exact .inl ⟨by simpa using hx,(Option.some.inj e).symm⟩
  ·rw[show(x == y)=false by simpa using hx] at e;exact .inr ⟨by simpa using hx,e⟩
 have clt:∀ x c,cl.lookup x=some c->c<s.heap.objs.size:=λ x c e=>by obtain⟨_,v,o,ho,_⟩:=hcl x c e;exact J5 ho
 have cons:∀ x c,cl.lookup x=some c->List.lookup x ((y,s.heap.objs.size+1)::cl)=some c:=λ x c e=>by
  rw[Z2];by_cases hx:(x == y)=true
  ·rw[show x=y by simpa using hx,S.ny] at e;cases e
  ·rw[show(x == y)=false by simpa using hx];exact e
 have bD:∀ b:Addr,b∉(qgA P w K mg base N qual scope y cl f cd A outer s H).ex:=λ b z=>absurd (show b∈([]:List Addr) from z) (by simp)
 refine⟨⟨e0.mod,S.kind,rfl,rfl,Ql _,λ x z c h1 h2=>?_,λ x hx=>?_,λ x c hf h=>?_,λ _=>hd,Around.frames_deeper e0.frames,.inr ⟨rfl,rfl⟩,λ b z=>absurd z (bD b),e0.bs,e0.bsz,λ b _ _=>bD b,λ b z=>absurd z (bD b),e0.funs,e0.frf⟩,
  rfl,e0.bare,Un.kept hk,⟨_,hn,λ i x v h1 h2 h3=>?_⟩,λ x c h=>?_,e0.hok.fresh (Ql _),λ x c h=>?_,λ p hp=>absurd (show p∈([]:List (Addr×Obj)) from hp) (by simp),e0.hok.kept hk,hl⟩
 ·rcases look x c h1 with⟨rfl,rfl⟩ | ⟨_,q1⟩ <;> rcases look z _ h2 with⟨rfl,q⟩ | ⟨_,q2⟩
  ·rfl
  ·exact absurd (clt _ _ q2) (Nat.not_lt.mpr (Qn _))
  ·subst q;exact absurd (clt _ _ q1) (Nat.not_lt.mpr (Qn _))
  ·exact inj x z c q1 q2
 ·have hx:scope.names.lookup x=some .cell∨scope.names.lookup x=some .free:=hx;rcases hx with hx | hx
  ·obtain rfl:=S.own x hx;exact⟨s.heap.objs.size+1,by show List.lookup x ((x,s.heap.objs.size+1)::cl)=_;rw[Z2];simp⟩
  ·obtain⟨c,e⟩:=S.free x hx;exact⟨c,cons x c e⟩
 ·have hf:(x == y)=true:=hf;obtain rfl:x=y:=by simpa using hf
  rcases look x c h with⟨_,rfl⟩|⟨n,_⟩
  ·exact Qn _
  ·exact absurd rfl n
 ·rcases hσ i x v h1 h2 with⟨rfl,r⟩ | ⟨hf,c,u,e,r,z⟩
  ·exact⟨u1,r,.inl ⟨S.loc,by simp⟩⟩
  ·exact⟨u,r,.inr ⟨.inr hf,c,cons x c e,z.keeps hk⟩⟩
 ·rcases look x c h with⟨_,rfl⟩ | ⟨_,q⟩
  ·exact⟨_,hc⟩
  ·obtain⟨_,v,z⟩:=hcl x c q;exact⟨v,z.keeps hk⟩
 ·rcases look x c h with⟨_,rfl⟩ | ⟨_,q⟩
  ·exact e0.hok.fresh (Qn _)
  ·exact(hcl x c q).1
theorem qen{P:Program}{w:World}{K:W.Frag}{mg:Str->Option Value}{base:Heap}{A:Around}{outer:List Env}{s:Shared}{H:Hp}{k:Nat}{f c':Addr}{name qual x1 y:Str}{params:Arguments}{body:List Stmt}{scope:Scope}{cl:List (Str×Addr)}{N:List Str}{v1:V}{u1:Value}{σ:St}{Q:VK}{E:XK}(hr:Room (k+1) A)(e0:Env0 P w K mg base A outer s H)(hf:H f=some (qaM f name qual params body scope cl c'))(A0:H c'=some (jI c' qual))(S:ClScope x1 y cl scope)(inj:∀ x z c,cl.lookup x=some c->cl.lookup z=some c->x=z)(hcl:∀ p∈cl,∃ v,H p.2=some (zw p.2 v))(r1:qF v1 u1)(hl:σ.length=N.length)(hσ:∀(i:Nat)(x:Str)(v:V),N[i]?=some x->σ[i]?=some (some v)->(x=x1/\v=v1)∨(scope.names.lookup x=some .free/\∃ c,cl.lookup x=some c/\H c=some (zw c v)))(hb:∀ doc pm ctv,bindArgs (W.fnX name qual params body scope cl .none .none doc pm none (.ref c') ctv) ⟨[u1],[]⟩=pure [(x1,u1)])(x4:Room k (A.deeper (W.envX qual scope s.heap.objs.size f (.ref c') ((y,s.heap.objs.size+1)::cl))) ->
   ∃ t,PSs (qgA P w K mg base N qual scope y cl f (.ref c') A outer s (hide H (cl.map (·.2)))) body t/\t { nx:=λ _ H'=>(∀ c∈cl.map (·.2),H' c=none)->Q .non (unhide H H' (cl.map (·.2))),rt:=λ v H'=>(∀ c∈cl.map (·.2),H' c=none)->Q v (unhide H H' (cl.map (·.2))) } σ (hide H (cl.map (·.2)))):
  codeAny (model P w) A (.call (.ref f) ⟨[u1],[]⟩) (CR CX0 outer P w H s Q E) s:=by
 have hx:∀ c∈cl.map (·.2),∃ φ,H c=some (.ext φ):=λ c hc=>by
  obtain⟨p,hp,rfl⟩:=Qd.mp hc;obtain⟨v,e⟩:=hcl p hp;exact⟨_,e⟩
 have dZ:s.heap.NoLimit:=e0.mod.nolimit.keeps λ b o e=>(e0.bs b o e).1
 obtain⟨⟨doc,pm,ctv,ho⟩,_⟩:=e0.hok f _ hf;obtain⟨bH,_⟩:=e0.hok c' _ A0;have h1:=e0.hide hx;refine XY hr.depth ho rfl S.co S.gen rfl bH ?_;rw[hb doc pm ctv];refine Qr ?_;refine qem S λ h' tk hk hn hc=>⟨dZ.keeps hk,codeAny_func ?_⟩
 obtain⟨t,ht,hq⟩:=x4 (hr.deeper _);have tM:∀ x c,cl.lookup x=some c->c∈cl.map (·.2):=λ x c e=>Qd.mpr ⟨(x,c),Yo e,rfl⟩
 have I:=qc5 (P:=P) (w:=w) (K:=K) (mg:=mg) (base:=base) (N:=N) (qual:=qual) (f:=f) (cd:=.ref c') (σ:=σ) (tk:=tk) S hr.hd h1 inj (λ x c e=>⟨kj (tM x c e),by
   obtain⟨v,q⟩:=hcl (x,c) (Yo e);obtain⟨⟨u,_,z⟩,_⟩:=e0.hok c _ q;exact⟨_,z⟩⟩) hl (λ i x v a b=>by
   rcases hσ i x v a b with⟨rfl,rfl⟩|⟨q,c,e,z⟩
   ·exact .inl ⟨rfl,r1⟩
   ·obtain⟨⟨u,r,z'⟩,_⟩:=e0.hok c _ z;exact .inr ⟨q,c,u,e,r,z'⟩) hk hn hc
 refine Qq (ht [] _ σ _ _ I hq) (λ fl s' hs=>?_) λ e s' hs=>False.elim hs
 have fin:∀{σ':St}{H':Hp}{v:V}{u:Value},Inv (qgA P w K mg base N qual scope y cl f (.ref c') A outer s (hide H (cl.map (·.2)))) [] σ' H' s'->qF v u->((∀ c∈cl.map (·.2),H' c=none)->Q v (unhide H H' (cl.map (·.2))))->CE outer P w H s Q u s':=
  λ{σ' H' v u} J rv q=>CE.unhide e0.frf e0.hok hx ⟨v,H',J.os,J.bare,J.base,J.hok,rv,q⟩
 cases fl with
 |ret u =>
  obtain⟨v,σ',H',J,rv,q⟩:=hs;exact fin J rv q
 |next =>
  obtain⟨σ',H',J,q⟩:=hs;exact fin (v:=V.non) (u:=Value.none) J rfl q
 |brk =>
  obtain⟨_,_,_,q⟩:=hs;exact False.elim q
 |cont =>
  obtain⟨_,_,_,q⟩:=hs;exact False.elim q
def Tab(H:Hp)(Pt:Addr)(pos:Pos)(qual:Str):Prop:=
 H Pt=some (.tbl #[])∨∃ c',H Pt=some (.tbl #[rawInt pos.line,rawInt pos.col,.ref c'])/\H c'=some (jI c' qual)
def qaN(base:Heap)(mg:Str->Option Value):Prop:=
 ∃ bm o,mg "__builtins__"=some (.ref bm)/\bm≠builtinsNs/\base.get? bm=some o/\o.cls=.type "module"/\o.dict=some builtinsNs/\o.data=.plain
theorem qhC{X:Cx}{pins:List (Addr×Obj)}{σ:St}{H:Hp}{s:Shared}{c Pt:Addr}{name qual:Str}{params:Arguments}{body:List Stmt}{scope:Scope}{pos:Pos}{cl:List (Str×Addr)}{i:Nat}{Q:Flow->Shared->Prop}(I:Inv X pins σ H s)(aN:X.env.code=.ref c)(C:PySem.W.CodeHd X.base c Pt)(B:qaN X.base X.mg)(T:Tab H Pt pos qual)(hcl:closureFor scope X.env=pure cl)(hq:qualnameIn X.env name name=qual)(hN:X.N.Nodup)(hi:X.N[i]?=some name)(hx:X.env.scope.names.lookup name=some .local)(wF:params.defaults=[])(K0:params.kw_defaults=[])(ha:annTrees params none X.env=[])(h:∀ f c' H' s',Inv X pins (σ.set i (some (.ref f))) H' s'->(∀ b o,b≠Pt->H b=some o->H' b=some o)->H f=none->H' f=some (qaM f name qual params body scope cl c')->H' c'=some (jI c' qual)->Tab H' Pt pos qual->Q .next s'):
  wpAny (model X.prog X.w) X.A (exec (.FunctionDef name params body [] none [] scope none name pos) X.env) Q X.xe s:=by
 have hg:s.heap.Ns mainGlobals X.mg:=I.mod.glob.keeps I.bk;have D8:∃ ps,H Pt=some (.tbl ps):=by
  rcases T with e|⟨c',e,_⟩
  ·exact⟨_,e⟩
  ·exact⟨_,e⟩
 have hgP:mainGlobals≠Pt:=λ q=>by
  obtain⟨ps,e⟩:=D8;obtain⟨o,es,ep,e2,_⟩:=I.mod.glob
  have:=(I.bs _ _ e2).2
  rw[q,e] at this;cases this
 have hb:s.heap.BuiltinsAt X.mg Pt:=by
  obtain⟨bm,ob,b1,b2,b3,b4,b5,b6⟩:=B;refine⟨bm,ob,b1,b2,λ q=>?_,λ q=>?_,I.bk _ _ b3,b4,b5,b6⟩
  ·obtain⟨o,es,ep,e,hd,_⟩:=I.mod.glob;rw[q,e] at b3;cases b3;rw[hd] at b6;cases b6
  ·obtain⟨ps,e⟩:=D8
   have:=(I.bs _ _ b3).2
   rw[q,e] at this;cases this
 have W9:∀(f:Addr)(H':Hp)(s':Shared),Inv X pins σ H' s'->(∀ t8,Inv X pins (σ.set i (some (.ref f))) H' t8->Q .next t8)->wpAny (model X.prog X.w) X.A (storeName X.env name (.ref f)) (λ _ t8=>Q .next t8) X.xe s':=λ f H' s' I' k =>
  kz I' hN hi (.inl hx) (v:=.ref f) rfl (λ t8 iU=>k t8 iU) (.inr hx)
 refine W.nestDef_K wF K0 ha ?_;rw[hq];rcases T with e|⟨c',e,ec⟩
 ·have hP:s.heap.get? Pt=some (W.tabObj #[]):=I.hok Pt _ e;refine W.makeFunction_K (mg:=X.mg) hcl I.ok.glob hg aN (C.keeps I.bk) hP True.intro rfl hgP hb λ c' ctv doc h' tk i5 hge d4 bH cK=>?_
  have wG:c'≠Pt:=λ q=>by rw[q] at hge;exact absurd (Y0 (J5 hP) hge) (Jr _)
  have M6:∀ b o,b≠Pt->s.heap.get? b=some o->(h'.push (W.fnMade name qual params body scope cl doc ((X.mg "__name__").getD .none) c' ctv)).get? b=some o:=λ b o n q=>X9 _ (i5 b o n q)
  have fne:h'.objs.size≠Pt:=λ q=>by have:=J5 cK;rw[q] at this;exact Jr _ this
  have fnc:h'.objs.size≠c':=λ q=>by rw[<- q] at d4;exact Jr _ d4
  have fge:s.heap.objs.size<=h'.objs.size:=J7 hge (J8 d4);have Hc:H c'=none:=I.hok.fresh hge;have Hf:H h'.objs.size=none:=I.hok.fresh fge;let H1:=upd H Pt (.tbl #[rawInt pos.line,rawInt pos.col,.ref c'])
  let H2:=upd H1 c' (jI c' qual)
  let H3:=upd H2 h'.objs.size (qaM h'.objs.size name qual params body scope cl c')
  have ne:∀ b o,H b=some o->b≠c'/\b≠h'.objs.size:=λ b o q=>⟨qr q Hc,qr q Hf⟩
  have R1:∀ b o,b≠Pt->H b=some o->H3 b=some o:=λ b o n q=>by
   show upd H2 _ _ b=_
   rw[qg (ne b o q).2];show upd H1 _ _ b=_
   rw[qg (ne b o q).1];show upd H _ _ b=_
   rw[qg n];exact q
  have P3:H3 Pt=some (.tbl #[rawInt pos.line,rawInt pos.col,.ref c']):=by
   show upd H2 _ _ Pt=_
   rw[qg (Q2 fne)];show upd H1 _ _ Pt=_
   rw[qg (Q2 wG)];exact qe
  have c3:H3 c'=some (jI c' qual):=by
   show upd H2 _ _ c'=_
   rw[qg (Q2 fnc)];exact qe
  have f3:H3 h'.objs.size=some (qaM h'.objs.size name qual params body scope cl c'):=qe;have iQ:∀ b o,H3 b=some o->b≠h'.objs.size->b≠c'->b≠Pt->H b=some o:=λ b o q n1 n2 n3=>by
   have q:upd H2 _ _ b=_:=q;rw[qg n1] at q;have q:upd H1 _ _ b=_:=q;rw[qg n2] at q;have q:upd H _ _ b=_:=q;rw[qg n3] at q;exact q
  have un:Un X.fs [] H H3 s.heap (h'.push (W.fnMade name qual params body scope cl doc ((X.mg "__name__").getD .none) c' ctv)):=by
   have nP:∀ b,H b=none->b≠Pt:=λ b n q=>by rw[q,e] at n;cases n
   refine⟨λ b o q n _ _=>M6 b o (nP b n) q,λ b o q n _ _=>⟨o.slots,M6 b o (nP b n) q⟩,λ b o q n _=>?_,λ b o q _=>?_,λ b xs q=>R1 b _ (λ z=>by rw[z,e] at q;cases q) q,λ b o xs q=>R1 b _ (λ z=>by rw[z,e] at q;cases q) q,λ b ps q=>?_⟩
   ·cases z:H3 b with
    |none=>rfl
    |some u =>
     have lb:=J5 q
     have:=iQ b u z (λ y=>by rw[y] at lb;exact absurd (Y0 lb fge) (Jr _)) (λ y=>by rw[y] at lb;exact absurd (Y0 lb hge) (Jr _)) (nP b n)
     rw[n] at this;cases this
   ·by_cases hb:b=Pt
    ·subst hb;exact⟨_,X9 _ cK⟩
    ·exact⟨o,M6 b o hb q⟩
   ·by_cases hb:b=Pt
    ·subst hb;rw[e] at q;have q':#[]=ps:=by injection q with q;injection q
     subst q';exact⟨#[rawInt pos.line,rawInt pos.col,.ref c'],by rw[P3];simp⟩
    ·exact⟨#[],by rw[R1 b _ hb q];simp⟩
  have hok:HOk X.prog X.w H3 (h'.push (W.fnMade name qual params body scope cl doc ((X.mg "__name__").getD .none) c' ctv)):=λ b o q=>by
   by_cases n1:b=h'.objs.size
   ·subst n1;rw[f3] at q;cases q;exact qdE (Yn _ (by rfl))
   by_cases n2:b=c'
   ·subst n2;rw[c3] at q;cases q;obtain⟨c2,oc,vs,t,e2,cM,hd,hv⟩:=bH;cases e2
    exact qel ⟨_,oc,vs,t,rfl,X9 _ cM,hd,hv⟩
   by_cases n3:b=Pt
   ·subst n3;rw[P3] at q;cases q;exact X9 _ cK
   have q0:=iQ b o q n1 n2 n3;refine(I.hok b o q0).stay (λ c v hc z=>M6 c v ?_ z) (λ c z=>R1 c _ (λ y=>by rw[y,e] at z;cases z) z) λ c xs z=>R1 c _ (λ y=>by rw[y,e] at z;cases z) z
   rcases hc with hc|hc
   ·rw[hc];exact n3
   ·intro y;rw[y,e] at hc;cases hc
  exact W9 h'.objs.size H3 _ (I.un un hok) λ t8 iU=>h _ c' H3 t8 iU R1 Hf f3 c3 (.inr ⟨c',P3,c3⟩)
 ·have hP:s.heap.get? Pt=some (W.tabObj #[rawInt pos.line,rawInt pos.col,.ref c']):=I.hok Pt _ e;refine W.makeFunction_hit (mg:=X.mg) (cv:=.ref c') hcl I.ok.glob hg aN (C.keeps I.bk) hP (by simp[TriplesOk,rawInt]) (by simp[codeAmong,rawInt]) hb λ ctv doc h' tk hk hsz=>?_
  have Hf:H h'.objs.size=none:=I.hok.fresh hsz;have R1:∀ b o,H b=some o->upd H h'.objs.size (qaM h'.objs.size name qual params body scope cl c') b=some o:=λ b o q=>by rw[qg (qr q Hf)];exact q
  refine W9 h'.objs.size (upd H h'.objs.size (qaM h'.objs.size name qual params body scope cl c')) _ (I.laid (λ b o q=>X9 _ (hk b o q)) hsz (qdE (doc:=doc) (pm:=(X.mg "__name__").getD .none) (ctv:=ctv) (Yn _ (by rfl)))) λ t8 iU=>?_
  exact h _ c' _ t8 iU (λ b o _ q=>R1 b o q) Hf qe (R1 _ _ ec) (.inr ⟨c',R1 _ _ e,R1 _ _ ec⟩)
theorem qfv{P:Program}{w:World}{K:W.Frag}{mg:Str->Option Value}{base:Heap}{x qual:Str}{st st1:Stmt}{f c Pt:Addr}{fd:FuncData}{N ps:List Str}{k i i1 i2:Nat}{sp:Sp}{name q2 x1 x2:Str}{params:Arguments}{body:List Stmt}{scope:Scope}{pos p2 p3:Pos}(F:Fun K x qual st f fd)(S:FnScope N ps (qd st))(len:∀ vs H Q E,sp vs H Q E->vs.length=ps.length)(t9:qw st=[st1,.FunctionDef name params body [] none [] scope none name pos,.Return (some (.Name name p2)) p3])(wA:fd.code=.ref c)(C:PySem.W.CodeHd base c Pt)(B:qaN base mg)(hi:N[i]?=some name)(hx:(qd st).names.lookup name=some .local)(hi1:N[i1]?=some x1)(hi2:N[i2]?=some x2)(n1:i1≠i)(n2:i2≠i)(hx1:(qd st).names.lookup x1=some .cell)(bG:(qd st).names.lookup x2=some .cell)(fJ:x1≠x2)(hcl:∀ L cdv,closureFor scope (envOfC qual (qd st) L f cdv)=pure [(x2,L+2),(x1,L+1)])(cU:∀ L,cellsFrom (L+1) (qd st).names []=[(x2,L+2),(x1,L+1)])(hq:∀ L cdv,qualnameIn (envOfC qual (qd st) L f cdv) name name=q2)(wF:params.defaults=[])(K0:params.kw_defaults=[])(ha:∀ env,annTrees params none env=[])(M0:(name == ("__debug__":Str))=false)(wI:(name == ("__classdict__":Str))=false)(h:∀(cdv:Value)(A:Around)(outer:List Env)(s:Shared)(H:Hp)(vs:List V)(Q:VK)(E:XK),Room k (A.deeper (envOfC qual (qd st) s.heap.objs.size f cdv))->sp vs H Q E ->
   ∃ t,PS (vW CX0 P w K mg base N qual (qd st) f cdv A outer s H E).nox st1 t/\t { nx:=λ σ1 H1=>∃ v1 v2,σ1[i1]?=some (some v1)/\σ1[i2]?=some (some v2)/\Tab H1 Pt pos q2/\∀ f' c' c1 c2 H',(∀ b o,b≠Pt->H1 b=some o->H' b=some o)->H1 f'=none->H1 c1=none->H1 c2=none->c1≠c2->H' f'=some (qaM f' name q2 params body scope [(x2,c2),(x1,c1)] c')->H' c'=some (jI c' q2)->H' c1=some (zw c1 v1)->H' c2=some (zw c2 v2)->Tab H' Pt pos q2->Q (.ref f') H',rt:=λ _ _=>False } (yX N vs) H):
  FnOk P w K mg base CX0 (k+1) f fd ps sp:=by
 obtain⟨oc,od,kV,doc,pm,an,cdv,ct,osl,rfl,lk,A4⟩:=F.ex;obtain rfl:cdv=.ref c:=wA;refine⟨len,λ A outer s H args us vs Q E hr e0 hb r K9=>?_⟩;have hl:=len _ _ _ _ K9;have KX:K.In s.heap:=e0.mod.kin.keeps λ b o e=>(e0.bs b o e).1
 have dZ:s.heap.NoLimit:=e0.mod.nolimit.keeps λ b o e=>(e0.bs b o e).1
 have O5:∀ y∈ps.zip us,(qd st).names.lookup y.1=some .local∨((qd st).names.lookup y.1=some .cell/\((cellsFrom (s.heap.objs.size+1) (qd st).names []).lookup y.1).isSome=true):=λ ⟨n,v⟩ hy=>by
  rcases S.par n (Uk hy).1 with q|q
  ·exact .inl q
  ·exact .inr ⟨q,W.cellsFrom_some _ _ _ (.inl q)⟩
 refine XY hr.depth (KX _ _ lk) rfl S.co S.gen rfl (W.codeRec_of KX A4) (hb _ _ _ _ ?_);refine wpAny_newFunctionEnv_cells S.kind O5 λ env he s1 x=>?_
 subst he;refine⟨dZ.keeps x.toInCall.keep,codeAny_func ?_⟩;obtain⟨t,ht,aE⟩:=h (.ref c) A outer s H vs Q E (hr.deeper _) K9;have I0:Inv (vW CX0 P w K mg base N qual (qd st) f (.ref c) A outer s H E) [] (yX N vs) H s1:=qaV S hr.hd e0 hl r x;have I:Inv (vW CX0 P w K mg base N qual (qd st) f (.ref c) A outer s H E).nox [] (yX N vs) H s1:=I0.wish _;rw[t9];refine Qq (Q:=λ fl s'=>∃ u,fl=.ret u/\CE outer P w H s Q u s') (E:=λ _ _=>False) ?_ (λ fl s' hs=>?_) λ e s' hs=>False.elim hs
 ·refine Ua (thn (ht [] s1 (yX N vs) H _ I aE) λ fl s2 q=>?_);cases fl with
  |ret v=>obtain⟨_,_,_,_,_,q⟩:=q;exact False.elim q
  |brk=>obtain⟨_,_,_,q⟩:=q;exact False.elim q
  |cont=>obtain⟨_,_,_,q⟩:=q;exact False.elim q
  |next =>
   obtain⟨σ1,H1,I1,v1,v2,e1,e2,T1,post⟩:=q;refine Ua ?_;refine qhC I1 rfl C B T1 (hcl s.heap.objs.size (.ref c)) (hq s.heap.objs.size (.ref c)) S.nd hi hx wF K0 (ha _) λ f' c' H' s3 I3 g3 nf ef ec T3=>?_
   refine Ua (wpAny_Return_some ?_);have hil:i < σ1.length:=by rw[I1.len];exact(Xl.mp hi).1
   have hv:Vis (qd st) name:=.inl hx;refine thn (qcF (X:=(vW CX0 P w K mg base N qual (qd st) f (.ref c) A outer s H E).nox) hi hv M0 wI [] s3 _ H' (λ v H4=>v=.ref f'/\H4=H') I3 ⟨.ref f',X8 hil,rfl,rfl⟩) λ u s4 q4=>?_
   obtain⟨v,H4,I4,rv,rfl,rfl⟩:=q4;refine⟨u,rfl,?_⟩;have cells:∀ y a,List.lookup y [(x2,s.heap.objs.size+2),(x1,s.heap.objs.size+1)]=some a->(vW CX0 P w K mg base N qual (qd st) f (.ref c) A outer s H E).nox.env.cells.lookup y=some a:=λ y a q=>by
    show(cellsFrom (s.heap.objs.size+1) (qd st).names []).lookup y=_
    rw[cU];exact q
   have l2:List.lookup x2 [(x2,s.heap.objs.size+2),(x1,s.heap.objs.size+1)]=some (s.heap.objs.size+2):=by rw[Z2];simp
   have l1:List.lookup x1 [(x2,s.heap.objs.size+2),(x1,s.heap.objs.size+1)]=some (s.heap.objs.size+1):=by
    rw[Z2,show(x1 == x2)=false by simpa using fJ,Z2];simp
   have xD:=I4.freeC x1 _ (cells x1 _ l1);have fr2:=I4.freeC x2 _ (cells x2 _ l2);have got:∀(j:Nat)(y:Str)(v:V)(a:Addr),N[j]?=some y->σ1[j]?=some (some v)->j≠i->(qd st).names.lookup y=some .cell->List.lookup y [(x2,s.heap.objs.size+2),(x1,s.heap.objs.size+1)]=some a->∃ u,qF v u/\s4.heap.IsCell a (some u):=λ j y v a hj hs nj hk hl=>by
    obtain⟨m,hn,uO⟩:=I4.loc;obtain⟨u,r,l⟩:=uO j y v hj (by rw[Yc (Q2 nj)];exact hs) (.inr (.inl hk));rcases l with⟨q,_⟩|⟨_,a',e',z⟩
    ·have q:(qd st).names.lookup y=some .local:=q;rw[hk] at q;cases q
    ·rw[cells y a hl] at e';cases e'
     exact⟨u,r,z⟩
   obtain⟨u1,r1,z1⟩:=got i1 x1 v1 _ hi1 e1 n1 hx1 l1;obtain⟨u2,r2,z2⟩:=got i2 x2 v2 _ hi2 e2 n2 bG l2;have bO:=I4.hok.track xD (qbe (P:=P) (w:=w) (H:=upd H4 (s.heap.objs.size+1) (zw (s.heap.objs.size+1) v1)) r1 z1);have cH:s.heap.objs.size+2≠s.heap.objs.size+1:=Z4 _;have gL:upd H4 (s.heap.objs.size+1) (zw (s.heap.objs.size+1) v1) (s.heap.objs.size+2)=none:=by rw[qg cH];exact fr2
   have bM:=bO.track gL (qbe (P:=P) (w:=w) (H:=upd (upd H4 (s.heap.objs.size+1) (zw (s.heap.objs.size+1) v1)) (s.heap.objs.size+2) (zw (s.heap.objs.size+2) v2)) r2 z2);have un2:=(I4.base.track (o:=zw (s.heap.objs.size+1) v1) (a:=s.heap.objs.size+1) (Qn _) xD).track (o:=zw (s.heap.objs.size+2) v2) (a:=s.heap.objs.size+2) (J7 (Qn _) (Qn _)) gL;have dA:∀ b o,H4 b=some o->upd (upd H4 (s.heap.objs.size+1) (zw (s.heap.objs.size+1) v1)) (s.heap.objs.size+2) (zw (s.heap.objs.size+2) v2) b=some o:=λ b o q=>by
    rw[qg (qr q fr2),qg (qr q xD)];exact q
   have T5:Tab (upd (upd H4 (s.heap.objs.size+1) (zw (s.heap.objs.size+1) v1)) (s.heap.objs.size+2) (zw (s.heap.objs.size+2) v2)) Pt pos q2:=by
    rcases T3 with q|⟨c3,q,q'⟩
    ·exact .inl (dA _ _ q)
    ·exact .inr ⟨c3,dA _ _ q,dA _ _ q'⟩
   have dR:∀(y:Str)(a:Addr),List.lookup y [(x2,s.heap.objs.size+2),(x1,s.heap.objs.size+1)]=some a->H1 a=none:=λ y a q=>I1.freeC y a (cells y a q)
   refine⟨.ref f',_,I4.os,I4.bare,un2,bM,rv,post f' c' (s.heap.objs.size+1) (s.heap.objs.size+2) _ (λ b o n q=>dA b o (g3 b o n q)) nf (dR _ _ l1) (dR _ _ l2) (Q2 cH) (dA _ _ ef) (dA _ _ ec) ?_ qe T5⟩;rw[qg (Q2 cH)];exact qe
 ·obtain⟨u,rfl,q⟩:=hs;exact q
def qfw(H:Hp)(f:Addr):Prop:=∃ name qual params body scope cl c,H f=some (qaM f name qual params body scope cl c)
theorem qfw.at{P:Program}{w:World}{H:Hp}{h:Heap}{f:Addr}(x:qfw H f)(ok:HOk P w H h):PySem.W.FnAt f h:=by
 obtain⟨n,q,p,b,sc,cl,c,e⟩:=x;obtain⟨⟨doc,pm,ctv,e⟩,_⟩:=ok f _ e;exact⟨_,_,_,_,e⟩
def ClR(X:Cx)(r:Addr->List V->Hp->VK->Prop):Prop:=
 ∀(pins:List (Addr×Obj))(s:Shared)(σ:St)(H:Hp)(f:Addr)(us:List Value)(vs:List V)(Q:VK),Inv X pins σ H s->qI vs us->r f vs H Q->wpAny (model X.prog X.w) X.A (call (.ref f) us) (EP X pins σ Q) X.xe s
def qhD(i:Nat)(r:Addr->List V->Hp->VK->Prop)(t:TA):TE:=λ σ H Q=>∃ f,σ[i]?=some (some (.ref f))/\qfw H f/\t σ H λ vs H1=>qfw H1 f/\r f vs H1 Q
theorem qay{X:Cx}(i:Nat){x:Str}{p pos:Pos}{e:Expr}{es:List Expr}{t:TA}{r:Addr->List V->Hp->VK->Prop}(hr:ClR X r)(ha:PA X (e::es) t)(hN:X.N[i]?=some x:=by rfl)(hv:Vis X.env.scope x:=by first | exact Or.inl rfl | exact Or.inr (Or.inl rfl) | exact Or.inr (Or.inr rfl))(M0:(x == ("__debug__":Str))=false:=by decide)(A4:(x == ("__classdict__":Str))=false:=by decide)(he:starEach (e::es) X.env=(false,eval e X.env)::starEach es X.env:=by rfl)(u0:(backTo pos (starEach es X.env)).any (·.1)=false:=by rfl):
  PE X (.Call (.Name x p) (e::es) [] pos) (qhD i r t):=by
 intro pins s σ H Q I h;obtain⟨f,e1,hf,q⟩:=h;refine Zb (thn (qcF hN hv M0 A4 pins s σ H (λ v H1=>v=.ref f/\H1=H) I ⟨_,e1,rfl,rfl⟩) λ u s1 q1=>?_);obtain⟨v,H1,I1,rv,rfl,rfl⟩:=q1;obtain rfl:u=Value.ref f:=rv;refine W.callWith_F (hf.at I1.hok) (thn (ha pos pins s1 σ H1 _ I1 q) λ us s2 ⟨vs,H2,I2,r2,wC,q2⟩=>⟨wC.at I2.hok,?_⟩) he u0;exact hr pins s2 σ H2 f us vs Q I2 r2 q2
theorem qhE{X:Cx}{pins:List (Addr×Obj)}{σ:St}{H:Hp}{s:Shared}{Q:VK}{f:Addr}{us:List Value}(I:Inv X pins σ H s)(h:codeAny (model X.prog X.w) X.A (.call (.ref f) ⟨us,[]⟩) (CR CX0 X.stack X.prog X.w H s Q E0) s):wpAny (model X.prog X.w) X.A (call (.ref f) us) (EP X pins σ Q) X.xe s:=by
 refine wpAny_call (Qi h λ r s' hq=>?_);cases r with
 |error e=>exact False.elim hq
 |ok fl =>
  cases fl with
  |ret u=>exact I.after hq
  |next=>exact False.elim hq
  |brk=>exact False.elim hq
  |cont=>exact False.elim hq
def qin(H:Hp)(Pt:Addr):Prop:=∀ b,b≠Pt->H b=none∨∃ o xs,H b=some (.frz o (.lst xs))
theorem qeo{P:Program}{w:World}{K:W.Frag}{mg mb:Str->Option Value}{CX:CXT}{k:Nat}{fa a c Pt:Addr}{fd:FuncData}{x:Str}{sp:Sp}{s₁:Shared}{vs:List Value}{ns:List Int}(KX:K.In s₁.heap)(hns:s₁.heap.Ns mainGlobals mg)(hb:s₁.heap.Ns builtinsNs mb)(V2:∀ x:Str,x≠"__name__"->mb x=bootBuiltins x)(uQ:s₁.heap.NoLimit)(hg:s₁.gens=#[])(hC:PySem.W.CodeHd s₁.heap c Pt)(hP:s₁.heap.get? Pt=some (W.tabObj #[]))(hB:qaN s₁.heap mg)(hKT:W.noTabs K=true)(ha:s₁.heap.get? a=some { cls:=.type "list",data:=.seq vs.toArray })(hi:IntsAre vs ns)(hl:ns.length<=sizeLine)(hr:Room k callerA)(F:∀ base:Heap,K.In base->base.Ns mainGlobals mg->PySem.W.CodeHd base c Pt->qaN base mg->FnOk P w K mg base CX k fa fd [x] sp)(fW:∀(s:Shared)(u:Value),BindsTo s fd ⟨[u],[]⟩ [(x,u)])(K9:∀ H:Hp,H Pt=some (.tbl #[])->SqL K H a (ns.map V.int)->sp [.ref a] H (λ v _=>v=.bl true) λ _ _ _=>False)(wX:∀ H e s',CX [] H s₁ (λ _ _ _=>False) e s'->False):
  codeAny (model P w) callerA (.call (.ref fa) ⟨[.ref a],[]⟩) (λ r s'=>r=.ok (.ret (.bool true))/\OldK s₁.heap s'.heap/\s'.os=s₁.os/\AllBare s'.gens) s₁:=by
 have rv:=qa1 hi;have sQ:=hi.length;have haP:a≠Pt:=λ q=>by rw[q,hP] at ha;cases ha
 have hKP:K.lookup Pt=none:=by
  cases q:K.lookup Pt with
  |none=>rfl
  |some o =>
   have e:=KX _ _ q;rw[hP] at e;cases e;have h2:=Z1.mp hKT (Pt,W.tabObj #[]) (W.mem_of_lookupK q);exact absurd (show false=true from h2) Y2
 have iC:∀ H:Hp,qin H Pt->H Pt=some (.tbl #[])->SqL K H a (ns.map V.int)->HOk P w H s₁.heap->(∀ b,H b≠none->b=a∨b=Pt)->(H a≠none->K.lookup a=none) ->
   codeAny (model P w) callerA (.call (.ref fa) ⟨[.ref a],[]⟩) (λ r s'=>r=.ok (.ret (.bool true))/\OldK s₁.heap s'.heap/\s'.os=s₁.os/\AllBare s'.gens) s₁:=by
  intro H hO hT hS hok hA hK;have u9:∀{b:Addr}{o:Obj},s₁.heap.get? b=some o->H b=none->(kw s₁.heap H).get? b=some o:=λ e n=>qez e n
  have B8:∀{b:Addr}{o:Obj},s₁.heap.get? b=some o->o≠{ cls:=.type "list",data:=.seq vs.toArray }->o≠W.tabObj #[]->H b=none:=λ{b o} e n1 n2=>by
   cases q:H b with
   |none=>rfl
   |some u =>
    rcases hA b (by rw[q];simp) with z|z
    ·subst z;rw[ha] at e;cases e;exact absurd rfl n1
    ·subst z;rw[hP] at e;cases e;exact absurd rfl n2
  have lD:∀{b:Addr}{m:Str->Option Value},s₁.heap.Ns b m->(kw s₁.heap H).Ns b m:=λ{b m} ⟨o,es,ep,e,d,r⟩=>⟨o,es,ep,u9 e (B8 e (λ z=>by rw[z] at d;cases d) (λ z=>by rw[z] at d;cases d)),d,r⟩
  have hKb:K.In (kw s₁.heap H):=λ b o e=>u9 (KX b o e) (by
   cases q:H b with
   |none=>rfl
   |some u =>
    rcases hA b (by rw[q];simp) with z|z
    ·subst z;rw[hK (by rw[q];simp)] at e;cases e
    ·subst z;rw[hKP] at e;cases e)
  have hCb:PySem.W.CodeHd (kw s₁.heap H) c Pt:=by
   obtain⟨o,vs',xM,tf,gP,tg,inF,nL,tt,e1,r1,r2,r3⟩:=hC;exact⟨o,vs',xM,tf,gP,tg,inF,nL,tt,u9 e1 (B8 e1 (λ z=>by rw[z] at r1;injection r1 with r1;exact absurd r1 (by decide)) (λ z=>by rw[z] at r1;cases r1)),r1,r2,r3⟩
  have hBb:qaN (kw s₁.heap H) mg:=by
   obtain⟨bm,ob,b1,b2,b3,b4,b5,b6⟩:=hB;exact⟨bm,ob,b1,b2,u9 b3 (B8 b3 (λ z=>by rw[z] at b4;injection b4 with b4;exact absurd b4 (by decide)) (λ z=>by rw[z] at b4;cases b4)),b4,b5,b6⟩
  have hM:Mod K mg (kw s₁.heap H):=⟨hKb,lD hns,⟨mb,lD hb,V2⟩,let ⟨mc,h1,h2⟩:=uQ;⟨mc,lD h1,h2⟩⟩;have e0:Env0 P w K mg (kw s₁.heap H) callerA [] s₁ H:=⟨rfl,hM,λ b o e=>qfZ e,Nat.le_of_eq (qdQ _ _),trivial,λ b hb=>absurd (show b∈([]:List Addr) from hb) (by simp),hok,.of_eq hg⟩;refine Qi ((F _ hKb (lD hns) hCb hBb).run callerA [] s₁ H ⟨[.ref a],[]⟩ [.ref a] [.ref a] _ _ hr e0 (fW s₁ (.ref a)) (.cons rfl .nil) (K9 H hT hS)) λ r s' h=>?_
  cases r with
  |error e=>exact(wX H e s' h).elim
  |ok fl =>
   cases fl with
   |next=>exact False.elim h
   |brk=>exact False.elim h
   |cont=>exact False.elim h
   |ret u =>
    obtain⟨v,H',os,bare,un,T9,r',q⟩:=h;have q':v=.bl true:=q;subst q';obtain rfl:u=Value.bool true:=r';obtain⟨more,z⟩:=un.tbls Pt _ hT;have hP':s'.heap.get? Pt=some (W.tabObj (#[]++more)):=T9 Pt _ z;have keep:∀ b o,b≠Pt->s₁.heap.get? b=some o->s'.heap.get? b=some o:=λ b o n e=>by
     cases q:H b with
     |none=>exact un.keep b o e q (by intro z;exact absurd (show b∈([]:List Addr) from z) (by simp)) (by simp)
     |some u =>
      rcases hO b n with z|⟨ob,xs,z⟩
      ·rw[q] at z;cases z
      ·have z2:=un.frzs b ob _ z;obtain⟨e1,_⟩:=hok b _ z;obtain⟨e2,_⟩:=T9 b _ z2;rw[e] at e1;cases e1;exact e2
    refine⟨rfl,⟨λ b o e=>?_,λ b o e=>?_⟩,os,bare⟩
    ·by_cases n:b=Pt
     ·subst n;rw[hP] at e;cases e;exact .inr (.inl ⟨(hC.tab hP).isCodeTable,rfl,#[],_,rfl,hP'⟩)
     ·exact .inl (keep b o n e)
    ·by_cases n:b=Pt
     ·subst n;exact⟨_,hP'⟩
     ·exact⟨o,keep b o n e⟩
 have okP:∀ H:Hp,qQ P w H s₁.heap Pt (.tbl #[]):=λ H=>hP
 cases hk:K.lookup a with
 |some o =>
  have e:=KX a o hk;rw[ha] at e;cases e
  refine iC (λ b=>if b=Pt then some (.tbl #[]) else none) (λ b n=>.inl (Q8 n)) (Q7 rfl) (.inr ⟨_,vs.toArray,_,hk,rfl,rfl,rfl,by rw[Zg,sQ];exact hl,by simpa using rv⟩) (λ b u z=>?_) (λ b z=>?_) λ z=>absurd (Q8 haP) z
  ·by_cases hb:b=Pt
   ·have z':=(Q7 hb).symm.trans z;cases z';subst hb;exact okP _
   ·have z':=(Q8 hb).symm.trans z;cases z'
  ·by_cases hb:b=Pt
   ·exact .inr hb
   ·exact absurd (Q8 hb) z
 |none =>
  refine iC (λ b=>if b=a then some (.frz { cls:=.type "list",data:=.seq vs.toArray } (.lst (ns.map V.int))) else if b=Pt then some (.tbl #[]) else none) (λ b n=>?_) ((Q8 (Q2 haP)).trans (Q7 rfl)) (.inl (.inr ⟨{ cls:=.type "list",data:=.seq vs.toArray },Q7 rfl⟩)) (λ b u z=>?_) (λ b z=>?_) λ _=>hk
  ·by_cases hb:b=a
   ·exact .inr ⟨_,_,Q7 hb⟩
   ·exact .inl ((Q8 hb).trans (Q8 n))
  ·by_cases hb:b=a
   ·have z':=(Q7 hb).symm.trans z;cases z'
    subst hb;exact⟨ha,by rw[Ul];exact hl,vs,_,rv,ha⟩
   ·have z':=(Q8 hb).symm.trans z;by_cases G1:b=Pt
    ·have nE:=(Q7 G1).symm.trans z';cases nE;subst G1;exact okP _
    ·have nE:=(Q8 G1).symm.trans z';cases nE
  ·by_cases hb:b=a
   ·exact .inl hb
   ·by_cases G1:b=Pt
    ·exact .inr G1
    ·exact absurd ((Q8 hb).trans (Q8 G1)) z
theorem walk_ofT{l:W.OpenLaw}{n k:Nat}{q:Program}{A8:List Str}{XP:(Str->Option Value)->Heap->Prop}{YP:World->Heap->Prop}{d d2:DefRec}{K:Params->W.Frag}{CX:World->CXT}{sp:World->Addr->Sp}{x mk:Str}(hn:l.most=some n)(cO:n<=sizeLine)(fU:d.params.defaults=[])(hr:Room k callerA)(hY:∀(w:World)(h:Heap),YP w h->(K w.params).In h)(O7:(recsOf q).find? (λ e=>e.name == mk)=some d2)(F:∀(w:World)(mg:Str->Option Value)(fa:Addr)(h:Heap),(K w.params).In h->h.Ns mainGlobals mg->mg d.name=some (.ref fa) ->
   ∃(fd:FuncData)(c Pt:Addr),W.tabIn (K w.params) mk=some (c,Pt)/\W.noTabs (K w.params)=true/\(∀(s:Shared)(u:Value),BindsTo s fd ⟨[u],[]⟩ [(x,u)]) /\
    ∀ base:Heap,(K w.params).In base->base.Ns mainGlobals mg->PySem.W.CodeHd base c Pt->qaN base mg->FnOk l.prog w (K w.params) mg base (CX w) k fa fd [x] (sp w Pt))(K9:∀(w:World)(Pt:Addr)(H:Hp)(a:Addr)(ns:List Int),ns.length<=n->H Pt=some (.tbl #[])->SqL (K w.params) H a (ns.map V.int)->sp w Pt [.ref a] H (λ v _=>v=.bl true) λ _ _ _=>False)(wX:∀(w:World)(H:Hp)(s:Shared)(e:Value)(s':Shared),CX w [] H s (λ _ _ _=>False) e s'->False):
  PySem.W.WalkO q A8 XP YP l.row.toRowW d [] (λ f vs=>PySem.call f vs):=by
 refine Att.attach_call hn fU λ w s₀ s₁ mg mb fa o pm cd doc a vs ns G Y ho hd A4 fL bP O6 d5 hg=>?_
 have KX:=hY w _ Y;obtain⟨fd,c,Pt,ht,hno,hb,hF⟩:=F w mg fa _ KX G.T.g fL;obtain⟨hC,hP⟩:=W.tab_of G.T KX O7 ht;have hB:qaN s₁.heap mg:=by
  obtain⟨bm,ob,b1,b2,b3,b4,b5,b6⟩:=G.T.bmain;exact⟨bm,ob,b1,b2,b3,b4,b5,b6⟩
 exact qeo KX G.T.g G.T.b G.T.builtins G.T.nolimit hg hC hP hB hno bP O6 (J7 d5 cO) hr hF hb (λ H hO hS=>K9 w Pt H a ns d5 hO hS) λ H e s'=>wX w H s₁ e s'
theorem qfx{K:W.Frag}{x:Str}{f c Pt:Addr}{oc:Value}{od:Option Addr}{fd:FuncData}{osl:Array (Option Value)}{rY:Value}{rJ:Option Addr}{vs:Array Value}{nV:Array (Option Value)}(h1:W.nsIn K mainGlobals x=some (some (.ref f)))(h2:K.lookup f=some ⟨oc,od,.func fd,osl⟩)(h3:fd.code=.ref c)(h4:K.lookup c=some ⟨rY,rJ,.fields vs,nV⟩)(h5:vs[11]?=some (.ref Pt)):W.tabIn K x=some (c,Pt):=by
 unfold W.tabIn;rw[h1];simp only[h2,h3,h4,h5]
end L2
namespace Law
open PySem L2 Fs
def top(i:Nat):Stmt:=PySem.Challenge.pw_fillsay_k51_free_letters_and_fillers.main.body.getD i (.Pass ⟨0,0,0,0⟩)
abbrev zD:Stmt:=top 1
abbrev zK:Stmt:=top 2
abbrev zX:Stmt:=top 3
abbrev yu:Stmt:=top 4
abbrev za:Stmt:=top 5
abbrev yJ:Stmt:=top 6
abbrev y6:Stmt:=top 8
abbrev zE:Stmt:=top 9
abbrev qW:Stmt:=top 10
abbrev yw:Stmt:=top 13
abbrev yK:Stmt:=top 14
abbrev zL:Stmt:=top 16
abbrev yx:Stmt:=top 17
abbrev zY:Stmt:=top 18
abbrev zZ:Stmt:=top 19
abbrev zM:Stmt:=top 20
abbrev zq:Stmt:=top 21
abbrev ya:Stmt:=top 22
abbrev qX:Stmt:=top 23
abbrev zN:Stmt:=top 24
abbrev yy:Stmt:=top 25
abbrev vy:Stmt:=top 26
structure Txt(mg:Str->Option Value):Prop where
 len:mg "len"=none
 list:mg "list"=none
 sorted:mg "sorted"=none
 set:mg "set"=none
 tuple:mg "tuple"=none
 dict:mg "dict"=none
 zip:mg "zip"=none
 reversed:mg "reversed"=none
 range:mg "range"=none
 enumerate:mg "enumerate"=none
 all:mg "all"=none
 min:mg "min"=none
 max:mg "max"=none
 isinstance:mg "isinstance"=none
 tup:mg "str"=none
 bool:mg "bool"=none
theorem vA:bootBuiltins "list"=some (.type "list"):=by decide +kernel
theorem qaz:bootBuiltins "tuple"=some (.type "tuple"):=by decide +kernel
theorem qc6:bootBuiltins "set"=some (.type "set"):=by decide +kernel
theorem qdF:bootBuiltins "dict"=some (.type "dict"):=by decide +kernel
theorem y7:bootBuiltins "sorted"=some (.builtin "sorted"):=by decide +kernel
theorem qhF:bootBuiltins "all"=some (.builtin "all"):=by decide +kernel
theorem qhG:bootBuiltins "min"=some (.builtin "min"):=by decide +kernel
section
variable {P:Program}{w:World}{K:W.Frag}{mg:Str->Option Value}{base:Heap}
def qcx(K:W.Frag)(n:Nat):Sp:=λ vs H Q _=>∃(a:Addr)(t:List Bool)(m:Nat),vs=[.ref a]/\SqL K H a (t.map V.bl)/\t.length=2^m/\m<n/\m<=9 /\
 ∀ r H',ql H H'->H' r=some (.lst ((qR m t).map V.bl))->Q (.ref r) H'
theorem jQ:FnScope ["truths","half","low","high"] ["truths"] (qd yJ):=scF
theorem jR{m:Nat}(h:m<=9):2^m<=512:=by
 have:2^m<=2^9:=Yk (by decide) h
 exact this
theorem qgU:(["left","right"]:List Str).Nodup:=by decide +kernel
theorem qcy{n:Nat}{f:Addr}{fd:FuncData}(F:Fun K "summed" "summed" yJ f fd)(T:Txt mg)(bF:jt K fd ["truths"] [])(mF:mg "summed"=some (.ref f))(G:FnOk P w K mg base CX0 n f fd ["truths"] (qcx K n)):FnOk P w K mg base CX0 (n+1) f fd ["truths"] (qcx K (n+1)):=by
 refine F.okd jQ (λ cdv A outer s H vs Q E hr h=>?_);obtain⟨a,t,m,rfl,hS,ht,hm,h9,q⟩:=h;have h512:=jR h9;refine⟨_,qf (jU (zO vd (qG zl rfl T.len Ji (qa (pv 0) qc)) qh (zf _)) (qm (qN (q9 yp rfl T.list vA (qa (pv 0) qc)))) yb)
  (qf (qt (i:=1) jQ.nd rfl (Or.inl rfl) (qx jc (qG zl rfl T.len Ji (qa (pv 0) qc)) qh))
  (qf (qt (i:=2) jQ.nd rfl (Or.inl rfl) (zk G hr rfl mF F.kp bF .nil yE (qa (qb0 qdy (pv 0) qdw (qdx (pv 1))) qc)))
  (qf (qt (i:=3) jQ.nd rfl (Or.inl rfl) (zk G hr rfl mF F.kp bF .nil yE (qa (qb0 qdy (pv 0) (qdx (pv 1)) qdw) qc)))
  (qm (qN (qx qeP (pv 2) (qca (n:=2) (csc (NY:=["left","right"]) (o:=2) (caps:=[]) [] rfl (by simp) yY rfl) rfl
   (qcP rfl T.zip (qa (pv 2) (qa (pv 3) qc)))
   (λ C s H fp pins=>zc (qp (i:=0) qgU rfl (Or.inl rfl)) (zc (qp (i:=1) qgU rfl (Or.inl rfl)) jb)) (λ _=>rfl) (λ _=>rfl)
   (λ C s H fp pins=>zd) (λ C s H fp pins=>yo qgQ (pv 0) (pv 1) (zf _))))))))),?_⟩
 have hl:(t.map V.bl).length=2^m:=by rw[Ul,ht]
 refine⟨_,rfl,a,_,rfl,.inl hS,rfl,_,rfl,?_⟩;refine qb3 (λ c=>?_) (λ c=>?_)
 ·have c':V.int (((t.map V.bl).length:Nat):Int)=V.int 1:=Zx c;rw[hl] at c';have c2:((2^m:Nat):Int)=1:=by injection c'
  have hm0:m=0:=by
   cases m with
   |zero=>rfl
   |succ k=>rw[Qc] at c2;omega
  subst hm0;refine⟨_,rfl,a,_,rfl,.inl hS,λ r N0=>?_⟩;exact q r _ (ql.up N0) qe
 ·have c':¬ V.int (((t.map V.bl).length:Nat):Int)=V.int 1:=of_decide_eq_false (Bool.eq_false_iff.mpr c);rw[hl] at c';obtain⟨k,rfl⟩:∃ k,m=k+1:=by
   cases m with
   |zero=>exact absurd rfl c'
   |succ k=>exact⟨k,rfl⟩
  have aG:2^(k+1)=2^k+2^k:=by rw[Qc];omega
  have h1:(t.take (2^k)).length=2^k:=by rw[Zy];omega
  have h2:(t.drop (2^k)).length=2^k:=by rw[Z0];omega
  have hJ:(((t.map V.bl).length:Nat):Int) / 2=((2^k:Nat):Int):=by rw[hl];omega
  refine⟨_,rfl,a,_,rfl,.inl hS,_,_,rfl,rfl,⟨by decide,by decide⟩,?_⟩;dsimp only;rw[hJ];refine⟨_,rfl,_,rfl,_,rfl,a,_,rfl,hS,λ p1 G9=>?_⟩;have e1:qb1 (t.map V.bl) none (some ((2^k:Nat):Int))=(t.take (2^k)).map V.bl:=by
   unfold qb1;rw[HT.sIx_nat,hl,aG];show((t.map V.bl).drop 0).take (min (2^k) (2^k+2^k)-0)=_
   rw[Jf,Nat.sub_zero,Uu (by omega),List.map_take]
  rw[e1];refine⟨p1,t.take (2^k),k,rfl,SqL.of qe,h1,by omega,by omega,λ r1 H1 g1 e1=>?_⟩;have g1':ql H H1:=(ql.up G9).trans g1;refine⟨_,rfl,_,rfl,_,rfl,a,_,rfl,g1'.seq hS,λ p2 uC=>?_⟩;have e2:qb1 (t.map V.bl) (some ((2^k:Nat):Int)) none=(t.drop (2^k)).map V.bl:=by
   unfold qb1;rw[HT.sIx_nat,hl,aG,Uu (by omega)];show((t.map V.bl).drop (2^k)).take (2^k+2^k-2^k)=_
   rw[<- List.map_drop,XC (by rw[Ul,h2];omega)]
  rw[e2];refine⟨p2,t.drop (2^k),k,rfl,SqL.of qe,h2,by omega,by omega,λ r2 H2 g2 e3=>?_⟩;have cX:ql H1 H2:=(ql.up uC).trans g2;have f1:H2 r1=some (.lst ((qR k (t.take (2^k))).map V.bl)):=cX _ _ e1;have l1:=qB k _ h1;have l2:=qB k _ h2;refine⟨_,rfl,_,rfl,_,rfl,r1,r2,rfl,⟨_,SqL.of f1⟩,⟨_,SqL.of e3⟩,?_⟩;refine qcT (SqL.of f1) (SqL.of e3) (by rw[Ul,Ul,l1,l2]) (λ i=>((List.zipWith (· != ·) (qR k (t.take (2^k))) (qR k (t.drop (2^k)))).take i).map V.bl) rfl (λ i hi=>?_) ?_ ?_
  ·rw[Ul,Zy];rw[Ul,l1] at hi;exact qZ (by omega)
  ·intro i x y H3 D Y Z hx hy hD L4 sm hY hZ;obtain⟨b1,M1,rfl⟩:=qj hx;obtain⟨b2,G1,rfl⟩:=qj hy;refine⟨_,_,rfl,_,_,rfl,rfl,⟨rfl,rfl⟩,?_⟩;refine⟨_,rfl,_,rfl,rfl,?_⟩;rw[qgh];exact hY _ _ L4 sm (yh (j8 M1 G1))
  ·intro D H3 hD sm L4;have e4:(((List.zipWith (· != ·) (qR k (t.take (2^k))) (qR k (t.drop (2^k)))).take ((qR k (t.take (2^k))).map V.bl).length).map V.bl)=(List.zipWith (· != ·) (qR k (t.take (2^k))) (qR k (t.drop (2^k)))).map V.bl:=by
    rw[XC (by rw[Yq,Ul];omega)]
   rw[e4] at L4;refine⟨r1,D,_,_,rfl,rfl,sm _ _ f1,L4,?_,λ r3 tZ=>?_⟩
   ·rw[Ul,Ul,Yq,l1,l2];exact qP (by omega)
   ·refine q r3 _ ((g1'.trans cX).trans (sm.to tZ)) ?_;rw[qe,<- Ur];rfl
theorem qbf{f:Addr}{fd:FuncData}(F:Fun K "summed" "summed" yJ f fd)(T:Txt mg)(bF:jt K fd ["truths"] [])(mF:mg "summed"=some (.ref f)):∀ n,FnOk P w K mg base CX0 n f fd ["truths"] (qcx K n)
 |0=>⟨λ vs H Q E h=>by obtain⟨_,_,_,_,_,_,h,_⟩:=h;exact absurd h (Nat.not_lt_zero _),λ A outer s H args us vs Q E _ _ _ _ h=>by obtain⟨_,_,_,_,_,_,h,_⟩:=h;exact absurd h (Nat.not_lt_zero _)⟩
 |n+1=>qcy F T bF mF (qbf F T bF mF n)
def km:Sp:=λ vs H Q _=>∃(ls:List Nat),vs=[vS ls]/\ls.length<=9/\∀ r H',ql H H'->H' r=some (.lst ((qT ls).map vS))->Q (.ref r) H'
theorem vB:FnScope ["letters","products","letter"] ["letters"] (qd za):=scF
theorem qio:(["product","letter"]:List Str).Nodup:=by decide +kernel
theorem qfy{k:Nat}{f:Addr}{fd:FuncData}(F:Fun K "products_over" "products_over" za f fd)(T:Txt mg):FnOk P w K mg base CX0 (k+1) f fd ["letters"] km:=by
 refine F.okd vB (λ cdv A outer s H vs Q E hr h=>?_);obtain⟨ls,rfl,h9,q⟩:=h;refine⟨_,qf (qt (i:=1) vB.nd rfl (Or.inl rfl) (zP (qa qH qc)))
  (qf (yA Ux rfl (qho rfl T.reversed (qa (pv 0) qc)) (qp (i:=2) vB.nd rfl (Or.inr rfl))
   (qm (qt (i:=1) vB.nd rfl (Or.inl rfl) (qx qeP (pv 1) (zu (csc (NY:=["product","letter"]) (o:=1) (caps:=[2]) ["letter"] rfl
    (by intro x hx;rw[Y9.mp hx];exact .inl rfl) (vI rfl rfl rfl yY) rfl) rfl
    (yP (pv 1)) (λ C s H fp pins=>qp (i:=0) qio rfl (Or.inl rfl)) (λ C s H fp pins=>zd) (λ C s H fp pins=>qx kC (pv 1) (pv 0)))))))
  (qm (qN (pv 1)))),?_⟩
 have hz:(qi ls).length=ls.length:=qJ ls;refine⟨qP (by show 1<=_;decide),λ p0 uE=>?_⟩;refine⟨_,rfl,_,rfl,by rw[hz];exact qP (by omega),?_⟩;refine qgf (λ i σ H1=>∃(r:Addr)(v:Option V),σ=[some (vS ls),some (.ref r),v]/\ql H H1/\H1 r=some (.lst ((qT (ls.drop (ls.length-i))).map vS))) ?_ ?_ ?_
 ·refine⟨p0,none,rfl,ql.up uE,?_⟩;rw[qe,Nat.sub_zero,List.drop_length];rfl
 ·rintro i σ H1 hi ⟨r,v,rfl,g1,e1⟩;rw[hz] at hi;have d4:ls.length-1-i<ls.length:=by omega
  have ev:qe4 (qi ls) i=vS [ls[ls.length-1-i]]:=by
   unfold qe4;rw[hz];show V.str ⟨#[ls.toArray.getD (ls.length-1-i) 0]⟩=V.str ⟨#[ls[ls.length-1-i]]⟩
   rw[Xe];simp[d4]
  have ed:ls.drop (ls.length-(i+1))=ls[ls.length-1-i]::ls.drop (ls.length-i):=by
   rw[show ls.length-(i+1)=ls.length-1-i by omega,Xq d4,show ls.length-1-i+1=ls.length-i by omega]
  rw[ev];have u0:(qT (ls.drop (ls.length-i))).length<=512:=by
   rw[qA,Z0];exact jR (by omega)
  refine⟨_,rfl,_,rfl,r,rfl,⟨_,SqL.of e1⟩,?_⟩;refine qbA (SqL.of e1) (λ j=>((((qT (ls.drop (ls.length-i))).map (ls[ls.length-1-i]::·)).take j).map vS)) rfl (λ j hj=>?_) ?_ ?_
  ·rw[Ul,Zy,Ul];exact qZ (by omega)
  ·intro j x H2 D Y Z hx hD o0 sm hY hZ;obtain⟨p,hp,rfl⟩:=qj hx;have hpl2:p.length<=9:=by
    have:=(zz.mp (Yd hp)).length_le
    rw[Z0] at this;omega
   refine⟨⟨rfl,rfl⟩,?_⟩;refine⟨_,rfl,_,rfl,_,_,rfl,rfl,by rw[qJ,qJ];exact qP (by simp;omega),?_⟩;rw[qa8];refine hY _ _ o0 sm ?_;exact yh (f:=vS) (by rw[Ze,hp];rfl)
  ·intro D H2 hD sm o0;rw[Ul,XC (by rw[Ul];exact Ql _)] at o0;refine⟨r,D,_,_,rfl,rfl,sm _ _ e1,o0,?_,λ r3 tZ=>?_⟩
   ·rw[Ul,Ul,Ul];exact qP (by omega)
   ·refine⟨r3,_,rfl,g1.trans (sm.to tZ),?_⟩;rw[qe,ed,qT,Ur]
 ·rintro σ H1 ⟨r,v,rfl,g1,e1⟩;rw[hz,Nat.sub_self,Jf] at e1;exact⟨_,rfl,q r H1 g1 e1⟩
def jS(K:W.Frag):Sp:=λ vs H Q _=>∃(a:Addr)(F:List Pr),vs=[.ref a]/\SqT K H a (F.map vS)/\F.flatten.length<=4000/\F.length<=2000/\(qb F).length<64/\∀ H',ql H H'->Q (vS (qb F)) H'
theorem qc7:FnScope ["form"] ["form"] (qd zD):=scF
theorem zb(l:List Nat):(l.map λ c=>[c]).flatten=l:=by
 induction l with
 |nil=>rfl
 |cons a l ih=>rw[Jv,Zh,ih];rfl
theorem qc8{k:Nat}{f:Addr}{fd:FuncData}(F:Fun K "letters_of" "letters_of" zD f fd)(T:Txt mg):FnOk P w K mg base CX0 (k+1) f fd ["form"] (jS K):=by
 refine F.okd qc7 (λ cdv A outer s H vs Q E hr h=>?_);obtain⟨a,F,rfl,hS,h4,h2,N3,q⟩:=h;refine⟨_,qm (qN (yQ XG XV XW yT qH (qa (qG (jW rfl) rfl T.sorted y7 (qa (q9 (kX rfl) rfl T.set qc6 (qa
  (yQ XG XV XW yT qH (qa (pv 0) qc)) qc)) qc)) qc))),?_⟩
 rw[zt] at hS;have hz:("":Str).length=0:=by decide
 refine⟨rfl,rfl,?_⟩;refine⟨_,rfl,_,a,F.map qi,rfl,rfl,.inr hS,?_,?_⟩
 ·rw[yj,hz];show F.flatten.length+_*0<=_;omega
 rw[yi];refine⟨F.flatten.map λ c=>qi [c],.inr ⟨_,rfl,rfl⟩,by rw[Ul];show _<4096;omega,λ l ys hl nd hm=>?_⟩;have aB:=yf (F.flatten.map λ c=>[c]);have aK:∀ x,x∈ys ↔ cs x∈jo (F.flatten.map λ c=>[c]):=λ x=>by
  rw[hm x,zA,Qd,Qd];constructor
  ·rintro⟨c,hc,rfl⟩;exact⟨c,hc,rfl⟩
  ·rintro⟨c,hc,e⟩;exact⟨c,hc,qbt e⟩
 have d5:ys.length=(qb F).length:=by
  rw[qad nd aB aK,<- (ye _).length_eq,zB,Ul]
 refine⟨l,ys,rfl,qe,by rw[d5];exact N3,λ l2 F0=>?_⟩;rw[qbB nd aB aK,zB,zt];refine⟨_,l2,((qb F).map λ c=>[c]).map qi,rfl,rfl,.inl (SqL.of qe),?_,?_⟩
 ·rw[yj,hz,zb];show _+_*0<=_;omega
 rw[yi,zb];exact q _ ((ql.up hl).to F0)
def kn(K:W.Frag):Sp:=λ vs H Q _=>∃(a:Addr)(F:List Pr)(ls:List Nat),vs=[.ref a,vS ls]/\SqT K H a (F.map vS)/\F.length<=2000/\ls.length<=9/\∀ r H',ql H H'->H' r=some (.lst ((qL F ls).map V.bl))->Q (.ref r) H'
theorem qcz:FnScope ["form","letters","standing"] ["form","letters"] (qd zX):=scF
theorem qi0:(["product"]:List Str).Nodup:=by decide +kernel
theorem qip:(["product","standing"]:List Str).Nodup:=by decide +kernel
theorem qfz(kvs:List (Key×V))(k k':Key)(v:V):(qY (zU kvs k v) k').isSome=((qY kvs k').isSome || decide (k=k')):=by
 rw[<- yD,<- yD];unfold zU;split
 ·rename_i h;rw[List.any_map];have e:((λ kv:Key×V=>decide (kv.1=k')) ∘ λ kv=>if kv.1=k then(kv.1,v) else kv)=λ kv=>decide (kv.1=k'):=by
   funext kv
   show decide ((if kv.1=k then(kv.1,v) else kv).1=k')=_
   split <;> rfl
  rw[e];by_cases hk:k=k'
  ·subst hk;rw[h];simp
  ·simp[hk]
 ·rw[List.any_append];simp
theorem qbg(k':Key):∀(ls d6:List (Key×V)),(qY (qu d6 ls) k').isSome=((qY d6 k').isSome || ls.any λ kv=>decide (kv.1=k'))
 | [],d6=>by simp[qu]
 |x::ls,d6=>by
  show(qY (qu (zU d6 x.1 x.2) ls) k').isSome=_
  rw[qbg k' ls,qfz,Jt,Bool.or_assoc]
theorem qbL(F:List Pr)(p:Pr):(qY (qu [] (kvK (F.map λ p=>(qi p,V.bl true)))) (.inr (qi p))).isSome=F.contains p:=by
 rw[qbg];show(false || _)=_
 rw[Ju];unfold kvK;rw[Qe,List.any_map,Uh,List.any_eq_true,XM];constructor
 ·rintro⟨q,hq,e⟩;have e:(Sum.inr (qi q):Key)=.inr (qi p):=Zx e;rw[<- yZ (Sum.inr.inj e)];exact hq
 ·intro hp;exact⟨p,hp,Jj rfl⟩
theorem qfA{f fp fs:Addr}{fd xP xO:FuncData}(F:Fun K "table_of" "table_of" zX f fd)(T:Txt mg)(Gp:Dp P w K mg base 1 fp xP ["letters"] km "products_over")(Gs:Dp P w K mg base 10 fs xO ["truths"] (qcx K 10) "summed"):FnOk P w K mg base CX0 11 f fd ["form","letters"] (kn K):=by
 refine F.okd qcz (λ cdv A outer s H vs Q E hr h=>?_);obtain⟨a,F,ls,rfl,hS,hF,h9,q⟩:=h;have hu:=jV hr;have bI:Room 1 _:=hr.mono (by decide);refine⟨_,qf (qt (i:=2) qcz.nd rfl (Or.inr rfl) (q9 (qck rfl) rfl T.dict qdF (qa (zu (csc (NY:=["product"]) (o:=1) (caps:=[]) [] rfl (by simp) yY rfl) rfl
   (qeF (pv 0)) (λ C s H fp pins=>qp (i:=0) qi0 rfl (Or.inl rfl)) (λ C s H fp pins=>zd) (λ C s H fp pins=>vF (qa (pv 0) (qa qaP qc)))) qc)))
  (qm (qN (zk Gs.g hr rfl Gs.m Gs.e Gs.b .nil yE (qa (zu (csc (NY:=["product","standing"]) (o:=1) (caps:=[2]) ["standing"] rfl
    (by intro x hx;rw[Y9.mp hx];exact .inl rfl) (vI rfl rfl rfl yY) rfl) rfl
   (yP (zk Gp.g bI rfl Gp.m Gp.e Gp.b .nil yE (qa (pv 1) qc))) (λ C s H fp pins=>qp (i:=0) qip rfl (Or.inl rfl)) (λ C s H fp pins=>zd) (λ C s H fp pins=>qg0 (qhd hu (pv 0) (pv 1)))) qc)))),?_⟩
 have mG:(F.map vS).length=F.length:=Ul _;refine⟨_,rfl,a,rfl,⟨_,hS⟩,?_⟩;refine yg (F.map vS).length (λ i ys H2=>∃ ps:List Addr,ys=ps.map V.ref/\Paired (λ a (kv:Str×V)=>H2 a=some (.tup [.str kv.1,kv.2])) ps ((F.take i).map λ p=>(qi p,V.bl true))) ?_ ?_ ?_ ?_ ?_
 ·intro D hD;exact⟨[],rfl,.nil⟩
 ·rintro i ys H2 hi ⟨ps,rfl,hp⟩
  have:=hp.length
  rw[Ul,Zy] at this;rw[Ul];rw[mG] at hi;exact qZ (by omega)
 ·rintro i ys H2 D Y Z hi hD o0 sm ⟨ps,rfl,hp⟩ hY hZ;rw[mG] at hi;refine⟨⟨_,_,sm.seqT hS,Xv (by rw[mG];exact hi)⟩,?_⟩;rintro x H' ⟨rfl,i5⟩;have ex:=i5 _ (sm.seqT hS);obtain⟨p,p6,rfl⟩:=qj ex;refine⟨⟨rfl,rfl⟩,?_⟩;refine⟨_,rfl,qP (by show 2<=_;decide),λ t ht=>?_⟩;have cV:D≠t:=qr o0 ht;refine hY _ _ (by rw[qg cV];exact o0) (sm.to ht) ⟨ps++[t],by rw[Ur];rfl,?_⟩;rw[qS p6,Ur];refine qE (L2.Paired.mapP hp λ b kv e=>?_) (.cons ?_ .nil)
  ·have wL:b≠D:=qey e o0 (by intro z;cases z);rw[qg wL,qg (qr e ht)];exact e
  ·rw[qg (Q2 cV),qe]
 ·intro H2 sm;exact⟨_,sm.seqT hS,Ql _⟩
 rintro D H2 ys hD sm o0 ⟨ps,rfl,hp⟩;rw[mG,Z8] at hp;refine⟨D,ps,_,rfl,SqL.of o0,L2.Paired.mapP hp λ b kv e=>SqT.of e,λ d hd=>?_⟩;have g3:ql H (upd H2 d (.dK (qu [] (kvK (F.map λ p=>(qi p,V.bl true)))))):=sm.to hd;refine⟨_,rfl,ls,rfl,h9,λ r1 H3 g4 e3=>?_⟩;have wE:H3 d=some (.dK (qu [] (kvK (F.map λ p=>(qi p,V.bl true))))):=g4 _ _ qe;have u0:(qT ls).length<=512:=by rw[qA];exact jR h9
 refine⟨r1,rfl,⟨_,SqL.of e3⟩,?_⟩;refine qbA (SqL.of e3) (λ j=>(((qT ls).map λ p=>F.contains p).take j).map V.bl) rfl (λ j hj=>?_) ?_ ?_
 ·rw[Ul,Zy,Ul];exact qZ (by omega)
 ·intro j x H4 D2 Y Z hx N2 mE iZ hY hZ;obtain⟨p,p6,rfl⟩:=qj hx;refine⟨⟨rfl,rfl⟩,?_⟩;refine⟨_,rfl,_,rfl,d,_,rfl,j2.k (k:=Sum.inr (qi p)) (iZ _ _ wE),?_⟩;rw[qbL];exact hY _ _ mE iZ (yh (f:=V.bl) (by rw[Ze,p6];rfl))
 ·intro D2 H4 N2 iZ mE;rw[Ul,XC (by rw[Ul];exact Ql _)] at mE;refine⟨D2,(qT ls).map λ p=>F.contains p,ls.length,rfl,SqL.of mE,by rw[Ul,qA],by omega,h9,λ r H5 g5 e5=>?_⟩;exact q r H5 (((g3.trans g4).trans iZ).trans g5) e5
def qc9(K:W.Frag):Sp:=λ vs H Q _=>∃(a:Addr)(t:List Bool)(ls:List Nat),vs=[vS ls,.ref a]/\SqL K H a (t.map V.bl)/\t.length=2^ls.length/\ls.length<=9/\ls.Nodup /\
 ∀ r H',ql H H'->H' r=some (.tup ((formOf ls t).map vS))->Q (.ref r) H'
theorem qdG:FnScope ["letters","table","products"] ["letters","table"] (qd yu):=scF
theorem qfB:(["product","stands"]:List Str).Nodup:=by decide +kernel
theorem qhH{α β:Type}{as:List α}{bs:List β}{i:Nat}{a:α}{b:β}(h1:as[i]?=some a)(h2:bs[i]?=some b):(as.zip bs)[i]?=some (a,b):=j8 h1 h2
theorem vU{ss:List Str}{F:List Pr}(h:ss.map V.str=F.map vS):(vk ss).map V.str=(srt F).map vS:=by
 have e:ss=F.map qi:=by
  rw[zt] at h;exact List.map_inj_right (λ a b e=>by injection e) |>.mp h
 subst e;unfold vk;rw[jj,zt]
theorem qgB{f fp fs:Addr}{fd xP xO:FuncData}(F:Fun K "form_of" "form_of" yu f fd)(T:Txt mg)(Gp:Dp P w K mg base 1 fp xP ["letters"] km "products_over")(Gs:Dp P w K mg base 10 fs xO ["truths"] (qcx K 10) "summed"):FnOk P w K mg base CX0 11 f fd ["letters","table"] (qc9 K):=by
 refine F.okd qdG (λ cdv A outer s H vs Q E hr h=>?_);obtain⟨a,t,ls,rfl,hS,ht,h9,nd,q⟩:=h;have bI:Room 1 _:=hr.mono (by decide);refine⟨_,qf (qt (i:=2) qdG.nd rfl (Or.inl rfl) (zk Gp.g bI rfl Gp.m Gp.e Gp.b .nil yE (qa (pv 0) qc)))
  (qm (qN (q9 yW rfl T.tuple qaz (qa (qG jE rfl T.sorted y7 (qa (qca (n:=2) (csc (NY:=["product","stands"]) (o:=2) (caps:=[]) [] rfl (by simp) yY rfl) rfl
   (qcP rfl T.zip (qa (pv 2) (qa (zk Gs.g hr rfl Gs.m Gs.e Gs.b .nil yE (qa (pv 1) qc)) qc)))
   (λ C s H fp pins=>zc (qp (i:=0) qfB rfl (Or.inl rfl)) (zc (qp (i:=1) qfB rfl (Or.inl rfl)) jb)) (λ _=>rfl) (λ _=>rfl)
   (λ C s H fp pins=>qbq (js (pv 1))) (λ C s H fp pins=>pv 0)) qc)) qc)))),?_⟩
 have u0:(qT ls).length<=512:=by rw[qA];exact jR h9
 refine⟨_,rfl,ls,rfl,h9,λ r1 H1 g1 e1=>?_⟩;refine⟨_,rfl,_,rfl,a,t,ls.length,rfl,g1.seq hS,ht,by omega,h9,λ r2 H2 g2 e2=>?_⟩;have f1:=g2 _ _ e1;have sl:=qB _ _ ht;refine⟨r1,r2,rfl,⟨_,SqL.of f1⟩,⟨_,SqL.of e2⟩,?_⟩;have pk:∀ i,((((qT ls).zip (qR ls.length t)).take i).filterMap λ x=>if x.2=true then some x.1 else none).length<=512:=λ i=>by
  refine J7 (List.length_filterMap_le _ _) ?_;rw[Zy,Uw];omega
 refine qcT (SqL.of f1) (SqL.of e2) (by rw[Ul,Ul,sl,qA]) (λ i=>((((qT ls).zip (qR ls.length t)).take i).filterMap λ x=>if x.2=true then some x.1 else none).map vS) rfl (λ i hi=>?_) ?_ ?_
 ·rw[Ul];exact qZ (J7 (pk i) (by decide))
 ·intro i x y H3 D Y Z hx hy hD L4 sm hY hZ;obtain⟨p,hp,rfl⟩:=qj hx;obtain⟨b,hb,rfl⟩:=qj hy;refine⟨_,_,rfl,_,_,rfl,rfl,⟨rfl,rfl⟩,?_⟩;refine⟨_,rfl,b,rfl,?_⟩;have ez:(((qT ls).zip (qR ls.length t)).take (i+1))=((qT ls).zip (qR ls.length t)).take i++[(p,b)]:=qS (qhH hp hb);cases b with
  |true =>
   refine qgd ?_;refine⟨_,rfl,hY _ _ L4 sm ?_⟩;rw[ez,XO,Ur];rfl
  |false =>
   refine vY ?_;refine hZ _ L4 sm ?_;rw[ez,XO,Ur];exact Ui _
 ·intro D H3 hD sm L4;rw[XC (by rw[Uw,Ul];omega)] at L4;have lQ:(zF ls (qR ls.length t)).length<=512:=J7 (jf _ _).length_le u0;have uJ:((zF ls (qR ls.length t)).map qi).Nodup:=Zk.mpr ((jg _ nd).imp λ{a b} o7 e=>o7 (yZ e));refine⟨D,(zF ls (qR ls.length t)).map qi,rfl,SqL.of (by rw[<- zt];exact L4),by rw[Ul];show _<4096;omega,uJ,λ l hl=>?_⟩;rw[vU (zt _).symm];refine⟨l,_,rfl,.inl ⟨SqL.of qe,λ r N0=>?_⟩⟩;exact q r _ (((g1.trans g2).trans (sm.to hl)).to N0) qe
theorem jJ{ls:List Nat}{i:Nat}(h:i<ls.length):sgn (qi ls) i=vS [ls[i]]:=by
 unfold sgn;show V.str ⟨#[ls.toArray.getD i 0]⟩=V.str ⟨#[ls[i]]⟩
 rw[Xe];simp[h]
section
variable {Γ:St->Hp->Prop}{t1 t2 t3:TE}{F G:List Pr}{ls:List Nat}{g:List Pr->List Pr->List Pr}{g1:List Pr->List Pr}
theorem qdH:([V.str ""]:List V)=([[]]:List Pr).map vS:=by
 have hz:("":Str)=qi []:=by decide +kernel
 rw[hz];rfl
end
def Scr(K:W.Frag)(H:Hp)(a:Addr)(ns:List Int):Prop:=SqL K H a (ns.map V.int)/\ns.length<=63
theorem Scr.mono{K:W.Frag}{H H':Hp}{a:Addr}{ns:List Int}(h:Scr K H a ns)(g:ql H H'):Scr K H' a ns:=⟨g.seq h.1,h.2⟩
theorem qdI{ns:List Int}{k:Int}(h0:0<=k)(h:k<(ns.length:Int)):∃ v:Int,atI (ns.map V.int) k=some (.int v):=by
 have hk:k.toNat<ns.length:=by omega
 have ek:k=((k.toNat:Nat):Int):=by omega
 have:=jd (xs:=ns.map V.int) (j:=k.toNat) (v:=.int ns[k.toNat]) (by rw[Ze,Xv hk];rfl)
 rw[<- ek] at this;exact⟨_,this⟩
theorem qep{c:Prop}[Decidable c]{A B:Prop}(R:Int->Prop)(hA:c->(∀ z,R z)->A)(hB:¬ c->(∀ z,R z)->B)(hC:∀ z,R z):if c then A else B:=by
 by_cases h:c
 ·rw[Q7 h];exact hA h hC
 ·rw[Q8 h];exact hB h hC
def jK(K:W.Frag):Sp:=λ vs H Q _=>∃(a:Addr)(ns:List Int)(k:Int),vs=[.ref a,.int k]/\Scr K H a ns/\0<=k/\k<=100000/\∀ z H',ql H H'->0<=z->z<1000000->Q (.int z) H'
theorem y8:FnScope [sA1,sB1,"_law_cell","_law_turn"] [sA1,sB1] (qd zL):=scF
theorem qfC{f :Addr}{fd :FuncData}(F:Fun K sA7 sA7 zL f fd)(T:Txt mg): FnOk P w K mg base CX0 1 f fd [sA1,sB1] (jK K):=by
 refine F.okd y8 (λ cdv A outer s H vs Q E hr h=>?_);obtain⟨a,ns,k,rfl,hS0,k0,k1,q⟩:=h;refine⟨_,(qf (qt (i:=2) y8.nd rfl (Or.inl rfl) qh)
  (qf (jU (zO qdu (qG zl (by rfl) T.len Ji (qa (pv 0) qc)) qh (zf _))
   (qm (qt (i:=2) y8.nd rfl (Or.inl rfl) (ju zQ (pv 0) (qx zr (pv 1) (qG zl (by rfl) T.len Ji (qa (pv 0) qc))) (λ _ _=>rfl)))) yb)
  (qf (jU (PW.pt (qeB (zO qdu (qG zl (by rfl) T.len Ji (qa (pv 0) qc)) qh (zf _))
   (qdo (zO vd (qx zr (ju zQ (pv 0) qh (λ _ _=>rfl)) qh) qh (zf _)))))
   (qf (qt (i:=2) y8.nd rfl (Or.inl rfl) (qx jc (pv 2) qh))
  (qf (yA Ux rfl (zy (by rfl) T.range (qa (qG (qdT rfl) (by rfl) T.min qhG (qa (qx jc (pv 1) (qG zl (by rfl) T.len Ji (qa (pv 0) qc))) (qa qh qc))) qc)) (qp (i:=3) y8.nd rfl (Or.inl rfl))
  (qm (qt (i:=2) y8.nd rfl (Or.inl rfl) (qx jc (pv 2) qh))))
  (qm (qN (qx zr (pv 2) qh))))) yb)
  (qm (qN (qx zr (qx j0 (qx zr (qx j0 (qx yC (qx yC (qx zr (pv 2) qh) (qx j0 qh (pv 1))) qh) qh) qh) qh) qh)))))),?_⟩
 obtain⟨hS,gI⟩:=hS0;have hl:(ns.map V.int).length=ns.length:=Ul _;have q':∀ z:Int,0<=z->z<1000000->Q (.int z) H:=λ z h1 h2=>q z H (ql.refl H) h1 h2
 refine⟨_,rfl,a,_,rfl,.inl hS,_,_,rfl,rfl,_,rfl,?_⟩;rw[hl];refine qep ?R (λ c1 C=>?hA) (λ c1 C=>?hB) ?hC
 case hA =>
  have nB:(0:Int)<(ns.length:Int):=Zx c1;obtain⟨v,hv⟩:=qdI (ns:=ns) (k:=k % (ns.length:Int)) (Uy k (by omega)) (Za k nB);refine⟨_,rfl,_,rfl,_,rfl,a,_,rfl,.inl hS,?_⟩;rw[hl];refine⟨_,_,rfl,rfl,nB,a,_,_,_,rfl,rfl,hS,hv,?_⟩;exact C v
 case hB=>exact C 0
 intro c;have fin:∀ z:Int,Q (.int (z % 999983)) H:=λ z=>q' _ (Uy z (by decide)) (by have:=Za z (b:=999983) (by decide);omega)
 refine⟨_,rfl,a,_,rfl,.inl hS,_,_,rfl,rfl,_,rfl,?_⟩;rw[hl];have kb:-(2^64)<k/\k<2^64:=⟨by omega,by omega⟩;refine qb3 (λ c1=>?_) (λ c1=>?_)
 ·have nB:(0:Int)<(ns.length:Int):=Zx c1;obtain⟨v0,hv0⟩:=qdI (ns:=ns) (k:=0) (by decide) nB;refine⟨_,rfl,a,_,0,_,rfl,rfl,hS,hv0,_,_,rfl,rfl,(show(0:Int)<2 by decide),rfl,_,rfl,?_⟩;refine qb3 (λ c2=>?_) (λ c2=>?_)
  ·refine⟨_,rfl,_,_,rfl,rfl,⟨by decide,by decide⟩,?_⟩;refine⟨_,rfl,_,rfl,a,_,rfl,.inl hS,?_⟩;rw[hl];refine⟨_,_,rfl,rfl,⟨by omega,by omega⟩,_,_,rfl,?_⟩;have d0:0<=k / (ns.length:Int):=Int.ediv_nonneg k0 (by omega);refine⟨_,rfl,?_,?_,?_⟩
   ·show -(2^62)<=(if (24:Int)<k / (ns.length:Int) then(24:Int) else k / (ns.length:Int))
    split <;> omega
   ·show(if (24:Int)<k / (ns.length:Int) then(24:Int) else k / (ns.length:Int))<2^62
    split <;> omega
   refine yr (λ i σ H1=>∃(c:Int)(v:Option V),σ=[some (.ref a),some (.int k),some (.int c),v]/\H1=H) ⟨_,none,rfl,rfl⟩ ?_ ?_
   ·rintro i σ H1 hi ⟨c,v,rfl,rfl⟩;refine⟨_,rfl,_,_,rfl,rfl,⟨by decide,by decide⟩,?_⟩;exact⟨_,_,rfl,rfl⟩
   ·rintro σ H1 ⟨c,v,rfl,rfl⟩;refine⟨_,rfl,_,_,rfl,rfl,(show(0:Int)<4096 by decide),?_⟩;exact q' _ (Uy _ (by decide)) (by have:=Za c (b:=4096) (by decide);omega)
  ·refine⟨_,rfl,_,_,rfl,rfl,(show(0:Int)<1000003 by decide),_,rfl,_,_,rfl,rfl,.inr kb,_,_,rfl,rfl,_,_,rfl,rfl,_,_,rfl,rfl,.inr ⟨by decide,by decide⟩,_,_,rfl,rfl,(show(0:Int)<1000033 by decide),_,_,rfl,rfl,.inr ⟨by decide,by decide⟩,_,_,rfl,rfl,(show(0:Int)<999983 by decide),?_⟩;exact fin _
 ·refine vY ?_;refine⟨_,rfl,_,_,rfl,rfl,(show(0:Int)<1000003 by decide),_,rfl,_,_,rfl,rfl,.inr kb,_,_,rfl,rfl,_,_,rfl,rfl,_,_,rfl,rfl,.inr ⟨by decide,by decide⟩,_,_,rfl,rfl,(show(0:Int)<1000033 by decide),_,_,rfl,rfl,.inr ⟨by decide,by decide⟩,_,_,rfl,rfl,(show(0:Int)<999983 by decide),?_⟩;exact fin _
def qda:List (List Nat):=[[97,98,99],[97,98],[97],[],[98,99],[99],[97,99],[98]]
def qdb:List (List Nat):=[[120,121],[120,121,122],[120],[],[121,122],[122],[120,122],[120,121]]
theorem qdc:[V.str "abc",V.str "ab",V.str "a",V.str "",V.str "bc",V.str "c",V.str "ac",V.str "b"]=qda.map vS:=by
 have e1:("abc":Str)=qi [97,98,99]:=by decide +kernel
 have e2:("ab":Str)=qi [97,98]:=by decide +kernel
 have e3:("a":Str)=qi [97]:=by decide +kernel
 have e4:("":Str)=qi []:=by decide +kernel
 have e5:("bc":Str)=qi [98,99]:=by decide +kernel
 have e6:("c":Str)=qi [99]:=by decide +kernel
 have e7:("ac":Str)=qi [97,99]:=by decide +kernel
 have e8:("b":Str)=qi [98]:=by decide +kernel
 rw[e1,e2,e3,e4,e5,e6,e7,e8];rfl
theorem qdd:[V.str "xy",V.str "xyz",V.str "x",V.str "",V.str "yz",V.str "z",V.str "xz",V.str "xy"]=qdb.map vS:=by
 have e1:("xy":Str)=qi [120,121]:=by decide +kernel
 have e2:("xyz":Str)=qi [120,121,122]:=by decide +kernel
 have e3:("x":Str)=qi [120]:=by decide +kernel
 have e4:("":Str)=qi []:=by decide +kernel
 have e5:("yz":Str)=qi [121,122]:=by decide +kernel
 have e6:("z":Str)=qi [122]:=by decide +kernel
 have e7:("xz":Str)=qi [120,122]:=by decide +kernel
 rw[e1,e2,e3,e4,e5,e6,e7];rfl
theorem qfD{l:List (List Nat)}{i:Int}(h0:0<=i)(h:i<(l.length:Int)):∃ c∈l,atI (l.map vS) i=some (vS c):=by
 have hk:i.toNat<l.length:=by omega
 have:=jd (xs:=l.map vS) (j:=i.toNat) (v:=vS l[i.toNat]) (by rw[Ze,Xv hk];rfl)
 rw[show((i.toNat:Nat):Int)=i by omega] at this;exact⟨_,Z6 hk,this⟩
def qde(K:W.Frag):Sp:=λ vs H Q _=>∃(a:Addr)(ns:List Int),vs=[.ref a]/\Scr K H a ns/\∀ r (gv gp:List Nat) H',ql H H'->H' r=some (.tup [vS gv,vS gp])->gv.Sublist [97,98,99]->gp.Sublist [120,121,122]->Q (.ref r) H'
theorem qbM:FnScope [sA1,"_law_cell","_law_givens"] [sA1] (qd zq):=scF
theorem qgC{f n6:Addr}{fd n8:FuncData}(F:Fun K sB2 sB2 zq f fd)(T:Txt mg)(d8:Dp P w K mg base 1 n6 n8 [sA1,sB1] (jK K) sA7): FnOk P w K mg base CX0 2 f fd [sA1] (qde K):=by
 refine F.okd qbM (λ cdv A outer s H vs Q E hr h=>?_);obtain⟨a,ns,rfl,hS,q⟩:=h;refine⟨_,(qf (qt (i:=1) qbM.nd rfl (Or.inl rfl) (yF d8 hr (qa (pv 0) (qa qh qc))))
  (qf (qt (i:=2) qbM.nd rfl (Or.inl rfl) (ju zQ (zP (qa qH (qa qH (qa qH (qa qH (qa qH (qa qH (qa qH (qa qH qc))))))))) (qx zr (pv 1) qh) (λ _ _=>rfl)))
  (qm (qN (vF (qa (pv 2) (qa (ju zQ (zP (qa qH (qa qH (qa qH (qa qH (qa qH (qa qH (qa qH (qa qH qc))))))))) (qx zr (qx jc (pv 1) qh) qh) (λ _ _=>rfl)) qc))))))),?_⟩
 refine⟨_,rfl,a,ns,0,rfl,hS,by decide,by decide,λ z H1 g1 z0 z1=>?_⟩;refine⟨qP (by show 8<=_;decide),λ p hp=>?_⟩;have n0:=Uy z (b:=8) (by decide);have n1:=Za z (b:=8) (by decide);obtain⟨gv,hgv,hat⟩:=qfD (l:=qda) n0 n1;rw[<- qdc] at hat
 have s1:gv.Sublist [97,98,99]:=(by decide:∀ l∈qda,l.Sublist [97,98,99]) gv hgv;refine⟨_,rfl,_,_,rfl,rfl,(show(0:Int)<8 by decide),p,_,_,_,rfl,rfl,SqL.of qe,hat,?_⟩;have g2:=g1.to hp (o:=.lst [V.str "abc",V.str "ab",V.str "a",V.str "",V.str "bc",V.str "c",V.str "ac",V.str "b"]);have m0:=Uy (z / 8) (b:=8) (by decide);have m1:=Za (z / 8) (b:=8) (by decide);obtain⟨gp,hgp,fZ⟩:=qfD (l:=qdb) m0 m1;rw[<- qdd] at fZ;have s2:gp.Sublist [120,121,122]:=(by decide:∀ l∈qdb,l.Sublist [120,121,122]) gp hgp;refine⟨_,rfl,qP (by show 8<=_;decide),λ p2 aG=>?_⟩;have g3:=g2.to aG (o:=.lst [V.str "xy",V.str "xyz",V.str "x",V.str "",V.str "yz",V.str "z",V.str "xz",V.str "xy"]);refine⟨_,rfl,_,_,rfl,rfl,⟨by decide,by decide⟩,_,_,rfl,rfl,(show(0:Int)<8 by decide),p2,_,_,_,rfl,rfl,SqL.of qe,fZ,qP (by show 2<=_;decide),λ r N0=>?_⟩;exact q r gv gp _ (g3.to N0) qe s1 s2
def yL(ls:List Nat)(r:List Bool):List (Key×V):=(ls.zip r).map λ x=>(Sum.inr (qi [x.1]),V.bl x.2)
theorem yM{ls:List Nat}{r:List Bool}(hl:ls.length=r.length){c:Nat}:qY (yL ls r) (.inr (qi [c]))=if c∈ls then some (.bl (asg ls r c)) else none:=by
 have key:∀(l:List (Nat×Bool)),qY (l.map λ x=>((Sum.inr (qi [x.1]):Key),V.bl x.2)) (.inr (qi [c]))=((l.find? λ x=>decide (x.1=c)).map λ x=>V.bl x.2):=by
  intro l;induction l with
  |nil=>rfl
  |cons x l ih =>
   unfold qY at ih ⊢;rw[Jv,Um,Um];have e:decide (((Sum.inr (qi [x.1]):Key))=.inr (qi [c]))=decide (x.1=c):=by
    by_cases h:x.1=c
    ·rw[h];simp
    ·rw[Uz h,Uz];intro e
     have:=yZ (Sum.inr.inj e)
     exact h (by simpa using this)
   dsimp only;rw[e];cases decide (x.1=c) with
   |true=>rfl
   |false=>exact ih
 unfold yL;rw[key];have mem:∀(ls:List Nat)(r:List Bool),ls.length=r.length->(((ls.zip r).find? λ x=>decide (x.1=c)).map λ x=>V.bl x.2)=if c∈ls then some (.bl (asg ls r c)) else none:=by
  intro ls;induction ls with
  |nil=>intro r h;simp
  |cons a ls ih =>
   intro r h;cases r with
   |nil=>simp at h
   |cons b r =>
    unfold asg;rw[Y6,Um];by_cases e:a=c
    ·subst e;simp
    ·have:=ih r (by simpa using h)
     rw[show decide ((a,b).1=c)=false from Uz e];dsimp only;rw[this];unfold asg;simp[Q2 e]
 exact mem ls r hl
theorem vV{ls:List Nat}(hl:ls.Nodup){i:Nat}(hi:i<ls.length):ls[i]∉ls.take i:=λ h=>by
 obtain⟨j,hj,e⟩:=Yr h;rw[Zy] at hj;rw[Zr] at e;exact absurd ((List.getElem_inj hl).mp e) (by omega)
def qfE:List Int:=[32,16,8,4,2,1]
theorem qgD{n k:Nat}(hn:n<=6)(hk:k<n):atI (qfE.map V.int) ((6:Int)-(n:Int)+(k:Int))=some (.int ((2^(n-1-k):Nat):Int)):=by
 have e:((6:Int)-(n:Int)+(k:Int))=((6-n+k:Nat):Int):=by omega
 rw[e];refine jd ?_;have key:∀ n,n<=6->∀ k,k<n->(qfE.map V.int)[6-n+k]?=some (V.int ((2^(n-1-k):Nat):Int)):=by decide
 exact key n hn k hk
theorem qfF{j:Nat}(h:j<=9):qh2 0 ((2^j:Nat):Int):=by
 rcases(show j=0∨j=1∨j=2∨j=3∨j=4∨j=5∨j=6∨j=7∨j=8∨j=9 by omega) with rfl|rfl|rfl|rfl|rfl|rfl|rfl|rfl|rfl|rfl <;> exact⟨by decide,by decide⟩
theorem qcA{ls:List Nat}{r:List Bool}{i c:Nat}{b:Bool}(hc:ls[i]?=some c)(hb:r[i]?=some b):yL (ls.take (i+1)) (r.take (i+1))=yL (ls.take i) (r.take i)++[(.inr (qi [c]),.bl b)]:=by
 unfold yL;rw[qS hc,qS hb,List.zip_append (by
  have h1:=yH hc;have h2:=yH hb;rw[Zy,Zy];omega),Ur]
 rfl
def qaA:Sp:=λ vs H Q _=>∃(ls:List Nat)(N:Nat),vs=[vS ls,.int (N:Int)]/\ls.Nodup/\ls.length<=6/\∀ d H',ql H H'->H' d=some (.dK (yL ls (qD ls.length N)))->Q (.ref d) H'
theorem ko:FnScope [sA0,sA3,sA2,sB1,sB0] [sA0,sA3] (qd yx):=scF
theorem qgE{f :Addr}{fd :FuncData}(F:Fun K sB4 sB4 yx f fd)(T:Txt mg): FnOk P w K mg base CX0 1 f fd [sA0,sA3] (qaA):=by
 refine F.okd ko (λ cdv A outer s H vs Q E hr h=>?_);obtain⟨ls,N,rfl,nd,l6,q⟩:=h;have t6:=jV hr;refine⟨_,(qf (qt (i:=2) ko.nd rfl (Or.inl rfl) qbZ)
  (qf (qbC (n:=2) Ux rfl (qfi (by rfl) T.enumerate (qa (pv 0) qc)) (zc (qp (i:=3) ko.nd rfl (Or.inl rfl)) (zc (qp (i:=4) ko.nd rfl (Or.inl rfl)) jb))
  (qm (qbl t6 (pv 2) (pv 4) (yo vd (qx zr (qx jc (pv 1) (ju zQ (zP (qa qh (qa qh (qa qh (qa qh (qa qh (qa qh qc))))))) (qx yC (qx qg9 qh (qG zm (by rfl) T.len Ji (qa (pv 0) qc))) (pv 3)) (λ _ _=>rfl))) qh) qh (zf _)) rfl)))
  (qm (qN (pv 2))))),?_⟩
 have hs:(qi ls).cps.size=ls.length:=qJ ls;have hl:(qi ls).length=ls.length:=qJ ls;refine λ d hd=>?_
 refine⟨_,rfl,_,rfl,?_⟩;refine qee (λ i σ H'=>∃ v3 v4:Option V,σ=[some (vS ls),some (.int (N:Int)),some (.ref d),v3,v4]/\ql H H'/\H' d=some (.dK (yL (ls.take i) ((qD ls.length N).take i)))) ⟨none,none,rfl,ql.up hd,qe⟩ ?_ ?_
 ·rintro i σ H1 hi ⟨v3,v4,rfl,g1,e1⟩;rw[hs] at hi;rw[jJ hi];refine⟨_,_,rfl,_,_,rfl,rfl,?_⟩;have hb:=qfm (N:=N) hi;have ns_:ls[i]∉ls.take i:=vV nd hi;have lr:(ls.take i).length=((qD ls.length N).take i).length:=by rw[Zy,Zy,y3]
  have vn:qY (yL (ls.take i) ((qD ls.length N).take i)) (.inr (qi [ls[i]]))=none:=by rw[yM lr,Q8 ns_]
  have lk:(yL (ls.take i) ((qD ls.length N).take i)).length<sizeLine:=by unfold yL;rw[Ul,Uw,Zy,Zy];exact qZ (by omega)
  refine⟨_,rfl,qP (by show 6<=_;decide),λ p hp=>?_⟩;refine⟨_,rfl,_,rfl,by rw[hl];exact qP (by omega),?_⟩;rw[hl];refine⟨_,_,rfl,rfl,_,rfl,_,_,rfl,rfl,p,_,_,_,rfl,rfl,SqL.of (show upd H1 p (.lst (qfE.map V.int)) p=some (.lst (qfE.map V.int)) from qe),qgD l6 hi,_,_,rfl,rfl,qfF (by omega),_,_,rfl,rfl,(show(0:Int)<2 by decide),rfl,?_⟩;have e2:=(ql.up hp (o:=.lst (qfE.map V.int))) _ _ e1;refine⟨_,rfl,_,rfl,d,_,rfl,.inl ⟨_,.inr (qi [ls[i]]),e2,rfl,lk,rfl⟩,?_⟩;refine⟨_,_,rfl,(g1.to hp).at hd,?_⟩;rw[qe,kD _ vn,qcA (Xv hi) hb];congr 5
  have:decide (V.int ((N:Int) / ((2^(ls.length-1-i):Nat):Int) % 2)=V.int 1)=decide (N / 2^(ls.length-1-i) % 2=1):=by
   refine decide_eq_decide.mpr ?_;rw[V.int.injEq];constructor
   ·intro h;exact_mod_cast h
   ·intro h;exact_mod_cast h
  exact congrArg V.bl this
 ·rintro σ H1 ⟨v3,v4,rfl,g1,e1⟩;rw[hs,Z8,XC (by rw[y3];exact Ql _)] at e1;exact⟨_,rfl,q d H1 g1 e1⟩
def qdf:List Int:=[1,2,4,8,16,32,64]
theorem qdJ{n:Nat}(hn:n<=6):atI (qdf.map V.int) (n:Int)=some (.int ((2^n:Nat):Int)):=by
 refine jd ?_;have key:∀ n,n<=6->(qdf.map V.int)[n]?=some (V.int ((2^n:Nat):Int)):=by decide
 exact key n hn
def qbN:Sp:=λ vs H Q _=>∃ ls:List Nat,vs=[vS ls]/\ls.Nodup/\ls.length<=6/\∀ r ds H',ql H H'->H' r=some (.lst (ds.map V.ref))->Paired (λ d N=>H' d=some (.dK (yL ls (qD ls.length N)))) ds (List.range (2^ls.length))->Q (.ref r) H'
theorem qfG:FnScope [sA0] [sA0] (qd zY):=scF
theorem qfH{f x5:Addr}{fd x6:FuncData}(F:Fun K sB9 sB9 zY f fd)(T:Txt mg)(i8:Dp P w K mg base 1 x5 x6 [sA0,sA3] (qaA) sB4): FnOk P w K mg base CX0 2 f fd [sA0] (qbN):=by
 refine F.okd qfG (λ cdv A outer s H vs Q E hr h=>?_);obtain⟨ls,rfl,nd,l6,q⟩:=h;refine⟨_,(qm (qN (zu (csc (NY:=[sA3,sA0]) (o:=1) (caps:=[0]) [sA0] rfl
    (by intro x hx;rw[Y9.mp hx];exact .inl rfl) (vI rfl rfl rfl yY) rfl) rfl
    (zy (by rfl) T.range (qa (ju zQ (zP (qa qh (qa qh (qa qh (qa qh (qa qh (qa qh (qa qh qc)))))))) (qG zm (by rfl) T.len Ji (qa (pv 0) qc)) (λ _ _=>rfl)) qc)) (λ C0 s H fp pins=>qp (i:=0) (show([sA3,sA0]:List Str).Nodup by decide +kernel) rfl (Or.inl rfl)) (λ C0 s H fp pins=>zd) (λ C0 s H fp pins=>(yF i8 hr (qa (pv 1) (qa (pv 0) qc))))))),?_⟩
 have hl:(qi ls).length=ls.length:=qJ ls;have pY:2^ls.length<=64:=J7 (Yk (by decide) l6) (by decide);have c0:=Int.natCast_nonneg (2^ls.length);have c1:((2^ls.length:Nat):Int)<=64:=by exact_mod_cast pY
 refine⟨qP (by show 7<=_;decide),λ p hp=>?_⟩;refine⟨_,rfl,_,rfl,by rw[hl];exact qP (by omega),?_⟩;rw[hl];refine⟨p,_,_,_,rfl,rfl,SqL.of (show upd H p (.lst (qdf.map V.int)) p=some (.lst (qdf.map V.int)) from qe),qdJ l6,_,rfl,Int.le_trans (by decide) c0,Int.lt_of_le_of_lt c1 (by decide),?_⟩;have en:(((2^ls.length:Nat):Int)).toNat=2^ls.length:=Zf _;refine yg (((2^ls.length:Nat):Int)).toNat (λ i ys H2=>∃ ds:List Addr,ys=ds.map V.ref/\Paired (λ d N=>H2 d=some (.dK (yL ls (qD ls.length N)))) ds (List.range i)) (λ D hD=>⟨[],rfl,.nil⟩) ?_ ?_ (λ H2 sm=>Ql _) ?_
 ·rintro i ys H2 hi ⟨ds,rfl,hp⟩
  have:=hp.length
  rw[Zo] at this;rw[Ul];exact qZ (by omega)
 ·rintro i ys H2 D Y Z hi hD o0 sm ⟨ds,rfl,lV⟩ hY hZ;refine⟨hi,?_⟩;rintro x H' ⟨rfl,rfl⟩;refine⟨⟨rfl,rfl⟩,?_⟩;refine⟨_,rfl,_,rfl,ls,i,(by show [vS ls,V.int (0+(i:Int))]=[vS ls,V.int (i:Int)];rw[Qg]),nd,l6,λ d H3 g3 e3=>?_⟩;have eD:=g3 _ _ o0;refine hY _ _ eD (sm.trans g3) ⟨ds++[d],by rw[Ur];rfl,?_⟩;rw[List.range_succ];have up:∀{z:Addr}{kv:List (Key×V)},H3 z=some (.dK kv)->upd H3 D (.lst (ds.map V.ref++[.ref d])) z=some (.dK kv):=λ{z kv} h=>by
   have:z≠D:=λ q=>by rw[q,eD] at h;cases h
   rw[qg this];exact h
  exact qE (L2.Paired.mapP lV λ z N h=>up (g3 _ _ h)) (.cons (up e3) .nil)
 ·rintro D H2 ys hD sm o0 ⟨ds,rfl,lV⟩;rw[en] at lV;exact q D ds H2 ((ql.up hp).trans sm) o0 lV
def kq(K:W.Frag):Sp:=λ vs H Q _=>∃(a:Addr)(t:List Bool)(ls:List Nat),vs=[vS ls,.ref a]/\SqL K H a (t.map V.bl)/\t.length=2^ls.length/\ls.Pairwise (·<·)/\ls.length<=6 /\
 ∀ r H',ql H H'->H' r=some (.tup ((formOf ls t).map vS))->Q (.ref r) H'
theorem qgF(i k:Nat):decide (V.int (Builtin.bitAnd (0+(k:Int)) (0+(i:Int)))=V.int (0+(k:Int)))=prt i k:=by
 rw[Qg,Qg,qgq];unfold prt;by_cases h:k &&& i=k
 ·rw[h];simp
 ·rw[Uz (λ e=>h (by have:=V.int.inj e;exact_mod_cast this)),Yy.mpr h]
theorem qiq{t:List Bool}{k:Nat}(h:k<t.length):atI (t.map V.bl) (0+(k:Int))=some (.bl (t.getD k false)):=by
 rw[Qg];refine jd ?_;rw[Ze,Xv h,Xi,Xv h];rfl
theorem qcB{ls:List Nat}{t:List Bool}(nd:ls.Nodup)(ht:t.length=2^ls.length):(jX ls t (2^ls.length)).Nodup:=by rw[qbd nd ht];exact jg _ nd
theorem yN:FnScope [sA0,sA8,"_law_found",sA3,"_law_odd",sA9,sA2] [sA0,sA8] (qd zZ):=scF
theorem qfI{f x5:Addr}{fd x6:FuncData}(F:Fun K sB5 sB5 zZ f fd)(T:Txt mg)(i8:Dp P w K mg base 1 x5 x6 [sA0,sA3] (qaA) sB4): FnOk P w K mg base CX0 2 f fd [sA0,sA8] (kq K):=by
 refine F.okd yN (λ cdv A outer s H vs Q E hr h=>?_);obtain⟨a,t,ls,rfl,hT,ht,hl,l6,q⟩:=h;have t6:=jV hr;refine⟨_,(qf (qt (i:=2) yN.nd rfl (Or.inl rfl) (zP qc))
  (qf (yA Ux rfl (zy (by rfl) T.range (qa (qG zl (by rfl) T.len Ji (qa (pv 1) qc)) qc)) (qp (i:=3) yN.nd rfl (Or.inl rfl))
  (qf (qt (i:=4) yN.nd rfl (Or.inl rfl) qaP)
  (qf (yA Ux rfl (zy (by rfl) T.range (qa (qx yC (pv 3) qh) qc)) (qp (i:=5) yN.nd rfl (Or.inl rfl))
  (qm (jU (PW.pt (qeB (zO vd (qx qha (pv 5) (pv 3)) (pv 5) (zf _))
   (qdo (js (ju zQ (pv 1) (pv 5) (λ _ _=>rfl))))))
   (qm (qt (i:=4) yN.nd rfl (Or.inl rfl) (qeD (pv 4)))) yb)))
  (qm (jU (js (pv 4))
   (qf (qt (i:=6) yN.nd rfl (Or.inr rfl) (yF i8 hr (qa (pv 0) (qa (pv 3) qc))))
  (qm (ja (yQ X6 Xw Xx zV (pv 2) (qa (yQ XG XV XW yT qH (qa (zu (csc (NY:=[sB0,sA2]) (o:=1) (caps:=[6]) [sA2] rfl
    (by intro x hx;rw[Y9.mp hx];exact .inl rfl) (vI rfl rfl rfl yY) rfl) rfl
    (jx (pv 0)) (λ C0 s H fp pins=>qp (i:=0) (show([sB0,sA2]:List Str).Nodup by decide +kernel) rfl (Or.inl rfl)) (λ C0 s H fp pins=>(qbq (js (kc t6 (pv 1) (pv 0) (λ _ _=>rfl))))) (λ C0 s H fp pins=>(pv 0))) qc)) qc))))) yb)))))
  (qm (qN (q9 yW (by rfl) T.tuple qaz (qa (qG jE (by rfl) T.sorted y7 (qa (pv 2) qc)) qc)))))),?_⟩
 have nd:=qO Jr hl;have hs:(qi ls).cps.size=ls.length:=qJ ls;have hz:("":Str).length=0:=by decide
 have N3:2^ls.length<=64:=Yk (n:=2) (by decide) l6;have d5:(t.map V.bl).length=2^ls.length:=by rw[Ul,ht]
 refine⟨Qm _,λ fb fR=>?_⟩;have g0:=ql.up fR (o:=.lst []);refine⟨_,rfl,a,_,rfl,.inl (g0.seq hT),_,rfl,?_,?_,?_⟩
 ·rw[d5];omega
 ·rw[d5];omega
 refine yr (λ i σ H1=>∃ v3 v4 v5 v6:Option V,σ=[some (vS ls),some (.ref a),some (.ref fb),v3,v4,v5,v6]/\ql H H1/\H1 fb=some (.lst ((jX ls t i).map vS))) ⟨none,none,none,none,rfl,g0,qe⟩ ?_ ?_
 ·rintro i σ H1 hi ⟨v3,v4,v5,v6,rfl,g1,e1⟩;have hi':i<2^ls.length:=by rw[d5] at hi;omega
  refine⟨_,rfl,_,_,rfl,rfl,_,rfl,?_,?_,?_⟩
  ·show -(2^62)<=(0:Int)+(i:Int)+1;omega
  ·show(0:Int)+(i:Int)+1<2^62;omega
  refine yr (λ k σ H2=>∃ v5:Option V,σ=[some (vS ls),some (.ref a),some (.ref fb),some (.int (0+(i:Int))),some (.bl (jr ((List.range k).map λ M=>prt i M && t.getD M false))),v5,v6]/\H2=H1) ⟨v5,rfl,rfl⟩ ?_ ?_
  ·rintro k σ H2 hk ⟨v5',rfl,rfl⟩;have x3:k<t.length:=by omega
   have ex:jr ((List.range (k+1)).map λ M=>prt i M && t.getD M false)=xor (jr ((List.range k).map λ M=>prt i M && t.getD M false)) (prt i k && t.getD k false):=by
    rw[List.range_succ,Ur,List.map_singleton,qfo]
   refine⟨_,rfl,_,rfl,_,_,rfl,rfl,_,rfl,rfl,_,rfl,?_⟩;rw[qgF,ex];cases hp:prt i k with
   |false =>
    refine vY ?_;refine vY ?_;exact⟨_,by rw[U7,Bool.xor_false];rfl,rfl⟩
   |true =>
    refine qgd ?_;refine⟨_,rfl,_,rfl,a,_,_,_,rfl,rfl,g1.seq hT,qiq x3,_,rfl,?_⟩;cases hb:t.getD k false with
    |false =>
     refine vY ?_;exact⟨_,by rw[Bool.and_false,Bool.xor_false];rfl,rfl⟩
    |true =>
     refine qgd ?_;refine⟨_,rfl,_,rfl,?_⟩;exact⟨_,by rw[Bool.and_true,Bool.xor_true];rfl,rfl⟩
  ·rintro σ H2 ⟨v5',rfl,rfl⟩;have en:((0:Int)+(i:Int)+1).toNat=i+1:=by omega
   rw[en];have es:jr ((List.range (i+1)).map λ M=>prt i M && t.getD M false)=jl t i:=rfl;rw[es];refine⟨_,rfl,_,rfl,?_⟩;refine qb3 (λ c=>?_) (λ c=>?_)
   ·refine⟨_,rfl,_,rfl,ls,i,(by show [vS ls,V.int (0+(i:Int))]=[vS ls,V.int (i:Int)];rw[Qg]),nd,l6,λ d H3 g3 e3=>?_⟩;have eF:=g3 _ _ e1;have lr:ls.length=(qD ls.length i).length:=(y3 _ _).symm;refine⟨_,rfl,.inl ⟨rfl,_,SqL.of eF⟩,rfl,?_⟩;refine⟨_,rfl,_,rfl,?_⟩;refine qac (λ j=>((ls.take j).filter (asg ls (qD ls.length i))).map λ c=>vS [c]) rfl (λ j hj=>?_) ?_ ?_
    ·rw[Ul];have:=XX (asg ls (qD ls.length i)) (ls.take j);rw[Zy] at this;exact qZ (by omega)
    ·intro j H6 D6 Y Z hj bY u3 A1 hY hZ;rw[hs] at hj;rw[jJ hj];have fs:=vT (f:=asg ls (qD ls.length i)) hj;have gd:=j2.k (k:=Sum.inr (qi [ls[j]])) (A1 _ _ e3);rw[yM lr,Q7 (Z6 hj)] at gd;refine⟨⟨rfl,rfl⟩,?_⟩;refine⟨_,rfl,_,rfl,d,_,rfl,gd,_,rfl,?_⟩;refine qb3 (λ c=>?_) (λ c=>?_)
     ·refine⟨_,rfl,hY _ _ u3 A1 ?_⟩;show List.map _ ((ls.take (j+1)).filter _)=_
      rw[fs,Q7 c,Ur];rfl
     ·refine hZ _ u3 A1 ?_;show List.map _ ((ls.take (j+1)).filter _)=_
      rw[fs,Q8 c,Ui]
    ·intro D6 H6 bY A1 u3;rw[hs,Z8] at u3;have eS:ls.filter (asg ls (qD ls.length i))=sel ls i:=rfl;rw[eS] at u3;have lS:(sel ls i).length<=ls.length:=XX _ _;refine⟨_,D6,((sel ls i).map λ c=>[c]).map qi,rfl,rfl,.inl (SqL.of (by rw[u3,jm,zt])),?_,?_⟩
     ·rw[yj,hz,zb];show _+_*0<=_;omega
     rw[yi,zb];have xX:=A1 _ _ eF;have pl:=qbc ls t i;refine⟨fb,_,_,rfl,rfl,xX,by rw[Ul];exact qZ (by omega),?_⟩;refine⟨_,_,_,_,rfl,((g1.trans g3).trans A1).at fR,?_⟩;rw[qe,qat,Q7 c,Ur];rfl
   ·refine⟨_,_,_,_,rfl,g1,?_⟩;rw[e1,qat,Q8 c,Ui]
 ·rintro σ H1 ⟨v3,v4,v5,v6,rfl,g1,e1⟩;have en:(((t.map V.bl).length:Nat):Int).toNat=2^ls.length:=by rw[d5];omega
  rw[en] at e1;have pl:=qbc ls t (2^ls.length);have uJ:((jX ls t (2^ls.length)).map qi).Nodup:=Zk.mpr ((qcB nd ht).imp λ{a b} o7 e=>o7 (yZ e));refine⟨_,rfl,fb,(jX ls t (2^ls.length)).map qi,rfl,SqL.of (by rw[<- zt];exact e1),by rw[Ul];show _<4096;omega,uJ,λ l G0=>?_⟩;rw[vU (zt _).symm,qbd nd ht];refine⟨l,_,rfl,.inl ⟨SqL.of qe,λ r N0=>?_⟩⟩;exact q r _ ((g1.to G0).to N0) qe
def qbO:Sp:=λ vs H Q _=>∃(ls:List Nat),vs=[vS ls]/\ls.length<=9/\Q (.int ((2^ls.length:Nat):Int)) H
theorem vC:FnScope ["letters","count","place"] ["letters"] (qd zK):=scF
theorem qfJ{k:Nat}{f:Addr}{fd:FuncData}(F:Fun K "row_count" "row_count" zK f fd)(T:Txt mg):FnOk P w K mg base CX0 (k+1) f fd ["letters"] qbO:=by
 refine F.okd vC (λ cdv A outer s H vs Q E hr h=>?_);obtain⟨ls,rfl,h9,q⟩:=h;refine⟨_,qf (qt (i:=1) vC.nd rfl (Or.inl rfl) qh)
  (qf (yA Ux rfl (zy rfl T.range (qa (qG zm rfl T.len Ji (qa (pv 0) qc)) qc)) (qp (i:=2) vC.nd rfl (Or.inl rfl))
   (qm (qt (i:=1) vC.nd rfl (Or.inl rfl) (qx j0 qh (pv 1)))))
  (qm (qN (pv 1)))),?_⟩
 have hz:(qi ls).length=ls.length:=qJ ls;refine⟨_,rfl,_,rfl,by rw[hz];exact qP (by omega),_,rfl,by rw[hz];omega,by rw[hz];omega,?_⟩;rw[hz];refine yr (λ i σ H1=>∃(v:Option V),σ=[some (vS ls),some (.int ((2^i:Nat):Int)),v]/\H1=H) ⟨none,rfl,rfl⟩ ?_ ?_
 ·rintro i σ H1 hi ⟨v,rfl,rfl⟩;refine⟨_,rfl,_,_,rfl,rfl,.inl ⟨by decide,by decide⟩,?_⟩;refine⟨some (.int (0+(i:Int))),?_,rfl⟩;show [some (vS ls),some (V.int (2*((2^i:Nat):Int))),_]=_
  rw[show(2:Int)*((2^i:Nat):Int)=((2^(i+1):Nat):Int) by rw[Qc];omega]
 ·rintro σ H1 ⟨v,rfl,rfl⟩;have e:((ls.length:Int)).toNat=ls.length:=Zf _;rw[e];exact⟨_,rfl,q⟩
structure Fit(F:List Pr):Prop where
 flat:F.flatten.length<=4000
 len:F.length<=2000
 few:(qb F).length<=9
def qfK(K:W.Frag):Sp:=λ vs H Q _=>∃(a:Addr)(as:List Addr)(Fs:List (List Pr)),vs=[.ref a]/\SqL K H a (as.map V.ref)/\Paired (λ c (F:List Pr)=>SqT K H c (F.map vS)) as Fs/\Fs.length<=9/\(∀ F∈Fs,Fit F)/\(qy Fs).length<=9/\∀ H',ql H H'->Q (vS (qy Fs)) H'
theorem qhI:FnScope ["forms"] ["forms"] (qd qW):=scF
theorem qir:(["form"]:List Str).Nodup:=by decide +kernel
theorem vc{α β:Type}{F:α->β->Prop}:∀{xs:List α}{l:List β},Paired F xs l->∀(k:Nat)(a:α),xs[k]?=some a->∃ b,l[k]?=some b/\F a b
 |_,_,.nil,k,a,h=>by simp at h
 |_,_,.cons r t,0,a,h=>by simp at h;subst h;exact⟨_,rfl,r⟩
 |_,_,.cons r t,k+1,a,h=>vc t k a (by simpa using h)
theorem qhJ{f fl:Addr}{fd xQ:FuncData}(F:Fun K "letters_in_all" "letters_in_all" qW f fd)(T:Txt mg)(Gl:Dp P w K mg base 1 fl xQ ["form"] (jS K) "letters_of"):FnOk P w K mg base CX0 2 f fd ["forms"] (qfK K):=by
 refine F.okd qhI (λ cdv A outer s H vs Q E hr h=>?_);obtain⟨a,as,Fs,rfl,hS,hp,h9,hf,ha,q⟩:=h;refine⟨_,qm (qN (yQ XG XV XW yT qH (qa (qG (jW rfl) rfl T.sorted y7 (qa (q9 (kX rfl) rfl T.set qc6 (qa
  (yQ XG XV XW yT qH (qa (zu (csc (NY:=["form"]) (o:=1) (caps:=[]) [] rfl (by simp) yY rfl) rfl
   (yP (pv 0)) (λ C s H fp pins=>qp (i:=0) qir rfl (Or.inl rfl)) (λ C s H fp pins=>zd) (λ C s H fp pins=>zk Gl.g hr rfl Gl.m Gl.e Gl.b .nil yE (qa (pv 0) qc))) qc)) qc)) qc)) qc))),?_⟩
 have hz:("":Str).length=0:=by decide
 have la:as.length=Fs.length:=hp.length;refine⟨rfl,rfl,?_⟩;refine⟨_,rfl,a,rfl,⟨_,hS⟩,?_⟩;refine qbA hS (λ j=>((Fs.take j).map qb).map vS) rfl (λ j hj=>?_) ?_ ?_
 ·rw[Ul,Ul,Zy];exact qZ (by omega)
 ·intro j x H2 D Y Z hx hD o0 sm hY hZ;obtain⟨c,hc,rfl⟩:=qj hx;obtain⟨G,hG,wK⟩:=vc hp j c hc;have fG:=hf G (Yd hG);refine⟨⟨rfl,rfl⟩,?_⟩;refine⟨_,rfl,c,G,rfl,sm.seqT wK,fG.flat,fG.len,by have:=fG.few;omega,λ H3 g3=>?_⟩;refine hY _ _ (g3 _ _ o0) (sm.trans g3) ?_;rw[qS hG,Ur,Ur];rfl
 ·intro D H2 hD sm o0;rw[Ul,la,Z8] at o0;have R8:(Fs.map qb).flatten.length<=81:=by
   refine J7 (ke (n:=9) (F:=Fs.map qb) λ p hp=>?_) (by rw[Ul];omega);obtain⟨G,hG,rfl⟩:=Qd.mp hp;exact(hf G hG).few
  rw[zt] at o0;refine⟨_,D,(Fs.map qb).map qi,rfl,rfl,.inl (SqL.of o0),?_,?_⟩
  ·rw[yj,hz];show _+_*0<=_;omega
  rw[yi];refine⟨(Fs.map qb).flatten.map λ c=>qi [c],.inr ⟨_,rfl,rfl⟩,by rw[Ul];show _<4096;omega,λ l ys hl nd hm=>?_⟩;have aB:=yf ((Fs.map qb).flatten.map λ c=>[c]);have aK:∀ x,x∈ys ↔ cs x∈jo ((Fs.map qb).flatten.map λ c=>[c]):=λ x=>by
   rw[hm x,zA,Qd,Qd];constructor
   ·rintro⟨c,hc,rfl⟩;exact⟨c,hc,rfl⟩
   ·rintro⟨c,hc,e⟩;exact⟨c,hc,qbt e⟩
  have d5:ys.length=(qy Fs).length:=by
   rw[qad nd aB aK,<- (ye _).length_eq,zB,Ul];rfl
  refine⟨l,ys,rfl,qe,by rw[d5];omega,λ l2 F0=>?_⟩;rw[qbB nd aB aK,zB,zt];refine⟨_,l2,((qy Fs).map λ c=>[c]).map qi,rfl,rfl,.inl (SqL.of qe),?_,?_⟩
  ·rw[yj,hz,zb];show _+_*0<=_;omega
  rw[yi,zb];exact q _ ((sm.to hl).to F0)
def qis(K:W.Frag)(H:Hp)(d:Addr)(ls:List Nat)(g:Nat->List Pr):Prop:=∃ kvs,H d=some (.dK kvs)/\∀ c∈ls,(qY kvs (.inr (qi [c]))=none/\g c=[[c]])∨∃ r,qY kvs (.inr (qi [c]))=some (.ref r)/\SqT K H r ((g c).map vS)
def qdK(K:W.Frag):Sp:=λ vs H Q _=>∃(a d:Addr)(F:List Pr)(g:Nat->List Pr),vs=[.ref a,.ref d]/\SqT K H a (F.map vS)/\qis K H d (qb F) g/\Fit F/\(∀ c∈qb F,Fit (g c))/\(qy ((qb F).map g)).length<=9 /\
 ∀ r H',ql H H'->H' r=some (.tup ((putIn F g).map vS))->Q (.ref r) H'
theorem qaB:FnScope ["form","forms","own_letters","put_ones","letters","own_table"] ["form","forms"] (qd y6):=scF
theorem qit:(["letter","forms"]:List Str).Nodup:=by decide +kernel
theorem qgV:(["number","truth"]:List Str).Nodup:=by decide +kernel
theorem qiu:(["number","own_table"]:List Str).Nodup:=by decide +kernel
theorem qfL(n:Nat)(v:V):(List.replicate n [v]).flatten=List.replicate n v:=by
 induction n with
 |zero=>rfl
 |succ n ih=>rw[Yp,Zh,ih,Yp];rfl
theorem qaC{L:List Nat}:∀(ps:List (List Pr))(ns:List Nat)(b:Nat),(∀ n∈ns,n<b)->∀ n∈ps.foldl (λ ns p=>jq ns (qL p L)) ns,n<b*2^ps.length
 | [],ns,b,h=>by intro n hn;have:=h n hn;simpa using this
 |p::ps,ns,b,h=>by
  intro n hn;rw[Up] at hn
  have:=qaC ps (jq ns (qL p L)) (2*b) (λ m hm=>by
   unfold jq at hm;obtain⟨i,hi,e⟩:=Yr hm;rw[List.getElem_zipWith] at e;rw[Yq] at hi;have h1:=h (ns[i]'(by omega)) (Z6 _);rw[<- e];split <;> omega) n hn
  rw[Zz,Qc]
  calc n<2*b*2^ps.length:=this
   _=b*(2^ps.length*2):=by rw[Qb 2 b,Nat.mul_assoc,Qb 2]
def qdg(K:W.Frag):Sp:=λ vs H Q _=>∃(a:Addr)(as:List Addr)(Fs:List (List Pr))(L:List Nat),vs=[.ref a,vS L]/\SqL K H a (as.map V.ref)/\Paired (λ c (F:List Pr)=>SqT K H c (F.map vS)) as Fs/\(∀ F∈Fs,Fit F)/\L.length<=9 /\
 ∀ r H',ql H H'->H' r=some (.lst ((vb L Fs).map λ n:Nat=>V.int n))->Q (.ref r) H'
theorem kr:FnScope ["forms","letters","numbers","form"] ["forms","letters"] (qd zE):=scF
theorem qgG{f fc ft:Addr}{fd fdc xN:FuncData}(F:Fun K "numbers_by" "numbers_by" zE f fd)(T:Txt mg)(Gc:Dp P w K mg base 1 fc fdc ["letters"] qbO "row_count")(Gt:Dp P w K mg base 11 ft xN ["form","letters"] (kn K) "table_of"):FnOk P w K mg base CX0 12 f fd ["forms","letters"] (qdg K):=by
 refine F.okd kr (λ cdv A outer s H vs Q E hr h=>?_);obtain⟨D,as,Fs,L,rfl,hD,hp,hf,C3,q⟩:=h;have bI:Room 1 _:=hr.mono (by decide);refine⟨_,qf (qt (i:=2) kr.nd rfl (Or.inl rfl) (qx qhl (zP (qa qh qc)) (zk Gc.g bI rfl Gc.m Gc.e Gc.b .nil yE (qa (pv 1) qc))))
  (qf (yA Ux rfl (yP (pv 0)) (qp (i:=3) kr.nd rfl (Or.inl rfl))
   (qm (qe5 (i:=2) (n:=2) kr.nd rfl rfl (csc (NY:=["number","truth"]) (o:=2) (caps:=[]) [] rfl (by simp) yY rfl) rfl
    (qcP rfl T.zip (qa (pv 2) (qa (zk Gt.g hr rfl Gt.m Gt.e Gt.b .nil yE (qa (pv 3) (qa (pv 1) qc))) qc)))
    (λ C s H fp pins=>zc (qp (i:=0) qgV rfl (Or.inl rfl)) (zc (qp (i:=1) qgV rfl (Or.inl rfl)) jb)) (λ _=>rfl) (λ _=>rfl)
    (λ C s H fp pins=>zd) (λ C s H fp pins=>qx yC (qx j0 qh (pv 0)) (qeE (js (pv 1)) qh qh)))))
  (qm (qN (pv 2)))),?_⟩
 have pL:2^L.length<=512:=jR C3;refine⟨qP (by show 1<=_;decide),λ p0 uE=>?_⟩;refine⟨_,rfl,L,rfl,C3,p0,_,_,rfl,rfl,qe,?_,?_,?_,λ p1 G9=>?_⟩
 ·generalize 2^L.length=N at pL;omega
 ·generalize 2^L.length=N at pL;omega
 ·rw[Zf];exact qP (by show 1*_<=_;omega)
 rw[Zf,qfL];have mI:=((ql.refl H).to uE (o:=.lst [V.int 0])).to G9 (o:=.lst (List.replicate (2^L.length) (V.int 0)));have e0:(upd (upd H p0 (.lst [V.int 0])) p1 (.lst (List.replicate (2^L.length) (V.int 0)))) p1=some (.lst ((List.replicate (2^L.length) 0).map λ n:Nat=>V.int n)):=by rw[qe,List.map_replicate];rfl
 have wU:=mI.seq hD;have hp3:Paired (λ c (G:List Pr)=>SqT K _ c (G.map vS)) as Fs:=L2.Paired.mapP hp λ b G e=>mI.seqT e
 generalize upd (upd H p0 (.lst [V.int 0])) p1 (.lst (List.replicate (2^L.length) (V.int 0)))=H4 at mI wU hp3 e0 ⊢;refine⟨_,rfl,D,rfl,⟨_,wU⟩,?_⟩;refine kA (K:=K) (xs:=as.map V.ref) (λ j σ H'=>∃(r:Addr)(v6:Option V),σ=[some (.ref D),some (vS L),some (.ref r),v6]/\ql H4 H'/\H' r=some (.lst (((Fs.take j).foldl (λ ns p=>jq ns (qL p L)) (List.replicate (2^L.length) 0)).map λ n:Nat=>V.int n))) ⟨p1,none,rfl,ql.refl _,e0⟩ (λ i σ H' _ ⟨_,_,_,g,_⟩=>g.seq wU) ?_ ?_
 ·rintro j x σ H5 hj ⟨r,v6,rfl,g5,e5⟩;obtain⟨c,hc,rfl⟩:=qj hj;obtain⟨G,hG,wK⟩:=vc hp3 j c hc;have fG:Fit G:=hf G (Yd hG);have ln:=qam (L:=L) (Fs.take j) (List.replicate (2^L.length) 0) (XI ..);have ek:Fs.take (j+1)=Fs.take j++[G]:=qS hG;generalize hns:(Fs.take j).foldl (λ ns p=>jq ns (qL p L)) (List.replicate (2^L.length) 0)=ns at ln e5;refine⟨_,rfl,_,rfl,_,rfl,c,G,L,rfl,g5.seqT wK,fG.len,C3,λ rt H6 g6 e6=>?_⟩;have tl:=zi G L;refine⟨r,rt,rfl,⟨_,SqL.of (g6 _ _ e5)⟩,⟨_,SqL.of e6⟩,?_⟩;refine qcT (SqL.of (g6 _ _ e5)) (SqL.of e6) (by rw[Ul,Ul,ln,tl]) (λ i=>((jq ns (qL G L)).take i).map λ n:Nat=>V.int n) rfl (λ i hi=>?_) ?_ ?_
  ·rw[Ul] at hi;rw[Ul,Zy];exact qZ (by omega)
  ·intro i x y H7 D7 Y Z hx hy wT S4 S6 hY hZ;obtain⟨n,hn,rfl⟩:=qj hx;obtain⟨b,hb,rfl⟩:=qj hy;refine⟨_,_,rfl,_,_,rfl,rfl,⟨rfl,rfl⟩,?_⟩;refine⟨_,rfl,_,_,rfl,rfl,.inl ⟨by decide,by decide⟩,?_⟩;have st:=yh (f:=λ n:Nat=>V.int n) (j8 (f:=λ(n:Nat)(b:Bool)=>2*n+if b then 1 else 0) hn hb);refine⟨_,rfl,b,rfl,?_⟩;cases b with
   |true =>
    refine qgd ⟨_,_,rfl,rfl,?_⟩;have ev:V.int (2*(n:Int)+1)=V.int (((2*n+if true=true then 1 else 0:Nat)):Int):=by congr 1
    show Y (V.int (2*(n:Int)+1)) H7
    rw[ev];exact hY _ _ S4 S6 st
   |false =>
    refine vY ⟨_,_,rfl,rfl,?_⟩;have ev:V.int (2*(n:Int)+0)=V.int (((2*n+if false=true then 1 else 0:Nat)):Int):=by congr 1
    show Y (V.int (2*(n:Int)+0)) H7
    rw[ev];exact hY _ _ S4 S6 st
  ·intro D7 H7 wT S6 S4;rw[XC (by rw[Ul,vK G ln,ln];exact Ql _)] at S4;refine⟨D7,_,rfl,g5.trans (g6.trans S6),?_⟩;rw[S4,ek,Zp,hns];rfl
 ·rintro σ H5 ⟨r,v6,rfl,g5,e5⟩;have lm:(as.map V.ref).length=Fs.length:=by rw[Ul,hp.length]
  rw[lm,Z8] at e5;exact⟨_,rfl,q r H5 (mI.trans g5) e5⟩
theorem qhK{f fl fa ft fn ff:Addr}{fd xQ fda xN fdn fdf:FuncData}(F:Fun K "put_in" "put_in" y6 f fd)(T:Txt mg)(Gl:Dp P w K mg base 1 fl xQ ["form"] (jS K) "letters_of")(Ga:Dp P w K mg base 2 fa fda ["forms"] (qfK K) "letters_in_all")(Gt:Dp P w K mg base 11 ft xN ["form","letters"] (kn K) "table_of")(Gn:Dp P w K mg base 12 fn fdn ["forms","letters"] (qdg K) "numbers_by")(Gf:Dp P w K mg base 11 ff fdf ["letters","table"] (qc9 K) "form_of"):FnOk P w K mg base CX0 13 f fd ["form","forms"] (qdK K):=by
 refine F.okd qaB (λ cdv A outer s H vs Q E hr h=>?_);obtain⟨a,d,F,g,rfl,hF,⟨kvs,hd,hk⟩,fF,fg,C3,q⟩:=h;have bI:Room 1 _:=hr.mono (by decide);have hr2:Room 2 _:=hr.mono (by decide);have fC:Room 11 _:=hr.mono (by decide);have hu:=jV hr;refine⟨_,qf (qt (i:=2) qaB.nd rfl (Or.inl rfl) (zk Gl.g bI rfl Gl.m Gl.e Gl.b .nil yE (qa (pv 0) qc)))
  (qf (qby (i:=3) qaB.nd rfl rfl (csc (NY:=["letter","forms"]) (o:=1) (caps:=[1]) ["forms"] rfl
    (by intro x hx;rw[Y9.mp hx];exact .inl rfl) (vI rfl rfl rfl yY) rfl) rfl
   (jx (pv 2)) (λ C s H fp pins=>qp (i:=0) qit rfl (Or.inl rfl)) (λ C s H fp pins=>zd) (λ C s H fp pins=>qeL hu (pv 1) (pv 0) (vF (qa (pv 0) qc)) ⟨rfl,rfl,rfl,rfl⟩))
  (qf (qt (i:=4) qaB.nd rfl (Or.inl rfl) (zk Ga.g hr2 rfl Ga.m Ga.e Ga.b .nil yE (qa (pv 3) qc)))
  (qf (qt (i:=5) qaB.nd rfl (Or.inr rfl) (zk Gt.g fC rfl Gt.m Gt.e Gt.b .nil yE (qa (pv 0) (qa (pv 2) qc))))
  (qm (qN (zk Gf.g fC rfl Gf.m Gf.e Gf.b .nil yE (qa (pv 4) (qa (zu (csc (NY:=["number","own_table"]) (o:=1) (caps:=[5]) ["own_table"] rfl
    (by intro x hx;rw[Y9.mp hx];exact .inl rfl) (vI rfl rfl rfl yY) rfl) rfl
   (yP (zk Gn.g hr rfl Gn.m Gn.e Gn.b .nil yE (qa (pv 3) (qa (pv 4) qc)))) (λ C s H fp pins=>qp (i:=0) qiu rfl (Or.inl rfl)) (λ C s H fp pins=>zd) (λ C s H fp pins=>ju (r:=qid K) zQ (pv 1) (pv 0) (λ _ _=>rfl))) qc)))))))),?_⟩
 have pZ:=fF.few;have hs:(qi (qb F)).cps.size=(qb F).length:=qJ _;refine⟨_,rfl,a,F,rfl,hF,fF.flat,fF.len,by omega,λ H1 g1=>?_⟩;refine⟨_,rfl,_,rfl,?_⟩;rw[hs];refine yg (qb F).length (λ i ys H2=>∃ as:List Addr,ys=as.map V.ref/\Paired (λ c (G:List Pr)=>SqT K H1 c (G.map vS)∨H2 c=some (.tup (G.map vS))) as (((qb F).take i).map g)) (λ D hD=>⟨[],rfl,.nil⟩) ?_ ?_ (λ H2 sm=>rfl) ?_
 ·rintro i ys H2 hi ⟨as,rfl,hp⟩
  have:=hp.length
  rw[Ul,Zy] at this;rw[Ul];exact qZ (by omega)
 ·rintro i ys H2 D Y Z hi hD o0 sm ⟨as,rfl,hp⟩ hY hZ;refine⟨hi,?_⟩;rintro x H' ⟨rfl,rfl⟩;rw[jJ hi];refine⟨⟨rfl,rfl⟩,?_⟩;have hd2:H' d=some (.dK kvs):=sm _ _ (g1 _ _ hd);refine⟨_,rfl,d,rfl,.inl ⟨kvs,.inl hd2⟩,_,rfl,_,rfl,qP (by show 1<=_;decide),λ t ht=>?_⟩;have cV:D≠t:=qr o0 ht;have V1:upd H' t (.tup [vS [(qb F)[i]]]) d=some (.dK kvs):=(ql.up ht) _ _ hd2;refine⟨_,j2.k (k:=Sum.inr (qi [(qb F)[i]])) V1,?_⟩;have et:(qb F).take (i+1)=(qb F).take i++[(qb F)[i]]:=Xa hi;have keep:Paired (λ c (G:List Pr)=>SqT K H1 c (G.map vS)∨(upd (upd H' t (.tup [vS [(qb F)[i]]])) D (.lst (as.map V.ref++[(qY kvs (Sum.inr (qi [(qb F)[i]]))).getD (.ref t)]))) c=some (.tup (G.map vS))) as (((qb F).take i).map g):=
   L2.Paired.mapP hp λ b G e=>by
    rcases e with e|e
    ·exact .inl e
    ·right
     have wL:b≠D:=qey e o0 (by intro z;cases z);rw[qg wL,qg (qr e ht)];exact e
  rcases hk (qb F)[i] (Z6 _) with⟨e1,e2⟩|⟨r,e1,e2⟩
  ·rw[e1] at keep ⊢;refine hY _ _ (by rw[qg cV];exact o0) (sm.to ht) ⟨as++[t],by rw[Ur];rfl,?_⟩;rw[et,Ur];refine qE keep (.cons (.inr ?_) .nil);rw[qg (Q2 cV),qe,e2];rfl
  ·rw[e1] at keep ⊢;refine hY _ _ (by rw[qg cV];exact o0) (sm.to ht) ⟨as++[r],by rw[Ur];rfl,?_⟩;rw[et,Ur];exact qE keep (.cons (.inl (g1.seqT e2)) .nil)
 rintro D H2 ys hD sm o0 ⟨as,rfl,hp⟩;rw[Z8] at hp;have p6:Paired (λ c (G:List Pr)=>SqT K H2 c (G.map vS)) as ((qb F).map g):=L2.Paired.mapP hp λ b G e=>e.elim (λ h=>sm.seqT h) (λ h=>SqT.of h)
 have la:as.length=(qb F).length:=by rw[p6.length,Ul]
 have mK:=g1.trans sm;refine⟨_,rfl,D,as,_,rfl,SqL.of o0,p6,by rw[Ul];omega,λ G hG=>?_,C3,λ H3 g3=>?_⟩
 ·obtain⟨c,hc,rfl⟩:=Qd.mp hG;exact fg c hc
 generalize hL:qy ((qb F).map g)=L at C3 ⊢;have pL:2^L.length<=512:=jR C3;have cY:=mK.trans g3;refine⟨_,rfl,_,rfl,a,F,qb F,rfl,cY.seqT hF,fF.len,pZ,λ rt H4 g4 e4=>?_⟩;have tl:=zi F (qb F);have g34:=g3.trans g4;refine⟨_,rfl,_,rfl,_,rfl,D,as,(qb F).map g,L,rfl,SqL.of (g34 _ _ o0),L2.Paired.mapP p6 (λ b G e=>g34.seqT e),λ G hG=>?_,C3,λ r H5 g5 e5=>?_⟩
 ·obtain⟨c,hc,rfl⟩:=Qd.mp hG;exact fg c hc
 have ln:=qan L ((qb F).map g);have iY:=qaC (L:=L) ((qb F).map g) (List.replicate (2^L.length) 0) 1 (λ n hn=>by rw[List.eq_of_mem_replicate hn];decide);rw[Ul,Nat.one_mul] at iY;change ∀ n∈vb L ((qb F).map g),n<2^(qb F).length at iY
 have gZ:Fs.putIn F g=formOf L ((vb L ((qb F).map g)).map λ n=>(qL F (qb F)).getD n false):=by rw[Fs.putIn,hL]
 generalize vb L ((qb F).map g)=ns at ln iY e5 gZ;have xB:=cY.trans (g4.trans g5);refine⟨r,rfl,⟨_,SqL.of e5⟩,?_⟩;refine qbA (SqL.of e5) (λ j=>((ns.map λ n=>(qL F (qb F)).getD n false).take j).map V.bl) rfl (λ j hj=>?_) ?_ ?_
 ·rw[Ul,Zy,Ul];exact qZ (by omega)
 ·intro j x H7 D7 Y Z hx wT S4 S6 hY hZ;obtain⟨n,hn,rfl⟩:=qj hx;have d4:n<(qL F (qb F)).length:=by rw[tl];exact iY n (Yd hn)
  refine⟨⟨rfl,rfl⟩,?_⟩;have N4:=jd (xs:=(qL F (qb F)).map V.bl) (j:=n) (v:=.bl ((qL F (qb F)).getD n false)) (by
   rw[Ze,Xv d4,Xi,Xv d4];rfl)
  refine⟨_,rfl,_,rfl,rt,_,_,_,rfl,rfl,SqL.of (S6 _ _ (g5 _ _ e4)),N4,?_⟩;exact hY _ _ S4 S6 (yh (f:=V.bl) (by rw[Ze,hn];rfl))
 ·intro D7 H7 wT S6 S4;rw[XC (by rw[Ul,Ul];exact Ql _)] at S4;refine⟨D7,_,L,rfl,SqL.of S4,by rw[Ul,ln],C3,by rw[<- hL];exact qO Jr (zn _),λ r8 H8 g8 e8=>?_⟩;refine q r8 H8 (xB.trans (S6.trans g8)) ?_;rw[e8,gZ]
theorem qbP{kvs:List (Key×V)}{k:Key}(h:k∉kvs.map (·.1)):qY kvs k=none:=by
 unfold qY;rw[List.find?_eq_none.mpr λ p hp=>by
  intro e;exact h (Qd.mpr ⟨p,hp,Zx e⟩)]
 rfl
theorem qbh:∀(l d6:List (Key×V)),((d6++l).map (·.1)).Nodup->qu d6 l=d6++l
 | [],d6,_=>by rw[Ui];rfl
 |x::l,d6,h=>by
  have e:d6++x::l=(d6++[x])++l:=by simp
  have hx:x.1∉d6.map (·.1):=λ hm=>by
   rw[Ur,Jv,Zj] at h;exact h.2.2 _ hm _ (Y1 ..) rfl
  show qu (zU d6 x.1 x.2) l=_
  rw[kD _ (qbP hx),e];exact qbh l (d6++[x]) (by rw[<- e];exact h)
theorem qaD{c d:Nat}(h:(Sum.inr (qi [c]):Key)=Sum.inr (qi [d])):c=d:=by have:=yZ (Sum.inr.inj h);simpa using this
theorem qeq(gp:List Nat)(ys:List V):kvK (zo (qi gp) ys)=(gp.zip ys).map λ p=>((Sum.inr (qi [p.1]):Key),p.2):=by
 unfold kvK zo;rw[show(qi gp).cps.toList=gp from rfl,List.zip_map_left,Qe];rfl
theorem qi1{gp:List Nat}{ys:List V}(nd:gp.Nodup)(hl:gp.length=ys.length):∀ c,(c∉gp->qY (qu [] (kvK (zo (qi gp) ys))) (.inr (qi [c]))=none)/\∀(j:Nat) v,gp[j]?=some c->ys[j]?=some v->qY (qu [] (kvK (zo (qi gp) ys))) (.inr (qi [c]))=some v:=by
 intro c;have e:qu [] (kvK (zo (qi gp) ys))=(gp.zip ys).map λ p=>((Sum.inr (qi [p.1]):Key),p.2):=by
  rw[qeq,qbh _ [] ?_]
  ·rfl
  ·rw[Uq,Qe]
   have:(gp.zip ys).map ((λ p:Key×V=>p.1) ∘ λ p:Nat×V=>((Sum.inr (qi [p.1]):Key),p.2))=gp.map λ c=>(Sum.inr (qi [c]):Key):=by
    rw[show((λ p:Key×V=>p.1) ∘ λ p:Nat×V=>((Sum.inr (qi [p.1]):Key),p.2))=(λ c=>(Sum.inr (qi [c]):Key)) ∘ Prod.fst from rfl,<- Qe,List.map_fst_zip (by omega)]
   rw[this];exact Zk.mpr (nd.imp λ{a b} o7 e=>o7 (qaD e))
 rw[e];constructor
 ·intro hc;refine qbP λ hm=>?_
  rw[Qe] at hm;obtain⟨p,hp,e⟩:=Qd.mp hm;exact hc (qaD e ▸ (Uk hp).1)
 ·intro j v h1 h2;have gen:∀(l:List Nat)(m:List V)(j:Nat),l.Nodup->l[j]?=some c->m[j]?=some v->qY ((l.zip m).map λ p=>((Sum.inr (qi [p.1]):Key),p.2)) (.inr (qi [c]))=some v:=by
   intro l;induction l with
   |nil=>intro m j _ h;simp at h
   |cons a l ih =>
    intro m j nd h1 h2;obtain⟨n1,n2⟩:=Uj.mp nd;cases m with
    |nil=>simp at h2
    |cons b m =>
     rw[Y6,Jv];cases j with
     |zero =>
      have e1:a=c:=Option.some.inj h1;have e2:b=v:=Option.some.inj h2;subst e1 e2;exact zg rfl
     |succ j =>
      have hm:c∈l:=Yd h1;rw[zh (λ q=>n1 (by rw[qaD (c:=a) (d:=c) q];exact hm))];exact ih m j n2 h1 h2
  exact gen gp ys j nd h1 h2
def qdh:Sp:=λ vs H Q _=>∃(d1 d2:Addr)(kvs more:List (Key×V)),vs=[.ref d1,.ref d2]/\H d1=some (.dK kvs)/\H d2=some (.dK more)/\kvs.length+more.length<=1000/\∀ d H',ql H H'->H d=none->H' d=some (.dK (qu kvs more))->Q (.ref d) H'
theorem qdi(kvs l:List (Key×V))(x:Key×V):qu kvs (l++[x])=zU (qu kvs l) x.1 x.2:=by unfold qu;rw[Zp];rfl
theorem kt:FnScope [sC2,sA9,sA2,sB0,"_law_truth"] [sC2,sA9] (qd ya):=scF
theorem qgH{f :Addr}{fd :FuncData}(F:Fun K sC0 sC0 ya f fd)(T:Txt mg): FnOk P w K mg base CX0 1 f fd [sC2,sA9] (qdh):=by
 refine F.okd kt (λ cdv A outer s H vs Q E hr h=>?_);obtain⟨d1,d2,kvs,more,rfl,h1,h2,hz,q⟩:=h;have t6:=jV hr;refine⟨_,(qf (qt (i:=2) kt.nd rfl (Or.inl rfl) (q9 (qcl) (by rfl) T.dict qdF (qa (pv 0) qc)))
  (qf (qgo (qbC (n:=2) Ux rfl (qfr (pv 1)) (zc (qp (i:=3) kt.nd rfl (Or.inl rfl)) (zc (qp (i:=4) kt.nd rfl (Or.inl rfl)) jb))
  (qm (qbl t6 (pv 2) (pv 3) (pv 4) rfl))))
  (qm (qN (pv 2))))),?_⟩
 refine⟨_,rfl,d1,_,rfl,h1,λ p hp=>?_⟩;have g0:=ql.up hp (o:=.dK kvs);have e2:=g0 _ _ h2;have np:p≠d2:=λ e=>by rw[e,h2] at hp;cases hp
 refine⟨d2,more,e2,_,rfl,d2,more,rfl,e2,λ ob=>?_⟩;refine qhA (λ i σ H1=>∃ v3 v4:Option V,σ=[some (.ref d1),some (.ref d2),some (.ref p),v3,v4]/\H1 d2=some (.frz ob (.dK more))/\H1 p=some (.dK (qu kvs (more.take i)))/\∀ b o,b≠d2->H b=some o->H1 b=some o) ⟨none,none,rfl,qe,?_,?_⟩ (λ i σ H1 _ ⟨_,_,_,h,_⟩=>h) ?_ ?_
 ·rw[qg np,qe];rfl
 ·intro b o hb e;rw[qg hb];exact g0 _ _ e
 ·rintro i k v σ H1 hk ⟨v3,v4,rfl,hf,G9,hb⟩;refine⟨_,_,rfl,_,_,rfl,rfl,?_⟩;have hl:(qu kvs (more.take i)).length<sizeLine:=by have:=yc (more.take i) kvs;rw[Zy] at this;exact qZ (by omega)
  refine⟨_,rfl,_,rfl,_,rfl,p,_,rfl,.inl ⟨_,k,G9,rfl,hl,rfl⟩,?_⟩;refine⟨_,_,rfl,by rw[qg (Q2 np)];exact hf,?_,λ b o fX e=>?_⟩
  ·rw[qe,qS hk,qdi]
  ·rw[qg (λ q=>by rw[q,hp] at e;cases e)];exact hb b o fX e
 ·rintro σ H1 ⟨v3,v4,rfl,hf,G9,hb⟩;rw[Z8] at G9;refine⟨ob,hf,_,rfl,q p _ (λ b o e=>?_) hp (by rw[qg np];exact G9)⟩;by_cases fX:b=d2
  ·rw[fX] at e ⊢;rw[h2] at e;cases e;exact qe
  ·rw[qg fX];exact hb b o fX e
theorem qer{ls:List Nat}{r:List Bool}(h:ls.length=r.length):(yL ls r).map (·.1)=ls.map λ c=>(Sum.inr (qi [c]):Key):=by
 unfold yL;rw[Qe]
 have:∀(ls:List Nat)(r:List Bool),ls.length=r.length->(ls.zip r).map ((λ x:Key×V=>x.1) ∘ λ x:Nat×Bool=>((Sum.inr (qi [x.1]):Key),V.bl x.2))=ls.map λ c=>(Sum.inr (qi [c]):Key):=by
  intro ls;induction ls with
  |nil=>intro r _;rfl
  |cons a l ih=>intro r h;cases r with
   |nil=>cases h
   |cons b r=>rw[Y6,Jv,Jv,ih r (by simpa using h)];rfl
 exact this ls r h
theorem qdj{ls:List Nat}{r:List Bool}(nd:ls.Nodup)(h:ls.length=r.length):((yL ls r).map (·.1)).Nodup:=by
 rw[qer h];exact Zk.mpr (nd.imp λ{a b} o7 e=>by
  have:=yZ (Sum.inr.inj e)
  simp at this;exact o7 this)
def qbQ(K:W.Frag):Sp:=λ vs H Q _=>∃(a d:Addr)(F:List Pr)(kvs:List (Key×V))(ρ:Nat->Bool),vs=[.ref a,.ref d]/\SqT K H a (F.map vS)/\H d=some (.dK kvs)/\(∀ p∈F,∀ c∈p,qY kvs (.inr (qi [c]))=some (.bl (ρ c)))/\(∀ p∈F,p.length<=1000)/\∀ H',ql H H'->Q (.bl (qo ρ F)) H'
theorem qdk(ρ:Nat->Bool)(F:List Pr)(p:Pr):qo ρ (F++[p])=xor (qo ρ F) (p.all ρ):=by rw[yq];simp[qo]
theorem qhL(l:List Nat)(ρ:Nat->Bool):(l.map ρ).all id=l.all ρ:=by rw[List.all_map];rfl
theorem vD:FnScope [sA6,sA2,"_law_odd",sC2] [sA6,sA2] (qd zM):=scF
theorem qfM{f :Addr}{fd :FuncData}(F:Fun K sB6 sB6 zM f fd)(T:Txt mg): FnOk P w K mg base CX0 1 f fd [sA6,sA2] (qbQ K):=by
 refine F.okd vD (λ cdv A outer s H vs Q E hr h=>?_);obtain⟨a,d,F,kvs,ρ,rfl,hF,hd,hm,h9,q⟩:=h;have t6:=jV hr;refine⟨_,(qf (qt (i:=2) vD.nd rfl (Or.inl rfl) qaP)
  (qf (yA Ux rfl (qeF (pv 0)) (qp (i:=3) vD.nd rfl (Or.inl rfl))
  (qm (jU (js (qG (qce rfl) (by rfl) T.all qhF (qa (zu (csc (NY:=[sB0,sA2]) (o:=1) (caps:=[1]) [sA2] rfl
    (by intro x hx;rw[Y9.mp hx];exact .inl rfl) (vI rfl rfl rfl yY) rfl) rfl
    (jx (pv 3)) (λ C0 s H fp pins=>qp (i:=0) (show([sB0,sA2]:List Str).Nodup by decide +kernel) rfl (Or.inl rfl)) (λ C0 s H fp pins=>zd) (λ C0 s H fp pins=>(kc t6 (pv 1) (pv 0) (λ _ _=>rfl)))) qc)))
   (qm (qt (i:=2) vD.nd rfl (Or.inl rfl) (qeD (pv 2)))) yb)))
  (qm (qN (pv 2))))),?_⟩
 refine⟨_,rfl,a,rfl,⟨_,hF⟩,?_⟩;refine qf3 (K:=K) (xs:=F.map vS) (λ i σ H1=>∃(v3:Option V),σ=[some (.ref a),some (.ref d),some (.bl (qo ρ (F.take i))),v3]/\ql H H1) ⟨none,rfl,ql.refl H⟩ (λ i σ H1 hi ⟨_,_,g⟩=>g.seqT hF) ?_ ?_
 ·rintro i x σ H1 hx ⟨v3,rfl,g1⟩;obtain⟨p,hp,rfl⟩:=qj hx;have lR:=Yd hp;have hs:(qi p).cps.size=p.length:=qJ p;have wt:qo ρ (F.take (i+1))=xor (qo ρ (F.take i)) (p.all ρ):=by rw[show F.take (i+1)=F.take i++[p] by rw[Jc,hp];rfl,qdk]
  refine⟨_,rfl,_,rfl,?_⟩;refine qac (λ j=>((p.map ρ).take j).map V.bl) rfl (λ j hj=>?_) ?_ ?_
  ·rw[Ul,Zy,Ul];have:=h9 p lR;exact qZ (by omega)
  ·intro j H2 D Y Z hj hD o0 sm hY hZ;rw[hs] at hj;rw[jJ hj];refine⟨⟨rfl,rfl⟩,?_⟩;have gd:=j2.k (k:=Sum.inr (qi [p[j]])) (sm _ _ (g1 _ _ hd));rw[hm p lR _ (Z6 hj)] at gd;refine⟨_,rfl,_,rfl,d,_,rfl,gd,?_⟩;exact hY _ _ o0 sm (yh (f:=V.bl) (by rw[Ze,Xv hj];rfl))
  ·intro D H2 hD sm o0;rw[hs,XC (by rw[Ul];exact Ql _)] at o0;refine⟨D,p.map ρ,rfl,SqL.of o0,_,rfl,?_⟩;rw[qhL];refine qb3 (λ c=>?_) (λ c=>?_)
   ·refine⟨_,rfl,_,rfl,?_⟩;exact⟨_,by rw[wt,c,Bool.xor_true];rfl,g1.trans sm⟩
   ·exact⟨_,by rw[wt,Bool.eq_false_iff.mpr c,Bool.xor_false];rfl,g1.trans sm⟩
 ·rintro σ H1 ⟨v3,rfl,g1⟩;rw[Ul,Z8];exact⟨_,rfl,q H1 g1⟩
def zx(c:Nat):Nat:=c-8
def jn:Sp:=λ vs H Q _=>∃(gp:List Nat),vs=[vS gp]/\gp.Sublist [120,121,122]/\∀ H',ql H H'->Q (vS (gp.map zx)) H'
def qfN:List (Key×V):=[(.inr "x",.str "p"),(.inr "y",.str "q"),(.inr "z",.str "r")]
theorem qgI:∀ c∈([120,121,122]:List Nat),qY (qu [] qfN) (.inr (qi [c]))=some (vS [zx c]):=by decide +kernel
theorem qfO:FnScope [sC1] [sC1] (qd zN):=scF
theorem qfP{f :Addr}{fd :FuncData}(F:Fun K sB7 sB7 zN f fd)(T:Txt mg): FnOk P w K mg base CX0 1 f fd [sC1] (jn):=by
 refine F.okd qfO (λ cdv A outer s H vs Q E hr h=>?_);obtain⟨gp,rfl,G6,q⟩:=h;have t6:=jV hr;refine⟨_,(qm (qN (yQ XG XV XW yT qH (qa (zu (csc (NY:=[sC4]) (o:=1) (caps:=[]) [] rfl
    (by simp) yY rfl) rfl
    (jx (pv 0)) (λ C0 s H fp pins=>qp (i:=0) (show([sC4]:List Str).Nodup by decide +kernel) rfl (Or.inl rfl)) (λ C0 s H fp pins=>zd) (λ C0 s H fp pins=>(kc t6 (qf6 (kH qH qH (kH qH qH (kH qH qH qf5))) rfl rfl (by simp) (by decide)) (pv 0) (λ _ _=>rfl)))) qc)))),?_⟩
 have hs:(qi gp).cps.size=gp.length:=qJ gp;have hz:("":Str).length=0:=by decide
 have lgp:gp.length<=3:=G6.length_le;refine⟨rfl,?_⟩;refine⟨_,rfl,_,rfl,?_⟩;refine qac (λ j=>((gp.map zx).take j).map λ c=>vS [c]) rfl (λ j hj=>?_) ?_ ?_
 ·rw[Ul,Zy,Ul];exact qZ (by omega)
 ·intro j H6 D6 Y Z hj bY u3 A1 hY hZ;rw[hs] at hj;rw[jJ hj];refine⟨⟨rfl,rfl⟩,?_⟩;refine λ p hp=>⟨qe,qfN,rfl,by decide,?_⟩
  have nD:D6≠p:=λ e=>by rw[<- e,u3] at hp;cases hp
  have hpu:∀{o o':HO},ql H6 (upd (upd H6 p o) p o'):=λ{o o'} b u e=>by rw[qg (λ q=>by rw[q,hp] at e;cases e),qg (λ q=>by rw[q,hp] at e;cases e)];exact e
  have gd:=j2.k (H:=upd (upd H6 p (.dK [])) p (.dK (qu [] qfN))) (k:=Sum.inr (qi [gp[j]])) (qe (a:=p));rw[qgI _ (G6.subset (Z6 hj))] at gd;refine⟨_,rfl,p,_,rfl,gd,?_⟩;exact hY _ _ (hpu _ _ u3) (A1.trans hpu) (yh (f:=λ c=>vS [c]) (by rw[Ze,Xv hj];rfl))
 ·intro D6 H6 bY A1 u3;rw[hs,XC (by rw[Ul];exact Ql _)] at u3;refine⟨_,D6,((gp.map zx).map λ c=>[c]).map qi,rfl,rfl,.inl (SqL.of (by rw[u3,jm,zt])),?_,?_⟩
  ·rw[yj,hz,zb,Ul];show _+_*0<=_;omega
  rw[yi,zb];exact q _ A1
def qbR(K:W.Frag):Sp:=λ vs H Q _=>∃(a:Addr)(ns:List Int)(N5:Int)(ls:List Nat),vs=[.ref a,.int N5,vS ls]/\Scr K H a ns/\0<=N5/\N5<=5000/\ls.Pairwise (·<·)/\ls.length<=6/\∀ r F H',ql H H'->On ls F->H' r=some (.tup (F.map vS))->Q (.ref r) H'
theorem qhM{l:List Bool}{i:Int}(h0:0<=i)(h:i<(l.length:Int)):∃ b,atI (l.map V.bl) i=some (.bl b):=by
 have hk:i.toNat<l.length:=by omega
 have:=jd (xs:=l.map V.bl) (j:=i.toNat) (v:=.bl l[i.toNat]) (by rw[Ze,Xv hk];rfl)
 rw[show((i.toNat:Nat):Int)=i by omega] at this;exact⟨_,this⟩
theorem qes{c:Prop}[Decidable c]{A B:Prop}(R:Bool->Prop)(hA:c->(∀ z,R z)->A)(hB:¬ c->(∀ z,R z)->B)(hC:∀ z,R z):if c then A else B:=by
 by_cases h:c
 ·rw[Q7 h];exact hA h hC
 ·rw[Q8 h];exact hB h hC
theorem zR:FnScope [sA1,"_law_at",sA0,"_law_many","_law_way","_law_found",sB1,sA2,sA8,"_law_cell"] [sA1,"_law_at",sA0] (qd qX):=scF
theorem qfQ{f n6 x5 B7:Addr}{fd n8 x6 B9:FuncData}(F:Fun K sA4 sA4 qX f fd)(T:Txt mg)(d8:Dp P w K mg base 1 n6 n8 [sA1,sB1] (jK K) sA7)(i8:Dp P w K mg base 1 x5 x6 [sA0,sA3] (qaA) sB4)(o4:Dp P w K mg base 2 B7 B9 [sA0,sA8] (kq K) sB5): FnOk P w K mg base CX0 3 f fd [sA1,"_law_at",sA0] (qbR K):=by
 refine F.okd zR (λ cdv A outer s H vs Q E hr h=>?_);obtain⟨a,ns,N5,ls,rfl,hS,a0,a1,hl,l6,q⟩:=h;have t6:=jV hr;refine⟨_,(qf (qt (i:=3) zR.nd rfl (Or.inl rfl) (ju zQ (zP (qa qh (qa qh (qa qh (qa qh (qa qh (qa qh (qa qh qc)))))))) (qG zm (by rfl) T.len Ji (qa (pv 2) qc)) (λ _ _=>rfl)))
  (qf (qt (i:=4) zR.nd rfl (Or.inl rfl) (qx zr (yF d8 hr (qa (pv 0) (qa (pv 1) qc))) qh))
  (qf (jU (zO qdu (qG zm (by rfl) T.len Ji (qa (pv 2) qc)) qh (zf _))
   (qf (qt (i:=5) zR.nd rfl (Or.inl rfl) (zP qc))
  (qf (yA Ux rfl (zy (by rfl) T.range (qa (qx zr (qx jc (yF d8 hr (qa (pv 0) (qa (pv 1) qc))) qh) qh) qc)) (qp (i:=6) zR.nd rfl (Or.inl rfl))
  (qf (qt (i:=7) zR.nd rfl (Or.inr rfl) (yF i8 hr (qa (pv 2) (qa (qx zr (yF d8 hr (qa (pv 0) (qa (qx yC (qx yC (pv 1) qh) (pv 6)) qc))) (pv 3)) qc))))
  (qm (ja (yQ X6 Xw Xx zV (pv 5) (qa (yQ XG XV XW yT qH (qa (zu (csc (NY:=[sB0,sA2]) (o:=1) (caps:=[7]) [sA2] rfl
    (by intro x hx;rw[Y9.mp hx];exact .inl rfl) (vI rfl rfl rfl yY) rfl) rfl
    (jx (pv 2)) (λ C0 s H fp pins=>qp (i:=0) (show([sB0,sA2]:List Str).Nodup by decide +kernel) rfl (Or.inl rfl)) (λ C0 s H fp pins=>(qbq (js (kc t6 (pv 1) (pv 0) (λ _ _=>rfl))))) (λ C0 s H fp pins=>(pv 0))) qc)) qc))))))
  (qm (qN (q9 yW (by rfl) T.tuple qaz (qa (qG (qal rfl) (by rfl) T.sorted y7 (qa (q9 (kX rfl) (by rfl) T.set qc6 (qa (pv 5) qc)) qc)) qc)))))) yb)
  (qf (qt (i:=8) zR.nd rfl (Or.inl rfl) (zP qc))
  (qf (yA Ux rfl (zy (by rfl) T.range (qa (pv 3) qc)) (qp (i:=6) zR.nd rfl (Or.inl rfl))
  (qf (qt (i:=9) zR.nd rfl (Or.inl rfl) (yF d8 hr (qa (pv 0) (qa (qx yC (qx yC (pv 1) qh) (pv 6)) qc))))
  (qm (ja (yQ X6 Xw Xx zV (pv 8) (qa (ju zQ (zP (qa (yo vd (qx zr (pv 9) qh) qh (zf _)) (qa (yo vd (qx zr (pv 9) qh) qh (zf _)) (qa (yo vd (qx zr (pv 9) qh) qh (zf _)) (qa (yo qdu (qx zr (pv 9) qh) qh (zf _)) (qa (qg3 (yo vd (pv 4) qh (zf _)) (qg2 (yo vd (qx zr (pv 6) qh) qh (zf _)))) qc)))))) (pv 4) (λ _ _=>rfl)) qc))))))
  (qm (qN (yF o4 hr (qa (pv 2) (qa (pv 8) qc)))))))))),?_⟩
 have fN:(qi ls).length=ls.length:=qJ ls;have hs:(qi ls).cps.size=ls.length:=qJ ls;have nd:=qO Jr hl;have hz:("":Str).length=0:=by decide
 have pY:2^ls.length<=64:=J7 (Yk (by decide) l6) (by decide);have c0:(0:Int)<((2^ls.length:Nat):Int):=by exact_mod_cast Nat.two_pow_pos _
 have c1:((2^ls.length:Nat):Int)<=64:=by exact_mod_cast pY
 refine⟨qP (by show 7<=_;decide),λ p hp=>?_⟩;have g0:=ql.up hp (o:=.lst (qdf.map V.int));refine⟨_,rfl,_,rfl,by rw[fN];exact qP (by omega),?_⟩;rw[fN];refine⟨p,_,_,_,rfl,rfl,SqL.of (show upd H p (.lst (qdf.map V.int)) p=some (.lst (qdf.map V.int)) from qe),qdJ l6,?_⟩;refine⟨_,rfl,_,rfl,a,ns,N5,rfl,hS.mono g0,a0,by omega,λ z H1 g1 z0 z1=>?_⟩;have gK:=g0.trans g1;have w0:=Uy z (b:=5) (by decide);have w1:=Za z (b:=5) (by decide);refine⟨_,_,rfl,rfl,(show(0:Int)<5 by decide),?_⟩;obtain⟨t5,aJ⟩:∃ m:Int,m=((2^ls.length:Nat):Int):=⟨_,rfl⟩;rw[<- aJ] at c0 c1 ⊢;refine⟨_,rfl,_,rfl,by rw[fN];exact qP (by omega),_,_,rfl,rfl,_,rfl,?_⟩;refine qb3 (λ c=>?_) (λ c=>?_)
 ·refine⟨Qm _,λ fb fR=>?_⟩;have g2:=ql.up fR (o:=.lst []);refine⟨_,rfl,_,rfl,a,ns,N5,rfl,hS.mono (gK.trans g2),a0,by omega,λ z2 H2 g3 y0 y1=>?_⟩;have n0:=Uy (z2 / 5) (b:=7) (by decide);have n1:=Za (z2 / 5) (b:=7) (by decide);refine⟨_,_,rfl,rfl,⟨by decide,by decide⟩,_,_,rfl,rfl,(show(0:Int)<7 by decide),_,rfl,by omega,by omega,?_⟩;refine yr (λ i σ H3=>∃(G:List Pr)(v6 v7:Option V),σ=[some (.ref a),some (.int N5),some (vS ls),some (.int t5),some (.int (z % 5)),some (.ref fb),v6,v7,none,none]/\ql H1 H3/\H3 fb=some (.lst (G.map vS))/\G.length=i/\∀ p∈G,p.Sublist ls) ⟨[],none,none,rfl,g2.trans g3,g3 _ _ qe,rfl,by simp⟩ ?_ ?_
  ·rintro i σ H3 hi ⟨G,v6,v7,rfl,g4,e4,lG,sG⟩;refine⟨_,rfl,_,rfl,_,rfl,_,_,rfl,rfl,_,rfl,_,_,rfl,rfl,a,ns,_,rfl,hS.mono (gK.trans g4),?_,?_,λ z3 H4 g5 x0 x1=>?_⟩
   ·show(0:Int)<=N5+1+(0+(i:Int));omega
   ·show N5+1+(0+(i:Int))<=100000;omega
   have m0:=Uy z3 (b:=t5) (by omega);refine⟨_,rfl,_,_,rfl,rfl,c0,ls,(z3 % t5).toNat,(by rw[Int.toNat_of_nonneg m0];rfl),nd,l6,λ d H5 g6 e6=>?_⟩;have eF:=g6 _ _ (g5 _ _ e4);have lr:ls.length=(qD ls.length (z3 % t5).toNat).length:=(y3 _ _).symm;refine⟨_,rfl,.inl ⟨rfl,_,SqL.of eF⟩,rfl,?_⟩;refine⟨_,rfl,_,rfl,?_⟩;refine qac (λ j=>((ls.take j).filter (asg ls (qD ls.length (z3 % t5).toNat))).map λ c=>vS [c]) rfl (λ j hj=>?_) ?_ ?_
   ·rw[Ul];have:=XX (asg ls (qD ls.length (z3 % t5).toNat)) (ls.take j);rw[Zy] at this;exact qZ (by omega)
   ·intro j H6 D6 Y Z hj bY u3 A1 hY hZ;rw[hs] at hj;rw[jJ hj];have fs:=vT (f:=asg ls (qD ls.length (z3 % t5).toNat)) hj;have gd:=j2.k (k:=Sum.inr (qi [ls[j]])) (A1 _ _ e6);rw[yM lr,Q7 (Z6 hj)] at gd;refine⟨⟨rfl,rfl⟩,?_⟩;refine⟨_,rfl,_,rfl,d,_,rfl,gd,_,rfl,?_⟩;refine qb3 (λ c=>?_) (λ c=>?_)
    ·refine⟨_,rfl,hY _ _ u3 A1 ?_⟩;show List.map _ ((ls.take (j+1)).filter _)=_
     rw[fs,Q7 c,Ur];rfl
    ·refine hZ _ u3 A1 ?_;show List.map _ ((ls.take (j+1)).filter _)=_
     rw[fs,Q8 c,Ui]
   ·intro D6 H6 bY A1 u3;rw[hs,Z8] at u3;have eS:ls.filter (asg ls (qD ls.length (z3 % t5).toNat))=sel ls (z3 % t5).toNat:=rfl;rw[eS] at u3;have sS:(sel ls (z3 % t5).toNat).Sublist ls:=List.filter_sublist;have lS:=sS.length_le;refine⟨_,D6,((sel ls (z3 % t5).toNat).map λ c=>[c]).map qi,rfl,rfl,.inl (SqL.of (by rw[u3,jm,zt])),?_,?_⟩
    ·rw[yj,hz,zb];show _+_*0<=_;omega
    rw[yi,zb];have xX:=A1 _ _ eF;refine⟨fb,_,_,rfl,rfl,xX,by rw[Ul];exact qZ (by omega),?_⟩;refine⟨G++[sel ls (z3 % t5).toNat],_,_,rfl,(((g4.trans g5).trans g6).trans A1).at fR,by rw[qe,Ur];rfl,by rw[Y4,XL,lG],λ p hp=>?_⟩;rcases Ug.mp hp with h|h
    ·exact sG p h
    ·rw[Y9.mp h];exact sS
  ·rintro σ H3 ⟨G,v6,v7,rfl,g4,e4,lG,sG⟩;refine⟨_,rfl,G.map qi,.inl ⟨fb,rfl,.inl (SqL.of (by rw[<- zt];exact e4))⟩,by rw[Ul];show _<4096;omega,λ l us G0 A7 hm=>?_⟩;have lJ:=yf G;have aK:∀ x,x∈us ↔ cs x∈jo G:=λ x=>by rw[hm x,qe7,zA]
   have hul:us.length<=64-1:=by
    have h1:=qad A7 lJ aK;have h2:=yt lJ (λ x hx=>(zA (l:=G)).mp hx);omega
   refine⟨l,us,rfl,qe,by show _<4096;omega,A7,λ l2 F0=>?_⟩;rw[qbB A7 lJ aK];refine⟨l2,_,rfl,.inl ⟨SqL.of qe,λ r N0=>?_⟩⟩;exact q r _ _ ((((gK.trans g4).to G0).to F0).to N0) ⟨⟨kO lJ,λ p hp=>hl.sublist (sG p (zA.mp (jO.mp hp)))⟩,λ p hp c hc=>(sG p (zA.mp (jO.mp hp))).subset hc⟩ qe
 ·refine⟨Qm _,λ tb cK=>?_⟩;have g2:=ql.up cK (o:=.lst []);refine⟨_,rfl,_,rfl,by omega,by omega,?_⟩;refine yr (λ i σ H3=>∃(t:List Bool)(v6 v9:Option V),σ=[some (.ref a),some (.int N5),some (vS ls),some (.int t5),some (.int (z % 5)),none,v6,none,some (.ref tb),v9]/\ql H1 H3/\H3 tb=some (.lst (t.map V.bl))/\t.length=i) ⟨[],none,none,rfl,g2,qe,rfl⟩ ?_ ?_
  ·rintro i σ H3 hi ⟨t,v6,v9,rfl,g4,e4,lt⟩;refine⟨_,rfl,_,rfl,_,_,rfl,rfl,_,rfl,_,_,rfl,rfl,a,ns,_,rfl,hS.mono (gK.trans g4),?_,?_,λ z3 H4 g5 x0 x1=>?_⟩
   ·show(0:Int)<=N5+1+(0+(i:Int));omega
   ·show N5+1+(0+(i:Int))<=100000;omega
   have eT:=g5 _ _ e4;refine⟨_,rfl,.inl ⟨rfl,_,SqL.of eT⟩,?_⟩;refine⟨_,rfl,_,_,rfl,rfl,(show(0:Int)<2 by decide),rfl,_,rfl,_,_,rfl,rfl,(show(0:Int)<4 by decide),rfl,_,rfl,_,_,rfl,rfl,(show(0:Int)<8 by decide),rfl,_,rfl,_,_,rfl,rfl,(show(0:Int)<3 by decide),_,_,rfl,rfl,_,rfl,rfl,_,rfl,?_⟩;generalize decide (V.int (z3 % 2)=V.int 0)=b1;generalize decide (V.int (z3 % 4)=V.int 0)=b2;generalize decide (V.int (z3 % 8)=V.int 0)=b3;refine qes ?R (λ c C=>?hA) (λ c C=>?hB) ?hC
   case hA =>
    refine⟨_,rfl,_,_,rfl,rfl,(show(0:Int)<3 by decide),rfl,?_⟩;generalize decide (V.int ((0+(i:Int)) % 3)=V.int 1)=b5;exact C b5
   case hB =>
    exact C false
   intro b5;refine⟨qP (by show 5<=_;decide),λ p5 hp5=>?_⟩;obtain⟨b,hb⟩:=qhM (l:=[b1,b2,b3,decide ((0:Int)<z3 % 3),b5]) w0 w1;have g7:=ql.up hp5 (o:=.lst [V.bl b1,V.bl b2,V.bl b3,V.bl (decide ((0:Int)<z3 % 3)),V.bl b5]);refine⟨_,rfl,p5,_,_,_,rfl,rfl,SqL.of qe,hb,?_⟩;refine⟨tb,_,_,rfl,rfl,g7 _ _ eT,by rw[Ul];exact qZ (by omega),?_⟩;exact⟨t++[b],_,_,rfl,((g4.trans g5).trans g7).at cK,by rw[qe,Ur];rfl,by rw[Y4,XL,lt]⟩
  ·rintro σ H3 ⟨t,v6,v9,rfl,g4,e4,lt⟩;refine⟨_,rfl,_,rfl,tb,t,ls,rfl,SqL.of e4,by rw[lt,aJ];exact Zf _,hl,l6,λ r H' g e=>?_⟩;exact q r _ H' ((gK.trans g4).trans g) (On.formOf hl t) e
def qfR:List (Str×Str):=[("x","p"),("y","q"),("z","r")]
theorem qfS:∀ c∈([120,121,122]:List Nat),qfR.lookup (qi [c])=some (qi [zx c]):=by decide +kernel
theorem qet:FnScope ["gaps"] ["gaps"] (qd yw):=scF
theorem qeu{f :Addr}{fd :FuncData}(F:Fun K "free_of" "free_of" yw f fd)(T:Txt mg){fr:Addr}(O0:mg "FREE"=some (.ref fr))(P4:GD K w fr qfR): FnOk P w K mg base CX0 1 f fd ["gaps"] (jn):=by
 refine F.okd qet (λ cdv A outer s H vs Q E hr h=>?_);obtain⟨gp,rfl,G6,q⟩:=h;refine⟨_,(qm (qN (yQ XG XV XW yT qH (qa (zu (csc (NY:=["gap"]) (o:=1) (caps:=[]) [] rfl
    (by simp) yY rfl) rfl
    (jx (pv 0)) (λ C0 s H fp pins=>qp (i:=0) (show(["gap"]:List Str).Nodup by decide +kernel) rfl (Or.inl rfl)) (λ C0 s H fp pins=>zd) (λ C0 s H fp pins=>(qgs (by rfl) O0 P4 (pv 0) (λ _ _=>rfl)))) qc)))),?_⟩
 have hs:(qi gp).cps.size=gp.length:=qJ gp;have hz:("":Str).length=0:=by decide
 have lgp:gp.length<=3:=G6.length_le;refine⟨rfl,?_⟩;refine⟨_,rfl,_,rfl,?_⟩;refine qac (λ j=>((gp.map zx).take j).map λ c=>vS [c]) rfl (λ j hj=>?_) ?_ ?_
 ·rw[Ul,Zy,Ul];exact qZ (by omega)
 ·intro j H6 D6 Y Z hj bY u3 A1 hY hZ;rw[hs] at hj;rw[jJ hj];refine⟨⟨rfl,rfl⟩,?_⟩;refine⟨_,rfl,qi [gp[j]],qi [zx gp[j]],rfl,qfS _ (G6.subset (Z6 hj)),?_⟩;exact hY _ _ u3 A1 (yh (f:=λ c=>vS [c]) (by rw[Ze,Xv hj];rfl))
 ·intro D6 H6 bY A1 u3;rw[hs,XC (by rw[Ul];exact Ql _)] at u3;refine⟨_,D6,((gp.map zx).map λ c=>[c]).map qi,rfl,rfl,.inl (SqL.of (by rw[u3,jm,zt])),?_,?_⟩
  ·rw[yj,hz,zb,Ul];show _+_*0<=_;omega
  rw[yi,zb];exact q _ A1
theorem qaE(d:Nat):qb [[d]]=[d]:=ve Jr (λ a b h=>Nat.lt_asymm h) (zn _) (by simp) λ x=>by rw[zj];simp
theorem qdl(d:Nat):Fit [[d]]:=⟨by simp,by simp,by rw[qaE];simp⟩
def gOf(gp:List Nat)(Fs:List (List Pr))(c:Nat):List Pr:=(((gp.zip Fs).find? λ x=>decide (x.1=c)).map (·.2)).getD [[c]]
theorem vL{gp:List Nat}{Fs:List (List Pr)}{c:Nat}(h:c∉gp):gOf gp Fs c=[[c]]:=by
 unfold gOf;rw[List.find?_eq_none.mpr λ p hp=>by
  intro e;exact h (Zx e ▸ (Uk hp).1)]
 rfl
theorem qdm:∀{gp:List Nat}{Fs:List (List Pr)}{j c:Nat}{F:List Pr},gp.Nodup->gp[j]?=some c->Fs[j]?=some F->gOf gp Fs c=F
 | [],_,j,c,F,_,h,_=>by simp at h
 |d::gp,[],j,c,F,_,_,h=>by simp at h
 |d::gp,G::Fs,0,c,F,_,h1,h2=>by
  have e1:d=c:=Option.some.inj h1;have e2:G=F:=Option.some.inj h2;subst e1 e2;unfold gOf;rw[Y6,Um];simp
 |d::gp,G::Fs,j+1,c,F,nd,h1,h2=>by
  obtain⟨n1,n2⟩:=Uj.mp nd;have hc:c∈gp:=Yd (i:=j) (by simpa using h1);have ne:¬ d=c:=λ e=>n1 (e ▸ hc)
  have:=qdm (j:=j) n2 (by simpa using h1) (by simpa using h2)
  unfold gOf at this ⊢;rw[Y6,Um,show decide ((d,G).1=c)=false from Uz ne];exact this
theorem qfT:∀{gp:List Nat}{r:List Bool}{j c:Nat}{b:Bool},gp.Nodup->gp[j]?=some c->r[j]?=some b->asg gp r c=b
 | [],_,j,c,F,_,h,_=>by simp at h
 |d::gp,[],j,c,F,_,_,h=>by simp at h
 |d::gp,G::Fs,0,c,F,_,h1,h2=>by
  have e1:d=c:=Option.some.inj h1;have e2:G=F:=Option.some.inj h2;subst e1 e2;exact qaq ..
 |d::gp,G::Fs,j+1,c,F,nd,h1,h2=>by
  obtain⟨n1,n2⟩:=Uj.mp nd;have hc:c∈gp:=Yd (i:=j) (by simpa using h1);rw[qar _ _ _ (λ e:d=c=>n1 (e ▸ hc))];exact qfT (j:=j) n2 (by simpa using h1) (by simpa using h2)
theorem qaF{L gp:List Nat}{Fs:List (List Pr)}(hl:Fs.length=gp.length)(nd:gp.Nodup)(oF:∀ F∈Fs,On L F){c:Nat}(h:c∈gp):∃(j:Nat)(F:List Pr),gp[j]?=some c/\Fs[j]?=some F/\gOf gp Fs c=F/\On L F:=by
 obtain⟨j,hj⟩:=List.mem_iff_getElem?.mp h;have cS:=yH hj;have hF:Fs[j]?=some Fs[j]:=Xv (by omega);exact⟨j,_,hj,hF,qdm nd hj hF,oF _ (Yd hF)⟩
theorem qfU{ls:List Nat}{F:List Pr}(h:On ls F)(hl:ls.Pairwise (·<·))(l6:ls.length<=6):Fit F:=by
 have h1:=h.len hl;have h2:=h.flat hl;have h3:2^ls.length<=64:=J7 (Yk (by decide) l6) (by decide);have h4:F.length*ls.length<=64*6:=Nat.mul_le_mul (by omega) l6;refine⟨by omega,by omega,?_⟩
 have:=yt (m:=ls) (qO Jr (zn F)) λ c hc=>by
  obtain⟨p,hp,hc⟩:=zj.mp hc;exact h.mem p hp c hc
 omega
theorem qgJ{L gp:List Nat}{Fs:List (List Pr)}(hl:Fs.length=gp.length)(nd:gp.Nodup)(oF:∀ F∈Fs,On L F)(hr:L.Pairwise (·<·))(l6:L.length<=6)(c:Nat):Fit (gOf gp Fs c):=by
 by_cases h:c∈gp
 ·obtain⟨j,F,hj,hF,e,o⟩:=qaF hl nd oF h;rw[e];exact qfU o hr l6
 ·rw[vL h];exact qdl c
theorem qfV{L fr:List Nat}{Ps:List (List Pr)}{F:List Pr}(hl:Ps.length=fr.length)(nd:fr.Nodup)(oP:∀ F∈Ps,On L F)(l6:L.length<=6)(oF:On L F):(qy ((qb F).map (gOf fr Ps))).length<=9:=by
 have:=yt (m:=L) (qO Jr (zn _)) (l:=qy ((qb F).map (gOf fr Ps))) λ c hc=>by
  obtain⟨G,hG,p,hp,hc⟩:=qbJ.mp hc;obtain⟨d,hd,rfl⟩:=Qd.mp hG;obtain⟨p',p6,K2⟩:=zj.mp hd;by_cases h:d∈fr
  ·obtain⟨j,F,hj,hF,e,o⟩:=qaF hl nd oP h;rw[e] at hp;exact o.mem p hp c hc
  ·rw[vL h] at hp;rw[Y9.mp hp] at hc;rw[Y9.mp hc];exact oF.mem p' p6 d K2
 omega
theorem qhN{L fr:List Nat}{Ps:List (List Pr)}(hl:Ps.length=fr.length)(nd:fr.Nodup)(oP:∀ F∈Ps,On L F)(c:Nat):Vf (gOf fr Ps c):=by
 by_cases h:c∈fr
 ·obtain⟨j,F,hj,hF,e,o⟩:=qaF hl nd oP h;rw[e];exact o.vf
 ·rw[vL h];exact⟨by simp,by simp⟩
def qbS(ls fr:List Nat)(Ps:List (List Pr))(F:List Pr):List Bool:=(List.range (2^ls.length)).map λ N=>qo (λ c=>qo (asg ls (qD ls.length N)) (gOf fr Ps c)) F
theorem qgK{L fr:List Nat}{Ps:List (List Pr)}{F:List Pr}(hl:Ps.length=fr.length)(nd:fr.Nodup)(oP:∀ F∈Ps,On L F)(hr:L.Pairwise (·<·))(oF:On L F):formOf L (qbS L fr Ps F)=putIn F (gOf fr Ps):=by
 refine qfp hr (qfh _ _) (λ p hp c hc=>?_) (by unfold qbS;rw[Ul,Zo]) λ N hN=>?_
 ·obtain⟨d,hd,q,hq,hc⟩:=qec p hp c hc;by_cases h:d∈fr
  ·obtain⟨j,F,hj,hF,e,o⟩:=qaF hl nd oP h;rw[e] at hq;exact o.mem q hq c hc
  ·rw[vL h] at hq;rw[Y9.mp hq] at hc;rw[Y9.mp hc];obtain⟨p',p6,K2⟩:=zj.mp hd;exact oF.mem p' p6 d K2
 ·unfold qbS;rw[Xi,Ze,Yx hN,qcs _ oF.vf λ c _=>qhN hl nd oP c];rfl
theorem qaG{k:Key}:∀(l d6:List (Key×V)),(l.map (·.1)).Nodup->qY (qu d6 l) k=(qY l k).or (qY d6 k)
 | [],d6,_=>rfl
 |x::l,d6,nd=>by
  obtain⟨n1,n2⟩:=Uj.mp (show(x.1::l.map (·.1)).Nodup from nd);show qY (qu (zU d6 x.1 x.2) l) k=_
  rw[qaG l _ n2,qeJ];by_cases h:x.1=k
  ·rw[Q7 h.symm,zg h,qbP (by rw[<- h];exact n1)];rfl
  ·rw[Q8 (Q2 h),zh h]
theorem qfW{ls fr:List Nat}{r v:List Bool}{c:Nat}(nd:fr.Nodup)(h1:ls.length=r.length)(h2:fr.length=v.length)(hc:c∈ls):qY (qu (yL ls r) (yL fr v)) (.inr (qi [c]))=some (.bl (if c∈fr then asg fr v c else asg ls r c)):=by
 rw[qaG _ _ (qdj nd h2),yM h2,yM h1,Q7 hc];by_cases h:c∈fr
 ·rw[Q7 h,Q7 h];rfl
 ·rw[Q8 h,Q8 h];rfl
def qfX(K:W.Frag):Sp:=λ vs H Q _=>∃(ls fr:List Nat)(a b:Addr)(as bs:List Addr)(Fs Ps:List (List Pr)),vs=[vS ls,vS fr,.ref a,.ref b]/\ls.Pairwise (·<·)/\ls.length<=6/\fr.Nodup/\(∀ c∈fr,c<128)/\fr.length<=9/\SqL K H a (as.map V.ref)/\Paired (λ c (F:List Pr)=>SqT K H c (F.map vS)) as Fs/\SqL K H b (bs.map V.ref)/\Paired (λ c (F:List Pr)=>SqT K H c (F.map vS)) bs Ps /\
 Fs.length<=9/\Ps.length=fr.length/\(∀ F∈Fs,On ls F)/\(∀ F∈Ps,On ls F)/\∀ r cs H',ql H H'->H r=none->H' r=some (.lst (cs.map V.ref))->Paired (λ c (F:List Pr)=>H' c=some (.tup (F.map vS))) cs (Fs.map λ F=>putIn F (gOf fr Ps))->Q (.ref r) H'
theorem jL:FnScope [sA0,sA5,sB3,sB8,"_law_due_here",sA6,sA8,sA2,"_law_more","_law_free",sA9] [sA0,sA5,sB3,sB8] (qd yy):=scF
theorem qhO{f V6 P5 V7 B7:Addr}{fd W2 P8 W3 B9:FuncData}(F:Fun K sC3 sC3 yy f fd)(T:Txt mg)(C5:Dp P w K mg base 2 V6 W2 [sA0] (qbN) sB9)(r9:Dp P w K mg base 1 P5 P8 [sA6,sA2] (qbQ K) sB6)(C7:Dp P w K mg base 1 V7 W3 [sC2,sA9] (qdh) sC0)(o4:Dp P w K mg base 2 B7 B9 [sA0,sA8] (kq K) sB5): FnOk P w K mg base CX0 3 f fd [sA0,sA5,sB3,sB8] (qfX K):=by
 refine F.okd jL (λ cdv A outer s H vs Q E hr h=>?_);obtain⟨ls,fr,a,b,as,bs,Fs,Ps,rfl,fA,l6,G7,asc,lf9,hA,pA,hB,pB,lF,lP,oF,oP,q⟩:=h;have t6:=jV hr;refine⟨_,(qf (qt (i:=4) jL.nd rfl (Or.inl rfl) (zP qc))
  (qf (yA Ux rfl (yP (pv 2)) (qp (i:=5) jL.nd rfl (Or.inl rfl))
  (qf (qt (i:=6) jL.nd rfl (Or.inl rfl) (zP qc))
  (qf (yA Ux rfl (yP (yF C5 hr (qa (pv 0) qc))) (qp (i:=7) jL.nd rfl (Or.inl rfl))
  (qf (qt (i:=8) jL.nd rfl (Or.inl rfl) qbZ)
  (qf (qbC (n:=2) Ux rfl (qgz (by rfl) T.zip (qa (pv 1) (qa (pv 3) qc))) (zc (qp (i:=9) jL.nd rfl (Or.inl rfl)) (zc (qp (i:=10) jL.nd rfl (Or.inl rfl)) jb))
  (qm (qbl t6 (pv 8) (pv 9) (yF r9 hr (qa (pv 10) (qa (pv 7) qc))) rfl)))
  (qm (ja (yQ X6 Xw Xx zV (pv 6) (qa (yF r9 hr (qa (pv 5) (qa (yF C7 hr (qa (pv 7) (qa (pv 8) qc))) qc))) qc)))))))
  (qm (ja (yQ X6 Xw Xx zV (pv 4) (qa (yF o4 hr (qa (pv 0) (qa (pv 6) qc))) qc)))))))
  (qm (qN (pv 4))))),?_⟩
 have ndl:=qO Jr fA;have N3:2^ls.length<=64:=J7 (Yk (by decide) l6) (by decide);have p1:1<=2^ls.length:=Nat.one_le_two_pow;have las:as.length=Fs.length:=pA.length;have lbs:bs.length=Ps.length:=pB.length;have hsf:(qi fr).cps.size=fr.length:=qJ fr;have sP:(as.map V.ref).length=as.length:=Ul _;have aC:(bs.map V.ref).length=bs.length:=Ul _;have up:∀{HX:Hp}{D z:Addr}{l l':List V}{o:HO},(∀ l,o≠.lst l)->HX D=some (.lst l)->HX z=some o->upd HX D (.lst l') z=some o:=λ{HX D z l l' o} no hX h=>by
  have:z≠D:=λ q=>by rw[q,hX] at h;exact no _ (Option.some.inj h).symm
  rw[qg this];exact h
 refine⟨Qm _,λ D hD=>?_⟩;refine⟨_,rfl,a,rfl,⟨_,(ql.up hD).seq hA⟩,?_⟩;refine kA (K:=K) (xs:=as.map V.ref) (λ i σ H1=>∃(v5 v6 v7 v8 v9 N6:Option V)(cs:List Addr),σ=[some (vS ls),some (vS fr),some (.ref a),some (.ref b),some (.ref D),v5,v6,v7,v8,v9,N6]/\ql H H1/\H1 D=some (.lst (cs.map V.ref))/\Paired (λ c (F:List Pr)=>H1 c=some (.tup (F.map vS))) cs ((Fs.map λ F=>putIn F (gOf fr Ps)).take i))
  ⟨none,none,none,none,none,none,[],rfl,ql.up hD,qe,.nil⟩ (λ i σ H1 _ ⟨_,_,_,_,_,_,_,_,g,_⟩=>g.seq hA) ?_ ?_
 ·rintro i x σ H1 hx ⟨v5,v6,v7,v8,v9,N6,cs,rfl,g1,e1,pc⟩;obtain⟨fa,wB,rfl⟩:=qj hx;obtain⟨F,hF,eF⟩:=zJ pA i fa wB;have bX:=Yd hF;refine⟨Qm _,λ T hT=>?_⟩;have gT:=ql.up hT (o:=.lst []);refine⟨_,rfl,ls,rfl,ndl,l6,λ R ds H2 g2 e2 pd=>?_⟩;have gT2:=gT.trans g2;have eT2:=g2 _ _ qe;have RT:R≠T:=λ z=>by
   rw[z,eT2] at e2;have e2:=Option.some.inj e2;injection e2 with e2
   have l0:=pd.length;rw[Zo] at l0
   have:=congrArg List.length e2
   rw[Ul] at this;simp at this;omega
  have lds:ds.length=2^ls.length:=by rw[pd.length,Zo]
  have dY:(ds.map V.ref).length=ds.length:=Ul _;refine⟨R,rfl,⟨_,SqL.of e2⟩,?_⟩;refine kA (K:=K) (xs:=ds.map V.ref) (λ j σ H3=>∃(v7 v8 v9 N6:Option V),σ=[some (vS ls),some (vS fr),some (.ref a),some (.ref b),some (.ref D),some (.ref fa),some (.ref T),v7,v8,v9,N6]/\ql H1 H3/\H3 T=some (.lst (((qbS ls fr Ps F).take j).map V.bl))/\H3 R=some (.lst (ds.map V.ref))/\Paired (λ d N=>H3 d=some (.dK (yL ls (qD ls.length N)))) ds (List.range (2^ls.length)))
   ⟨_,_,_,_,rfl,gT2,eT2,e2,pd⟩ (λ j σ H3 _ ⟨_,_,_,_,_,_,_,h,_⟩=>SqL.of h) ?_ ?_
  ·rintro j x σ H3 hx ⟨v7,v8,v9,N6,rfl,g3,eT3,eR3,pd3⟩;obtain⟨d,hd,rfl⟩:=qj hx;obtain⟨N,hN,ed⟩:=zJ pd3 j d hd;have cS:j<2^ls.length:=by have:=yH hN;rw[Zo] at this;exact this
   obtain rfl:j=N:=by rw[Yx cS] at hN;exact Option.some.inj hN
   have lb:ls.length=(qD ls.length j).length:=(y3 _ _).symm;refine λ M hM=>?_
   have gM:=ql.up hM (o:=.dK []);have lv:fr.length=(Ps.map λ F=>qo (asg ls (qD ls.length j)) F).length:=by rw[Ul,lP]
   have mH:=g1.trans g3;refine⟨_,rfl,_,rfl,qi fr,b,rfl,?_,⟨_,(mH.trans gM).seq hB⟩,?_⟩
   ·rw[Array.all_eq_true'];intro c hc;exact Jj (asc c (by simpa [qi] using hc))
   refine qfu (K:=K) (x:=qi fr) (ys:=bs.map V.ref) (λ k σ H4=>∃(v9 N6:Option V),σ=[some (vS ls),some (vS fr),some (.ref a),some (.ref b),some (.ref D),some (.ref fa),some (.ref T),some (.ref d),some (.ref M),v9,N6]/\ql H3 H4/\H4 M=some (.dK (yL (fr.take k) ((Ps.map λ F=>qo (asg ls (qD ls.length j)) F).take k))))
    ⟨_,_,rfl,gM,qe⟩ (by rw[hsf,aC,lbs,lP]) (λ k σ H4 _ ⟨_,_,_,g,_⟩=>(mH.trans g).seq hB) ?_ ?_
   ·rintro k y σ H4 hk hy ⟨v9,N6,rfl,g4,eM⟩;rw[hsf] at hk;rw[jJ hk];obtain⟨pa,lW,rfl⟩:=qj hy;obtain⟨G,hG,eG⟩:=zJ pB k pa lW;have oG:=oP G (Yd hG);refine⟨_,_,rfl,_,_,rfl,rfl,?_⟩;have xV:=g4 _ _ ed;refine⟨_,rfl,_,rfl,pa,d,G,_,asg ls (qD ls.length j),rfl,(mH.trans g4).seqT eG,xV,λ p hp c hc=>by rw[yM lb,Q7 (oG.mem p hp c hc)],λ p hp=>by have:=(oG.sub fA p hp).length_le;omega,λ H5 g5=>?_⟩;have eM5:=g5 _ _ eM;have hb:(Ps.map λ F=>qo (asg ls (qD ls.length j)) F)[k]?=some (qo (asg ls (qD ls.length j)) G):=by rw[Ze,hG];rfl
    have lr:(fr.take k).length=((Ps.map λ F=>qo (asg ls (qD ls.length j)) F).take k).length:=by rw[Zy,Zy,<- lv]
    have vn:qY (yL (fr.take k) ((Ps.map λ F=>qo (asg ls (qD ls.length j)) F).take k)) (.inr (qi [fr[k]]))=none:=by rw[yM lr,Q8 (vV G7 hk)]
    have lk:(yL (fr.take k) ((Ps.map λ F=>qo (asg ls (qD ls.length j)) F).take k)).length<sizeLine:=by unfold yL;rw[Ul,Uw,Zy,Zy];exact qZ (by omega)
    refine⟨_,rfl,_,rfl,M,_,rfl,.inl ⟨_,.inr (qi [fr[k]]),eM5,rfl,lk,rfl⟩,?_⟩;refine⟨_,_,rfl,(g4.trans g5).at hM,?_⟩;rw[qe,kD _ vn,qcA (Xv hk) hb]
   ·rintro σ H4 ⟨v9,N6,rfl,g4,eM⟩;rw[aC,lbs,XC (by omega),XC (by rw[Ul];omega)] at eM;have xV:=g4 _ _ ed;refine⟨_,rfl,.inl ⟨rfl,_,SqL.of (g4 _ _ eT3)⟩,?_⟩;refine⟨_,rfl,_,rfl,_,rfl,d,M,_,_,rfl,xV,eM,?_,λ db H5 g5 nb eb=>?_⟩
    ·unfold yL;rw[Ul,Ul,Uw,Uw];omega
    have g35:=g4.trans g5;refine⟨fa,db,F,_,λ c=>qo (asg ls (qD ls.length j)) (gOf fr Ps c),rfl,(mH.trans g35).seqT eF,eb,λ p hp c hc=>?_,λ p hp=>by have:=((oF F bX).sub fA p hp).length_le;omega,λ H6 g6=>?_⟩
    ·rw[qfW G7 lb lv ((oF F bX).mem p hp c hc)];congr 2
     by_cases h:c∈fr
     ·obtain⟨k,G,hk,hG,e,o⟩:=qaF lP G7 oP h;rw[Q7 h];show _=qo (asg ls (qD ls.length j)) (gOf fr Ps c)
      rw[e];exact qfT G7 hk (by rw[Ze,hG];rfl)
     ·rw[Q8 h];show _=qo (asg ls (qD ls.length j)) (gOf fr Ps c)
      rw[vL h];simp[qo]
    have mJ:=g35.trans g6;have eT6:=mJ _ _ eT3;have hv:(qbS ls fr Ps F)[j]?=some (qo (λ c=>qo (asg ls (qD ls.length j)) (gOf fr Ps c)) F):=by unfold qbS;rw[Ze,Yx cS];rfl
    refine⟨T,_,_,rfl,rfl,eT6,by rw[Ul,Zy];exact qZ (by omega),?_⟩;refine⟨_,_,_,_,rfl,(g3.trans mJ).at hT,?_,?_,L2.Paired.mapP pd3 λ z N h=>up (λ l q=>nomatch q) eT6 (mJ _ _ h)⟩
    ·rw[qe,qS hv,Ur];rfl
    ·rw[qg RT];exact mJ _ _ eR3
  ·rintro σ H4 ⟨v7,v8,v9,N6,rfl,g4,eT4,eR4,pd4⟩;have lt:(qbS ls fr Ps F).length=2^ls.length:=by unfold qbS;rw[Ul,Zo]
   rw[dY,lds,XC (by omega)] at eT4;refine⟨_,rfl,.inl ⟨rfl,_,SqL.of (g4 _ _ e1)⟩,?_⟩;refine⟨_,rfl,_,rfl,T,qbS ls fr Ps F,ls,rfl,SqL.of eT4,lt,fA,l6,λ r H5 g5 e5=>?_⟩;have xY:=(g4.trans g5) _ _ e1;refine⟨D,_,_,rfl,rfl,xY,by rw[Ul,pc.length,Zy,Ul];exact qZ (by omega),?_⟩;refine⟨_,_,_,_,_,_,cs++[r],rfl,(g1.trans (g4.trans g5)).at hD,by rw[qe,Ur];rfl,?_⟩;rw[qS (show(Fs.map λ F=>putIn F (gOf fr Ps))[i]?=some (putIn F (gOf fr Ps)) by rw[Ze,hF];rfl)];rw[qgK lP G7 oP fA (oF F bX)] at e5;exact qE (L2.Paired.mapP pc λ z M h=>up (λ l q=>nomatch q) xY ((g4.trans g5) _ _ h)) (.cons (up (λ l q=>nomatch q) xY e5) .nil)
 ·rintro σ H4 ⟨v5,v6,v7,v8,v9,N6,cs,rfl,g4,e4,pc⟩;rw[XC (by rw[sP,Ul];omega)] at pc;exact⟨_,rfl,q D cs H4 g4 hD e4 pc⟩
def zp:Stmt:=(qw yK).getD 1 (.Pass ⟨0,0,0,0⟩)
def qfY(s:Stmt):Pos:=match s with
 |.FunctionDef _ _ _ _ _ _ _ _ _ p=>p
 |_=>⟨0,0,0,0⟩
def qFl:Str:="filler.<locals>.filled"
def Clo(H:Hp)(f l:Addr)(gp:List Nat)(xs:List V):Prop:=∃ c' c1 c2:Addr,c1≠c2/\H f=some (qaM f "filled" qFl (qz zp) (qw zp) (qd zp) [("kept",c2),("gaps",c1)] c')/\H c'=some (jI c' qFl)/\H c1=some (zw c1 (vS gp))/\H c2=some (zw c2 (.ref l))/\H l=some (.lst xs)
theorem Clo.mono{H H':Hp}{f l:Addr}{gp:List Nat}{xs:List V}(h:Clo H f l gp xs)(g:ql H H'):Clo H' f l gp xs:=by
 obtain⟨c',c1,c2,n,e1,e2,e3,e4,e5⟩:=h;exact⟨c',c1,c2,n,g _ _ e1,g _ _ e2,g _ _ e3,g _ _ e4,g _ _ e5⟩
theorem Clo.put{H:Hp}{f l x:Addr}{gp:List Nat}{xs ys zs:List V}(h:Clo H f l gp xs)(ex:H x=some (.lst ys))(nx:l≠x):Clo (upd H x (.lst zs)) f l gp xs:=by
 obtain⟨c',c1,c2,n,e1,e2,e3,e4,e5⟩:=h;have up:∀{b:Addr}{o:HO},(∀ l,o≠.lst l)->H b=some o->upd H x (.lst zs) b=some o:=λ{b o} no e=>by
  have:b≠x:=λ q=>by rw[q,ex] at e;exact no _ (Option.some.inj e).symm
  rw[qg this];exact e
 exact⟨c',c1,c2,n,up (λ _=>by nofun) e1,up (λ _=>by nofun) e2,up (λ _=>by nofun) e3,up (λ _=>by nofun) e4,by rw[qg nx];exact e5⟩
theorem Clo.isFn{H:Hp}{f l:Addr}{gp:List Nat}{xs:List V}(h:Clo H f l gp xs):qfw H f:=by
 obtain⟨c',c1,c2,n,e1,_⟩:=h;exact⟨_,_,_,_,_,_,_,e1⟩
def qaH(K:W.Frag)(Pt:Addr):Sp:=λ vs H Q _=>∃(gp:List Nat)(a:Addr)(xs:List V),vs=[vS gp,.ref a]/\SqL K H a xs/\Tab H Pt (qfY zp) qFl/\∀ f l H',(∀ b o,b≠Pt->H b=some o->H' b=some o)->H f=none->H l=none->Clo H' f l gp xs->Tab H' Pt (qfY zp) qFl->Q (.ref f) H'
theorem qbi:FnScope ["gaps","filling","kept","filled"] ["gaps","filling"] (qd yK):=scF
theorem qcC{H H':Hp}{Pt:Addr}{pos:Pos}{q:Str}(h:Tab H Pt pos q)(g:ql H H'):Tab H' Pt pos q:=by
 rcases h with e|⟨c,e,e2⟩
 ·exact .inl (g _ _ e)
 ·exact .inr ⟨c,g _ _ e,g _ _ e2⟩
theorem qhP{H:Hp}{Pt:Addr}{pos:Pos}{q:Str}(h:Tab H Pt pos q):∃ ps,H Pt=some (.tbl ps):=by
 rcases h with e|⟨c,e,e2⟩
 ·exact⟨_,e⟩
 ·exact⟨_,e⟩
theorem qev{f c Pt:Addr}{fd:FuncData}(F:Fun K "filler" "filler" yK f fd)(T:Txt mg)(wA:fd.code=.ref c)(C:PySem.W.CodeHd base c Pt)(B:qaN base mg):FnOk P w K mg base CX0 1 f fd ["gaps","filling"] (qaH K Pt):=by
 refine qfv (i:=3) (i1:=0) (i2:=2) (k:=0) (name:="filled") (q2:=qFl) (x1:="gaps") (x2:="kept") (params:=qz zp) (body:=qw zp) (scope:=qd zp) (pos:=qfY zp) F qbi (λ vs H Q E h=>?_) rfl wA C B rfl rfl rfl rfl (by decide) (by decide) rfl rfl (by decide) (λ L cdv=>rfl) (λ L=>rfl) (λ L cdv=>rfl) rfl rfl (λ env=>rfl) (by decide) (by decide) (λ cdv A outer s H vs Q E hr h=>?_)
 ·obtain⟨gp,a,xs,rfl,_⟩:=h;rfl
 obtain⟨gp,a,xs,rfl,hS,hT,q⟩:=h;refine⟨_,qt (i:=2) qbi.nd rfl (Or.inr rfl) (q9 yp (by rfl) T.list vA (qa (pv 1) qc)),?_⟩;refine⟨_,rfl,a,xs,rfl,.inl hS,λ l hl=>?_⟩;have g1:=ql.up hl (o:=.lst xs);refine⟨vS gp,.ref l,rfl,rfl,qcC hT g1,λ f' c' c1 c2 H' g nf n1 n2 ne ef ec e1 e2 T'=>?_⟩;obtain⟨ps,eP⟩:=qhP (qcC hT g1);have nl:l≠Pt:=λ z=>by rw[<- z,qe] at eP;cases eP
 exact q f' l H' (λ b o n e=>g b o n (g1 _ _ e)) (by
  cases z:H f' with
  |none=>rfl
  |some o=>rw[g1 _ _ z] at nf;cases nf) hl ⟨c',c1,c2,ne,ef,ec,e1,e2,g _ _ nl qe⟩ T'
theorem qiv:(["forms","gaps","kept","put"]:List Str).Nodup:=by decide +kernel
theorem qhQ:∀ y∈(qd zp).names,y.2=.cell->y.1="put":=by decide +kernel
theorem qgL:∀ y∈(qd zp).names,y.2=.free->y.1="gaps"∨y.1="kept":=by decide +kernel
theorem qew(c1 c2:Addr):ClScope "forms" "put" [("kept",c2),("gaps",c1)] (qd zp):=
 ⟨rfl,rfl,rfl,rfl,λ x h=>qhQ (x,.cell) (Yo h) rfl,λ x h=>by
  rcases qgL (x,.free) (Yo h) rfl with rfl|rfl
  ·exact⟨c1,rfl⟩
  ·exact⟨c2,rfl⟩,rfl,λ n=>rfl,λ h=>rfl⟩
theorem qgM{K:W.Frag}{H:Hp}{cs:List Addr}{a:Addr}{xs:List V}(hx:∀ c∈cs,∃ φ,H c=some (.ext φ))(h:SqL K H a xs):SqL K (hide H cs) a xs:=by
 rcases h with(h|⟨o,h⟩)|h
 ·exact .inl (.inl (by rw[ze (λ m=>by obtain⟨φ,e⟩:=hx a m;rw[e] at h;cases h)];exact h))
 ·exact .inl (.inr ⟨o,by rw[ze (λ m=>by obtain⟨φ,e⟩:=hx a m;rw[e] at h;cases h)];exact h⟩)
 ·exact .inr h
theorem qgN{K:W.Frag}{H:Hp}{cs:List Addr}{a:Addr}{xs:List V}(hx:∀ c∈cs,∃ φ,H c=some (.ext φ))(h:SqT K H a xs):SqT K (hide H cs) a xs:=by
 rcases h with(h|⟨o,h⟩)|h
 ·exact .inl (.inl (by rw[ze (λ m=>by obtain⟨φ,e⟩:=hx a m;rw[e] at h;cases h)];exact h))
 ·exact .inl (.inr ⟨o,by rw[ze (λ m=>by obtain⟨φ,e⟩:=hx a m;rw[e] at h;cases h)];exact h⟩)
 ·exact .inr h
theorem qcD{H H':Hp}{cs:List Addr}(h:ql (hide H cs) H'):ql H (unhide H H' cs):=λ b o e=>by
 by_cases m:b∈cs
 ·exact(Q7 m).trans e
 ·exact(Q8 m).trans (h b o (by rw[ze m];exact e))
theorem qbj{H H':Hp}{cs:List Addr}{b:Addr}{o:HO}(hn:∀ c∈cs,H' c=none)(e:H' b=some o):unhide H H' cs b=some o:=
 (Q8 λ m=>by rw[hn b m] at e;cases e).trans e
def qdL(K:W.Frag):Addr->List V->Hp->VK->Prop:=λ f vs H Q=>∃(gp:List Nat)(l:Addr)(as:List Addr)(Fs:List (List Pr))(b:Addr)(bs:List Addr)(g:Nat->List Pr),vs=[.ref b]/\Clo H f l gp (as.map V.ref)/\SqL K H b (bs.map V.ref)/\gp.length=bs.length/\gp.Sublist [120,121,122] /\
 Paired (λ c (F:List Pr)=>SqT K H c (F.map vS)) as Fs/\Fs.length<=9/\(∀(j:Nat) c r,(gp.map zx)[j]?=some c->bs[j]?=some r->SqT K H r ((g c).map vS))/\(∀ c,c∉gp.map zx->g c=[[c]])/\(∀ F∈Fs,Fit F)/\(∀ F∈Fs,∀ c∈qb F,Fit (g c))/\(∀ F∈Fs,(qy ((qb F).map g)).length<=9) /\
 ∀ r cs H',ql H H'->H r=none->H' r=some (.lst (cs.map V.ref))->Paired (λ c (F:List Pr)=>H' c=some (.tup (F.map vS))) cs (Fs.map λ F=>putIn F g)->Q (.ref r) H'
theorem qdM:∀ c∈([112,113,114]:List Nat),c<128:=by decide
theorem qcE:([112,113,114]:List Nat).Pairwise (·<·):=by decide
theorem qaI{gp:List Nat}(h:gp.Sublist [120,121,122]):(gp.map zx).Sublist [112,113,114]:=by
 have:=h.map zx
 exact this
theorem vM{X:Cx}{ff fp:Addr}{df dp:FuncData}(hr:Room 14 X.A)(T:Txt X.mg)(Gfree_of:FnOk X.prog X.w X.K X.mg X.base CX0 1 ff df ["gaps"] jn)(R0:jt X.K df ["gaps"] [])(O1:W.keepIn X.K (.ref ff)=true)(N9:X.mg "free_of"=some (.ref ff))(Gput_in:FnOk X.prog X.w X.K X.mg X.base CX0 13 fp dp ["form","forms"] (qdK X.K))(W7:jt X.K dp ["form","forms"] [])(T4:W.keepIn X.K (.ref fp)=true)(T0:X.mg "put_in"=some (.ref fp)):ClR X (qdL X.K):=by
 intro pins s σ H f us vs Q I r h;obtain⟨gp,l,as,Fs,b,bs,g,rfl,hC,hB,hl,D9,pA,lF,hg,mB,fit,fits,l9,q⟩:=h;obtain⟨u,rfl,ru⟩:=yn r;obtain⟨c',c1,c2,n12,ef,ec,e1,e2,el⟩:=hC;have hx:∀ c∈([("kept",c2),("gaps",c1)]:List (Str×Addr)).map (·.2),∃ φ,H c=some (.ext φ):=λ c hc=>by
  have hc:c=c2∨c=c1:=by simpa using hc
  rcases hc with rfl|rfl
  ·exact⟨_,e2⟩
  ·exact⟨_,e1⟩
 have nd:(gp.map zx).Nodup:=qO Jr (qcE.sublist (qaI D9));have vz:=qi1 (gp:=gp.map zx) (ys:=bs.map V.ref) nd (by rw[Ul,Ul];exact hl);refine qhE I (qen (k:=13) (N:=["forms","gaps","kept","put"]) (σ:=[some (.ref b),some (vS gp),some (.ref l),none]) (x1:="forms") (y:="put") (v1:=.ref b) hr I.env0 ef ec (qew c1 c2) ?inj ?hcl ru rfl ?hσ (λ doc pm ctv=>rfl) λ N0=>?_)
 case inj =>
  intro x z c h1 h2;have cW:=Yo h1;have L5:=Yo h2;simp only[Js,Z7,or_false,Prod.mk.injEq] at cW L5;rcases cW with⟨rfl,rfl⟩|⟨rfl,rfl⟩ <;> rcases L5 with⟨rfl,h⟩|⟨rfl,h⟩
  ·rfl
  ·exact absurd h.symm n12
  ·exact absurd h n12
  ·rfl
 case hcl =>
  intro p hp;simp only[Js,Z7,or_false] at hp;rcases hp with rfl|rfl
  ·exact⟨_,e2⟩
  ·exact⟨_,e1⟩
 case hσ =>
  intro i x v h1 h2
  match i with
  |0=>cases h1;cases h2;exact .inl ⟨rfl,rfl⟩
  |1=>cases h1;cases h2;exact .inr ⟨rfl,c1,rfl,e1⟩
  |2=>cases h1;cases h2;exact .inr ⟨rfl,c2,rfl,e2⟩
  |3=>cases h2
  |n+4=>simp at h2
 have tY:Room 1 _:=N0.mono (by decide);have fB:Room 13 _:=N0.mono (by decide);refine⟨_,(qf (qt (i:=3) qiv rfl (Or.inr rfl) (qc4 (by rfl) (by rfl) T.dict (by rfl) T.zip (qa (qhm Gfree_of tY N9 O1 R0 (qa (pv 1) qc)) (qa (pv 0) qc))))
  (qm (qN (zu (csc (NY:=["form","put"]) (o:=1) (caps:=[3]) ["put"] rfl
    (by intro x hx;rw[Y9.mp hx];exact .inl rfl) (vI rfl rfl rfl yY) rfl) rfl
    (yP (pv 2)) (λ C0 s H fp pins=>qp (i:=0) (show(["form","put"]:List Str).Nodup by decide +kernel) rfl (Or.inl rfl)) (λ C0 s H fp pins=>zd) (λ C0 s H fp pins=>(qhm Gput_in fB T0 T4 W7 (qa (pv 0) (qa (pv 1) qc)))))))),?_⟩
 generalize hH:hide H (([("kept",c2),("gaps",c1)]:List (Str×Addr)).map (·.2))=H0;have toB:SqL X.K H0 b (bs.map V.ref):=by rw[<- hH];exact qgM hx hB
 have toL:H0 l=some (.lst (as.map V.ref)):=by
  rw[<- hH,ze (λ m=>by obtain⟨φ,e⟩:=hx l m;rw[e] at el;cases el)];exact el
 have toT:∀ c xs,SqT X.K H c xs->SqT X.K H0 c xs:=λ c xs z=>by rw[<- hH];exact qgN hx z
 refine⟨_,rfl,gp,rfl,D9,λ H1 g1=>?_⟩;refine⟨_,rfl,qi (gp.map zx),b,bs.map V.ref,rfl,?_,g1.seq toB,?_,λ d hd=>?_⟩
 ·rw[Array.all_eq_true'];intro c hc;exact Jj (qdM c ((qaI D9).subset (by simpa [qi] using hc)))
 ·rw[Ul];show(gp.map zx).length=_;rw[Ul];exact hl
 have gd:=ql.up hd (o:=.dK (qu [] (kvK (zo (qi (gp.map zx)) (bs.map V.ref)))));have g2:=g1.trans gd;have hV:∀ H3,ql (upd H1 d (.dK (qu [] (kvK (zo (qi (gp.map zx)) (bs.map V.ref)))))) H3->∀ ls,qis X.K H3 d ls g:=λ H3 g3 ls=>⟨_,g3 _ _ qe,λ c _=>by
  by_cases h:c∈gp.map zx
  ·obtain⟨j,hj⟩:=List.mem_iff_getElem?.mp h;have cS:j<bs.length:=by have:=yH hj;rw[Ul] at this;omega
   exact .inr ⟨bs[j],(vz c).2 j _ hj (by rw[Ze,Xv cS];rfl),(g2.trans g3).seqT (toT _ _ (hg j c _ hj (Xv cS)))⟩
  ·exact .inl ⟨(vz c).1 h,mB c h⟩⟩
 generalize o0:upd H1 d (.dK (qu [] (kvK (zo (qi (gp.map zx)) (bs.map V.ref)))))=H2 at hV g2 gd;have nA:=g2 _ _ toL;have up:∀{HX:Hp}{D z:Addr}{l l':List V}{o:HO},(∀ l,o≠.lst l)->HX D=some (.lst l)->HX z=some o->upd HX D (.lst l') z=some o:=λ{HX D z l l' o} no hX h=>by
  have:z≠D:=λ q=>by rw[q,hX] at h;exact no _ (Option.some.inj h).symm
  rw[qg this];exact h
 have las:as.length=Fs.length:=pA.length;refine⟨_,rfl,l,rfl,⟨_,SqL.of nA⟩,?_⟩;refine yg (as.map V.ref).length (λ i ys H'=>∃ cs:List Addr,ys=cs.map V.ref/\Paired (λ c (F:List Pr)=>H' c=some (.tup (F.map vS))) cs ((Fs.map λ F=>putIn F g).take i)) (λ D hD=>⟨[],rfl,.nil⟩) (λ i ys H' hi ⟨cs,e,pd⟩=>by rw[e,Ul,pd.length,Zy,Ul];exact qZ (by omega)) ?_ (λ H' sm=>⟨_,sm.seq (SqL.of nA),Ql _⟩) ?_
 ·rintro i ys H' D Y Z hi hD V4 sm ⟨cs,rfl,pd⟩ hY hZ;refine⟨⟨_,_,sm.seq (SqL.of nA),Xv hi⟩,?_⟩;rintro x nC ⟨rfl,i5⟩;have ev:=i5 _ (sm.seq (SqL.of nA));obtain⟨c,hc,rfl⟩:=qj ev;obtain⟨F,hF,eF⟩:=zJ pA i c hc;have bX:=Yd hF;refine⟨⟨rfl,rfl⟩,?_⟩;refine⟨_,rfl,_,rfl,c,d,F,g,rfl,(g2.trans sm).seqT (toT _ _ eF),hV _ sm _,fit F bX,fits F bX,l9 F bX,λ r HC gC eC=>?_⟩;have B6:=gC _ _ V4;refine hY _ _ B6 (sm.trans gC) ⟨cs++[r],by rw[Ur];rfl,?_⟩;rw[qS (show(Fs.map λ F=>putIn F g)[i]?=some (putIn F g) by rw[Ze,hF];rfl)];exact qE (L2.Paired.mapP pd λ z M h=>up (λ l q=>nomatch q) B6 (gC _ _ h)) (.cons (up (λ l q=>nomatch q) B6 eC) .nil)
 rintro D H3 ys hD sm3 L4 ⟨cs,rfl,pd⟩ hn;rw[XC (by rw[Ul,Ul];omega)] at pd;have g03:ql (hide H (([("kept",c2),("gaps",c1)]:List (Str×Addr)).map (·.2))) H3:=by rw[hH];exact g2.trans sm3
 have nD:H D=none:=by
  cases z:H D with
  |none=>rfl
  |some o =>
   have m:D∉([("kept",c2),("gaps",c1)]:List (Str×Addr)).map (·.2):=λ m=>by rw[hn D m] at L4;cases L4
   have:=g2 D o (by rw[<- hH,ze m];exact z)
   rw[hD] at this;cases this
 exact q D cs _ (qcD g03) nD (qbj hn L4) (L2.Paired.mapP pd λ z F h=>qbj hn h)
def qdN(K:W.Frag)(Pt:Addr):Sp:=λ vs H Q _=>∃(a:Addr)(ns:List Int),vs=[.ref a]/\SqL K H a (ns.map V.int)/\ns.length<=63/\H Pt=some (.tbl #[])/\∀ H',Q (.bl true) H'
def FL(H:Hp)(a:Addr)(Fs:List (List Pr)):Prop:=∃ as:List Addr,H a=some (.lst (as.map V.ref))/\Paired (λ c (F:List Pr)=>H c=some (.tup (F.map vS))) as Fs
theorem FL.mono{H H':Hp}{a:Addr}{Fs:List (List Pr)}(h:FL H a Fs)(g:ql H H'):FL H' a Fs:=by
 obtain⟨as,e,p⟩:=h;exact⟨as,g _ _ e,L2.Paired.mapP p λ c F z=>g _ _ z⟩
theorem FL.but{H H':Hp}{a Pt:Addr}{ps:Array Value}{Fs:List (List Pr)}(h:FL H a Fs)(eP:H Pt=some (.tbl ps))(g:∀ b o,b≠Pt->H b=some o->H' b=some o):FL H' a Fs:=by
 obtain⟨as,e,p⟩:=h;exact⟨as,g _ _ (λ q=>by rw[q,eP] at e;cases e) e,L2.Paired.mapP p λ c F z=>g _ _ (λ q=>by rw[q,eP] at z;cases z) z⟩
theorem FL.put{H:Hp}{a x:Addr}{ys zs:List V}{Fs:List (List Pr)}(h:FL H a Fs)(ex:H x=some (.lst ys))(n:a≠x):FL (upd H x (.lst zs)) a Fs:=by
 obtain⟨as,e,p⟩:=h;exact⟨as,by rw[qg n];exact e,L2.Paired.mapP p λ c F z=>by rw[qg (λ q=>by rw[q,ex] at z;cases z)];exact z⟩
theorem FL.sq{K:W.Frag}{H:Hp}{a:Addr}{Fs:List (List Pr)}(h:FL H a Fs):∃ as:List Addr,SqL K H a (as.map V.ref)/\Paired (λ c (F:List Pr)=>SqT K H c (F.map vS)) as Fs:=by
 obtain⟨as,e,p⟩:=h;exact⟨as,SqL.of e,L2.Paired.mapP p λ c F z=>SqT.of z⟩
theorem FL.ne{H:Hp}{a x:Addr}{Fs:List (List Pr)}(h:FL H a Fs)(hx:H x=none):a≠x:=by
 obtain⟨as,e,p⟩:=h;exact qr e hx
def PL(H:Hp)(as:List Addr)(Fs:List (List Pr)):Prop:=Paired (λ c (F:List Pr)=>H c=some (.tup (F.map vS))) as Fs
theorem PL.mono{H H':Hp}{as:List Addr}{Fs:List (List Pr)}(h:PL H as Fs)(g:ql H H'):PL H' as Fs:=L2.Paired.mapP h λ c F z=>g _ _ z
theorem PL.but{H H':Hp}{Pt:Addr}{ps:Array Value}{as:List Addr}{Fs:List (List Pr)}(h:PL H as Fs)(eP:H Pt=some (.tbl ps))(g:∀ b o,b≠Pt->H b=some o->H' b=some o):PL H' as Fs:=
 L2.Paired.mapP h λ c F z=>g _ _ (λ q=>by rw[q,eP] at z;cases z) z
theorem PL.put{H:Hp}{x:Addr}{ys zs:List V}{as:List Addr}{Fs:List (List Pr)}(h:PL H as Fs)(ex:H x=some (.lst ys)):PL (upd H x (.lst zs)) as Fs:=
 L2.Paired.mapP h λ c F z=>by rw[qg (λ q=>by rw[q,ex] at z;cases z)];exact z
theorem PL.sq{K:W.Frag}{H:Hp}{as:List Addr}{Fs:List (List Pr)}(h:PL H as Fs):Paired (λ c (F:List Pr)=>SqT K H c (F.map vS)) as Fs:=L2.Paired.mapP h λ c F z=>SqT.of z
theorem qhR{H:Hp}{f l x:Addr}{gp:List Nat}{xs:List V}(h:Clo H f l gp xs)(hx:H x=none):l≠x:=by
 obtain⟨c',c1,c2,n,e1,e2,e3,e4,e5⟩:=h;exact qr e5 hx
theorem qhS(L:List Nat):On L [[]]:=⟨⟨by simp,by simp⟩,by simp⟩
theorem yl{α:Type}[DecidableEq α](x:α):(!decide (x=x))=false:=by simp
theorem ask{K:W.Frag}{H:Hp}{f l b:Addr}{gp fr L:List Nat}{as:List Addr}{Fs Ps:List (List Pr)}{Q:VK}(hC:Clo H f l gp (as.map V.ref))(D4:fr=gp.map zx)(G6:gp.Sublist [120,121,122])(G7:fr.Nodup)(M9:L.Pairwise (·<·))(l6:L.length<=6)(pA:PL H as Fs)(hB:FL H b Ps)(lF:Fs.length<=9)(lP:Ps.length=fr.length)(oF:∀ F∈Fs,On L F)(oP:∀ F∈Ps,On L F)(q:∀ r H',ql H H'->H r=none->FL H' r (Fs.map λ F=>putIn F (gOf fr Ps))->Q (.ref r) H'):qdL K f [.ref b] H Q:=by
 obtain⟨bs,sb,pb⟩:=hB;have lb:bs.length=Ps.length:=pb.length;refine⟨gp,l,as,Fs,b,bs,gOf fr Ps,rfl,hC,SqL.of sb,?_,G6,pA.sq,lF,λ j c r hc hr=>?_,λ c hc=>vL (by rw[D4];exact hc),λ F hF=>qfU (oF F hF) M9 l6,λ F hF c hc=>qgJ lP G7 oP M9 l6 c,λ F hF=>qfV lP G7 oP l6 (oF F hF),λ r cs H' g nr er pr=>q r H' g nr ⟨cs,er,pr⟩⟩
 ·rw[lb,lP,D4,Ul]
 ·obtain⟨G,hG,eG⟩:=zJ pb j r hr;rw[<- D4] at hc;rw[qdm G7 hc hG];exact SqT.of eG
theorem qgO{x y:V}{z:Int}(h:z=0∨z=1):atI [x,y] z=some (if z=0 then x else y):=by
 rcases h with rfl|rfl <;> rfl
theorem jM{α β:Type}{R:α->β->Prop}:∀{xs:List α}{ys:List β},Paired R xs ys->∀ y∈ys,∃ x∈xs,R x y
 |_,_,.nil,y,h=>by simp at h
 |_,_,.cons r t,y,h=>by
  rcases Js.mp h with e|h
  ·subst e;exact⟨_,Y1 ..,r⟩
  ·obtain⟨b,hb,hr⟩:=jM t y h;exact⟨b,Ya _ hb,hr⟩
theorem qgP{L gv:List Nat}{F:List Pr}(h:On gv F)(s:∀ c∈gv,c∈L):On L F:=⟨h.vf,λ p hp c hc=>s c (h.mem p hp c hc)⟩
theorem qex:bootBuiltins "isinstance"=some (.builtin "isinstance"):=by decide +kernel
theorem zS:FnScope [sA1,"_law_givens",sC1,sA5,sA0,"_law_some",sB3,sB8,"_law_handed","_law_fill","_law_due_here","_law_mine","_law_found",sA9] [sA1] (qd vy):=scF
theorem qhT{Pt f K3 P6 n6 A5 W1 P7 cB V9:Addr}{fd K4 P9 n8 A6 W5 Q9 cE W4:FuncData}(F:Fun K "law" "law" vy f fd)(T:Txt mg)(N8:mg "int"=none)(p7:Dp P w K mg base 2 K3 K4 [sA1] (qde K) sB2)(x9:Dp P w K mg base 1 P6 P9 [sC1] (jn) sB7)(d8:Dp P w K mg base 1 n6 n8 [sA1,sB1] (jK K) sA7)(g9:Dp P w K mg base 3 A5 A6 [sA1,"_law_at",sA0] (qbR K) sA4)(C8:Dp P w K mg base 1 W1 W5 ["gaps","filling"] (qaH K Pt) "filler")(Gfree_of:Dp P w K mg base 1 P7 Q9 ["gaps"] (jn) "free_of")(C6:Dp P w K mg base 3 cB cE [sA0,sA5,sB3,sB8] (qfX K) sC3)(Gput_in:Dp P w K mg base 13 V9 W4 ["form","forms"] (qdK K) "put_in"): FnOk P w K mg base CX0 15 f fd [sA1] (qdN K Pt):=by
 refine F.okd zS (λ cdv A outer s H vs Q E hr h=>?_);obtain⟨a,ns,rfl,hS,gI,q⟩:=h;have t6:=jV hr;have O4:Room 14 _:=hr.mono (by decide);refine⟨_,(qf (qg5 (yF p7 hr (qa (pv 0) qc)) (qg4 (n:=2) rfl (zc (qp (i:=1) zS.nd rfl (Or.inl rfl)) (zc (qp (i:=2) zS.nd rfl (Or.inl rfl)) jb))))
  (qf (qt (i:=3) zS.nd rfl (Or.inl rfl) (yF x9 hr (qa (pv 2) qc)))
  (qf (qt (i:=4) zS.nd rfl (Or.inr rfl) (qx qgp (pv 1) (pv 3)))
  (qf (qt (i:=5) zS.nd rfl (Or.inr rfl) (ju zQ (zP (qa (pv 4) (qa (pv 1) qc))) (qx zr (yF d8 hr (qa (pv 0) (qa qh qc))) qh) (λ _ _=>rfl)))
  (qf (qby (i:=6) zS.nd rfl rfl (csc (NY:=[sB1,sA1,sA0]) (o:=1) (caps:=[0,4]) [sA1,sA0] rfl
    (by intro x hx;rcases Js.mp hx with e | hx;· rw[e];exact .inl rfl
        rw[Y9.mp hx];exact .inl rfl) (vI rfl rfl rfl (vI rfl rfl rfl yY)) rfl) rfl
    (zy (by rfl) T.range (qa (qG zm (by rfl) T.len Ji (qa (pv 2) qc)) qc)) (λ C0 s H fp pins=>qp (i:=0) (show([sB1,sA1,sA0]:List Str).Nodup by decide +kernel) rfl (Or.inl rfl)) (λ C0 s H fp pins=>zd) (λ C0 s H fp pins=>(yF g9 hr (qa (pv 1) (qa (qx yC qh (qx j0 qh (pv 0))) (qa (pv 2) qc))))))
  (qf (qby (i:=7) zS.nd rfl rfl (csc (NY:=[sB1,sA1,"_law_some"]) (o:=1) (caps:=[0,5]) [sA1,"_law_some"] rfl
    (by intro x hx;rcases Js.mp hx with e | hx;· rw[e];exact .inl rfl
        rw[Y9.mp hx];exact .inl rfl) (vI rfl rfl rfl (vI rfl rfl rfl yY)) rfl) rfl
    (zy (by rfl) T.range (qa (qG zm (by rfl) T.len Ji (qa (pv 2) qc)) qc)) (λ C0 s H fp pins=>qp (i:=0) (show([sB1,sA1,"_law_some"]:List Str).Nodup by decide +kernel) rfl (Or.inl rfl)) (λ C0 s H fp pins=>zd) (λ C0 s H fp pins=>(yF g9 hr (qa (pv 1) (qa (qx yC qh (qx j0 qh (pv 0))) (qa (pv 2) qc))))))
  (qf (qt (i:=8) zS.nd rfl (Or.inl rfl) (q9 yp (by rfl) T.list vA (qa (pv 6) qc)))
  (qf (qt (i:=9) zS.nd rfl (Or.inl rfl) (yF C8 hr (qa (pv 2) (qa (pv 8) qc))))
  (qf (jU (PW.pt (qeC (zO (kh t6) (pv 8) (pv 6) (zf _))
   (qeA (zO qgQ (yF Gfree_of hr (qa (pv 2) qc)) (pv 3) (zf _)))))
   (qm (qN qaP)) yb)
  (qf (ja (qhj X6 PySem.F.slot_list_clear PySem.F.type_list_clear qeO (pv 8)))
  (qf (qt (i:=10) zS.nd rfl (Or.inl rfl) (yF C6 hr (qa (pv 4) (qa (pv 3) (qa (pv 6) (qa (pv 7) qc))))))
  (qf (qt (i:=11) zS.nd rfl (Or.inl rfl) (q9 yp (by rfl) T.list vA (qa (pv 7) qc)))
  (qf (qt (i:=12) zS.nd rfl (Or.inl rfl) (qay 9 (vM O4 T Gfree_of.g Gfree_of.b Gfree_of.e Gfree_of.m Gput_in.g Gput_in.b Gput_in.e Gput_in.m) (qa (pv 11) qc)))
  (qf (jU (PW.pt (qeC (qg1 (js (qG qe8 (by rfl) T.isinstance qex (qa (pv 12) (qa (qf1 (v:=.ty "list") (by rfl) T.list vA rfl) qc)))))
   (qeC (zO (kh t6) (pv 12) (pv 10) (zf _))
   (qeA (zO (kh t6) (pv 11) (pv 7) (zf _))))))
   (qm (qN qaP)) yb)
  (qf (ja (yQ X6 Xw Xx zV (pv 12) (qa (vF qc) qc)))
  (qf (qt (i:=13) zS.nd rfl (Or.inl rfl) (qay 9 (vM O4 T Gfree_of.g Gfree_of.b Gfree_of.e Gfree_of.m Gput_in.g Gput_in.b Gput_in.e Gput_in.m) (qa (zu (csc (NY:=[sC4]) (o:=1) (caps:=[]) [] rfl
    (by simp) yY rfl) rfl
    (jx (pv 2)) (λ C0 s H fp pins=>qp (i:=0) (show([sC4]:List Str).Nodup by decide +kernel) rfl (Or.inl rfl)) (λ C0 s H fp pins=>zd) (λ C0 s H fp pins=>(vF (qa qH qc)))) qc)))
  (qf (jU (zO (kh t6) (pv 13) (yF C6 hr (qa (pv 4) (qa (pv 3) (qa (pv 6) (qa (zu (csc (NY:=[sC4]) (o:=1) (caps:=[]) [] rfl
    (by simp) yY rfl) rfl
    (jx (pv 2)) (λ C0 s H fp pins=>qp (i:=0) (show([sC4]:List Str).Nodup by decide +kernel) rfl (Or.inl rfl)) (λ C0 s H fp pins=>zd) (λ C0 s H fp pins=>(vF (qa qH qc)))) qc))))) (zf _))
   (qm (qN qaP)) yb)
  (qm (qN (yo (qgn t6) (qay 9 (vM O4 T Gfree_of.g Gfree_of.b Gfree_of.e Gfree_of.m Gput_in.g Gput_in.b Gput_in.e Gput_in.m) (qa (pv 11) qc)) (pv 10) (zf _))))))))))))))))))))),?_⟩
 obtain⟨hP,q⟩:=q;refine⟨_,rfl,a,ns,rfl,⟨hS,gI⟩,λ rl gv gp H1 g1 el sgv G6=>?_⟩;refine⟨rl,_,rfl,SqT.of el,rfl,_,_,rfl,_,_,rfl,rfl,?_⟩;have lgv:gv.length<=3:=sgv.length_le;have lgp:gp.length<=3:=G6.length_le;have lA:(gp.map zx).Sublist [112,113,114]:=qaI G6;refine⟨_,rfl,gp,rfl,G6,λ H2 g2=>?_⟩;refine⟨_,rfl,_,rfl,_,_,rfl,rfl,by rw[qJ,qJ,Ul];exact qP (by omega),?_⟩;rw[qa8];obtain⟨fr,D4⟩:∃ fr,fr=gp.map zx:=⟨_,rfl⟩;rw[<- D4] at lA ⊢;obtain⟨L,hL⟩:∃ L,L=gv++fr:=⟨_,rfl⟩;rw[<- hL];have lfr:fr.length=gp.length:=by rw[D4,Ul]
 have M9:L.Pairwise (·<·):=by rw[hL];exact(show([97,98,99,112,113,114]:List Nat).Pairwise (·<·) by decide).sublist (sgv.append lA)
 have l6:L.length<=6:=by rw[hL,Y4];omega
 have G7:fr.Nodup:=qO Jr (qcE.sublist lA);have asc:∀ c∈fr,c<128:=λ c hc=>qdM c (lA.subset hc)
 have mK:=g1.trans g2;refine⟨_,rfl,_,rfl,qP (by show 2<=_;decide),λ p hp=>?_⟩;have gp2:=ql.up hp (o:=.lst [vS L,vS gv]);refine⟨_,rfl,a,ns,1,rfl,⟨(mK.trans gp2).seq hS,gI⟩,by decide,by decide,λ z H3 g3 z0 z1=>?_⟩;have hz:z % 2=0∨z % 2=1:=by omega
 refine⟨_,_,rfl,rfl,(show(0:Int)<2 by decide),p,_,_,_,rfl,rfl,SqL.of (g3 _ _ qe),qgO hz,?_⟩;obtain⟨W,hW,eW⟩:∃ W,(W=L∨W=gv)/\(if z % 2=0 then vS L else vS gv)=vS W:=by
  rcases hz with h|h
  ·exact⟨L,.inl rfl,Q7 h⟩
  ·exact⟨gv,.inr rfl,Q8 (by omega)⟩
 rw[eW];have nM:∀ c∈W,c∈L:=λ c hc=>by
  rcases hW with rfl|rfl
  ·exact hc
  ·rw[hL];exact Yb _ hc
 have hrW:W.Pairwise (·<·):=by
  rcases hW with rfl|rfl
  ·exact M9
  ·rw[hL] at M9;exact(Yf.mp M9).1
 have l6W:W.length<=6:=by
  rcases hW with rfl|rfl
  ·exact l6
  ·omega
 have cY:=mK.trans (gp2.trans g3);have hP3:=cY _ _ hP;have aL:(qi gp).length=gp.length:=qJ gp;have K9:(qi gp).cps.size=gp.length:=qJ gp;have cJ:∀{HX:Hp}{D' z:Addr}{kv l l':List V},HX D'=some (.lst l)->HX z=some (.tup kv)->upd HX D' (.lst l') z=some (.tup kv):=λ{HX D' z kv l l'} hX h=>by
  have:z≠D':=λ q=>by rw[q,hX] at h;cases h
  rw[qg this];exact h
 refine⟨_,rfl,_,rfl,by rw[aL];exact qP (by omega),_,rfl,by rw[aL];omega,by rw[aL];omega,?_⟩;rw[aL];refine yg ((gp.length:Int)).toNat (λ i ys H'=>∃(fs:List Addr)(Fs:List (List Pr)),ys=fs.map V.ref/\Fs.length=i/\Paired (λ c (F:List Pr)=>On L F/\H' c=some (.tup (F.map vS))) fs Fs) (λ D hD=>⟨[],[],rfl,rfl,.nil⟩) (λ j ys H' hj ⟨fs,Fs,e,hl,pf⟩=>by rw[e,Ul,pf.length,hl];exact qZ (by omega)) ?_ (λ H' sm=>Ql _) ?_
 ·rintro j ys H' D' Y Z hj wW V4 sm ⟨fs,Fs,rfl,hl,pf⟩ hY hZ;refine⟨hj,?_⟩;rintro x' nC ⟨rfl,rfl⟩;have hj':j<gp.length:=by omega
  refine⟨⟨rfl,rfl⟩,?_⟩;refine⟨_,rfl,_,rfl,_,_,rfl,rfl,.inl ⟨by decide,by decide⟩,_,_,rfl,rfl,_,rfl,a,ns,_,L,rfl,⟨(cY.trans sm).seq hS,gI⟩,?_,?_,M9,l6,λ c F HC gC oF eC=>?_⟩
  ·show(0:Int)<=10+70*(0+(j:Int));omega
  ·show 10+70*(0+(j:Int))<=5000;omega
  have B6:=gC _ _ V4;refine hY _ _ B6 (sm.trans gC) ⟨fs++[c],Fs++[F],by rw[Ur];rfl,by rw[Y4,XL,hl],?_⟩;exact qE (L2.Paired.mapP pf λ z F h=>⟨h.1,cJ B6 (gC _ _ h.2)⟩) (.cons ⟨oF,cJ B6 eC⟩ .nil)
 rintro D1 H4 ys hD1 g4 e4 ⟨fs,Fs,rfl,hlF,pf⟩;rw[Zf] at hlF;have fl4:FL H4 D1 Fs:=⟨fs,e4,L2.Paired.mapP pf λ c F h=>h.2⟩;have oF:∀ F∈Fs,On L F:=λ F hF=>by
  obtain⟨c,_,h⟩:=jM pf F hF;exact h.1
 have g14:=cY.trans g4;refine⟨_,rfl,_,rfl,by rw[aL];exact qP (by omega),_,rfl,by rw[aL];omega,by rw[aL];omega,?_⟩;rw[aL];refine yg ((gp.length:Int)).toNat (λ i ys H'=>∃(fs:List Addr)(Fs:List (List Pr)),ys=fs.map V.ref/\Fs.length=i/\Paired (λ c (F:List Pr)=>On W F/\H' c=some (.tup (F.map vS))) fs Fs) (λ D hD=>⟨[],[],rfl,rfl,.nil⟩) (λ j ys H' hj ⟨fs,Fs,e,hl,pf⟩=>by rw[e,Ul,pf.length,hl];exact qZ (by omega)) ?_ (λ H' sm=>Ql _) ?_
 ·rintro j ys H' D' Y Z hj wW V4 sm ⟨fs,Fs,rfl,hl,pf⟩ hY hZ;refine⟨hj,?_⟩;rintro x' nC ⟨rfl,rfl⟩;have hj':j<gp.length:=by omega
  refine⟨⟨rfl,rfl⟩,?_⟩;refine⟨_,rfl,_,rfl,_,_,rfl,rfl,.inl ⟨by decide,by decide⟩,_,_,rfl,rfl,_,rfl,a,ns,_,W,rfl,⟨(g14.trans sm).seq hS,gI⟩,?_,?_,hrW,l6W,λ c F HC gC oF eC=>?_⟩
  ·show(0:Int)<=220+70*(0+(j:Int));omega
  ·show 220+70*(0+(j:Int))<=5000;omega
  have B6:=gC _ _ V4;refine hY _ _ B6 (sm.trans gC) ⟨fs++[c],Fs++[F],by rw[Ur];rfl,by rw[Y4,XL,hl],?_⟩;exact qE (L2.Paired.mapP pf λ z F h=>⟨h.1,cJ B6 (gC _ _ h.2)⟩) (.cons ⟨oF,cJ B6 eC⟩ .nil)
 rintro D2 H5 ys N2 g5 e5 ⟨ms,Ps,rfl,hlP,pm⟩;rw[Zf] at hlP;have fp5:FL H5 D2 Ps:=⟨ms,e5,L2.Paired.mapP pm λ c F h=>h.2⟩;have oP:∀ F∈Ps,On L F:=λ F hF=>by
  obtain⟨c,_,h⟩:=jM pm F hF;exact qgP h.1 nM
 have xB:=g14.trans g5;have xJ:=fl4.mono g5;obtain⟨V8,es5,pf5⟩:=id xJ;refine⟨_,rfl,D1,_,rfl,.inl (SqL.of es5),λ hd sM=>?_⟩;have g6:=ql.up sM (o:=.lst (V8.map V.ref));have bW:=(xB.trans g6) _ _ hP;have fl6:=xJ.mono g6;have fp6:=fp5.mono g6;have fh6:FL (upd H5 hd (.lst (V8.map V.ref))) hd Fs:=⟨V8,qe,L2.Paired.mapP pf5 λ c F h=>g6 _ _ h⟩;have n1:D1≠hd:=xJ.ne sM;have n2:D2≠hd:=fp5.ne sM;generalize u3:upd H5 hd (.lst (V8.map V.ref))=H6 at g6 bW fl6 fp6 fh6;have hU:H6 hd=some (.lst (V8.map V.ref)):=by rw[<- u3];exact qe
 refine⟨_,rfl,_,rfl,gp,hd,V8.map V.ref,rfl,SqL.of hU,.inl bW,λ f' l H7 g7 nf nl hC hT=>?_⟩;have fl7:=fl6.but bW g7;have fp7:=fp6.but bW g7;have fh7:=fh6.but bW g7;have nlh:l≠hd:=λ q=>by rw[q,hU] at nl;cases nl
 obtain⟨as7,sa7,pa7⟩:=fh7.sq (K:=K);obtain⟨bs7,sb7,pb7⟩:=fl7.sq (K:=K);have pk7:PL H7 V8 Fs:=PL.but (PL.mono (show PL H5 V8 Fs from pf5) g6) bW g7;have eh7:H7 hd=some (.lst (V8.map V.ref)):=g7 _ _ (λ q=>by rw[q,bW] at hU;cases hU) hU;refine⟨_,rfl,_,rfl,hd,D1,as7,bs7,Fs,Fs,rfl,rfl,sa7,sb7,pa7,pb7,rfl,?_⟩;refine⟨_,rfl,?_⟩;rw[yl];refine vY ?_;refine⟨_,rfl,gp,rfl,G6,λ H8 g8=>⟨_,rfl,rfl,?_⟩⟩;refine⟨_,rfl,?_⟩;rw[<- D4,yl];refine vY ?_;have cZ:=g8 _ _ eh7;refine⟨_,rfl,.inl ⟨rfl,_,SqL.of cZ⟩,hd,_,rfl,rfl,cZ,?_⟩;have xI:=(fl7.mono g8).put (zs:=[]) cZ n1;have mM:=(fp7.mono g8).put (zs:=[]) cZ n2;have hC9:=(hC.mono g8).put (zs:=[]) cZ nlh;have pk9:=(pk7.mono g8).put (zs:=[]) cZ;generalize upd H8 hd (.lst [])=H9 at xI mM hC9 pk9;have eB:Fs.length<=9:=by omega
 have sR:Ps.length=fr.length:=by omega
 obtain⟨a9,sa9,pa9⟩:=xI.sq (K:=K);obtain⟨b9,sb9,pb9⟩:=mM.sq (K:=K);refine⟨_,rfl,_,rfl,_,rfl,_,rfl,L,fr,D1,D2,a9,b9,Fs,Ps,rfl,M9,l6,G7,asc,by omega,sa9,pa9,sb9,pb9,eB,sR,oF,oP,λ du cs H10 g10 ndu edu pdu=>?_⟩;have xR:FL H10 du (Fs.map λ F=>putIn F (gOf fr Ps)):=⟨cs,edu,pdu⟩;obtain⟨W6,oO,pS⟩:=mM.mono g10;refine⟨_,rfl,D2,_,rfl,.inl (SqL.of oO),λ mi nmi=>?_⟩;have mL:=ql.up nmi (o:=.lst (W6.map V.ref));have W0:FL (upd H10 mi (.lst (W6.map V.ref))) mi Ps:=⟨W6,qe,L2.Paired.mapP pS λ c F h=>mL _ _ h⟩;generalize upd H10 mi (.lst (W6.map V.ref))=H11 at mL W0;have gA:=g10.trans mL;have P0:=hC9.mono gA;have dO:=pk9.mono gA;have gR:=xI.mono gA;have xG:=mM.mono gA;have gW:=xR.mono mL;refine⟨f',rfl,P0.isFn,_,rfl,P0.isFn,ask P0 D4 G6 G7 M9 l6 dO W0 eB sR oF oP λ fo H12 M4 lH gS=>?_⟩;have wY:=P0.mono M4;have pN:=dO.mono M4;have xL:=gR.mono M4;have xF:=xG.mono M4;have gV:=gW.mono M4;have gO:=W0.mono M4;obtain⟨aS,aW,oU⟩:=id gS;refine⟨_,rfl,_,_,rfl,TyOf.lst aW,_,rfl,vY ?_⟩;obtain⟨a12,oT,pX⟩:=gV.sq (K:=K);obtain⟨iR,oN,pR⟩:=gS.sq (K:=K);refine⟨_,rfl,_,rfl,fo,du,iR,a12,_,_,rfl,rfl,oN,oT,pR,pX,rfl,?_⟩;refine⟨_,rfl,?_⟩;rw[yl];refine vY ?_;obtain⟨cH,oK,pP⟩:=gO.sq (K:=K);obtain⟨d12,oJ,pO⟩:=xF.sq (K:=K);refine⟨_,rfl,_,rfl,mi,D2,cH,d12,Ps,Ps,rfl,rfl,oK,oJ,pP,pO,rfl,?_⟩;refine⟨_,rfl,?_⟩;rw[yl];refine vY ?_;refine⟨_,rfl,.inl ⟨rfl,_,SqL.of aW⟩,Qm _,λ bC uD=>?_⟩;have M3:=ql.up uD (o:=.tup []);have M5:=M3 _ _ aW;have lx12:aS.length=Fs.length:=by rw[oU.length,Ul]
 refine⟨fo,_,_,rfl,rfl,M5,by rw[Ul];exact qZ (by omega),?_⟩;have V5:=(wY.mono M3).put (zs:=aS.map V.ref++[.ref bC]) M5 (qhR P0 lH);have bB:=(pN.mono M3).put (zs:=aS.map V.ref++[.ref bC]) M5;have gQ:=(xL.mono M3).put (zs:=aS.map V.ref++[.ref bC]) M5 (gR.ne lH);have gU:=(gV.mono M3).put (zs:=aS.map V.ref++[.ref bC]) M5 (gW.ne lH);have gN:=(gO.mono M3).put (zs:=aS.map V.ref++[.ref bC]) M5 (W0.ne lH);generalize upd (upd H12 bC (.tup [])) fo (.lst (aS.map V.ref++[.ref bC]))=H13 at V5 bB gQ gU gN;have oE:∀ F∈List.replicate gp.length ([[]]:List Pr),On L F:=λ F hF=>by rw[(List.mem_replicate.mp hF).2];exact qhS L
 have lE:(List.replicate gp.length ([[]]:List Pr)).length=fr.length:=by rw[XI,lfr]
 refine⟨f',rfl,V5.isFn,_,rfl,_,rfl,?_⟩;refine yg (qi gp).cps.size (λ i ys H'=>∃ cs:List Addr,ys=cs.map V.ref/\PL H' cs (List.replicate i [[]])) (λ D hD=>⟨[],rfl,.nil⟩) (λ i ys H' hi ⟨cs,e,pc⟩=>by rw[e,Ul,Jq pc,XI];exact qZ (by omega)) ?_ (λ H' sm=>rfl) ?_
 ·rintro j ys H' D' Y Z hj wW V4 sm ⟨cs,rfl,pc⟩ hY hZ;refine⟨hj,?_⟩;rintro x' nC ⟨rfl,rfl⟩;refine⟨⟨rfl,rfl⟩,?_⟩;refine⟨qP (by show 1<=_;decide),λ pt bJ=>?_⟩;have gt:=ql.up bJ (o:=.tup [V.str ""]);have B6:=gt _ _ V4;refine hY _ _ B6 (sm.trans gt) ⟨cs++[pt],by rw[Ur];rfl,?_⟩;rw[List.replicate_succ'];exact qE ((PL.mono pc gt).put B6) (.cons (cJ B6 (by rw[qe,qdH])) .nil)
 rintro E1 H14 ys hE1 cA e14 ⟨cs14,rfl,dQ⟩;rw[K9] at dQ;have gH:=V5.mono cA;refine⟨gH.isFn,ask gH D4 G6 G7 M9 l6 (bB.mono cA) ⟨cs14,e14,dQ⟩ eB lE oF oE λ ot H15 xA not' xH=>?_⟩;have gB:=cA.trans xA;have xK:=gQ.mono gB;refine⟨_,rfl,_,rfl,_,rfl,_,rfl,_,rfl,_,rfl,?_⟩;refine yg (qi gp).cps.size (λ i ys H'=>∃ cs:List Addr,ys=cs.map V.ref/\PL H' cs (List.replicate i [[]])) (λ D hD=>⟨[],rfl,.nil⟩) (λ i ys H' hi ⟨cs,e,pc⟩=>by rw[e,Ul,Jq pc,XI];exact qZ (by omega)) ?_ (λ H' sm=>rfl) ?_
 ·rintro j ys H' D' Y Z hj wW V4 sm ⟨cs,rfl,pc⟩ hY hZ;refine⟨hj,?_⟩;rintro x' nC ⟨rfl,rfl⟩;refine⟨⟨rfl,rfl⟩,?_⟩;refine⟨qP (by show 1<=_;decide),λ pt bJ=>?_⟩;have gt:=ql.up bJ (o:=.tup [V.str ""]);have B6:=gt _ _ V4;refine hY _ _ B6 (sm.trans gt) ⟨cs++[pt],by rw[Ur];rfl,?_⟩;rw[List.replicate_succ'];exact qE ((PL.mono pc gt).put B6) (.cons (cJ B6 (by rw[qe,qdH])) .nil)
 rintro E2 H16 ys hE2 wZ e16 ⟨cs16,rfl,dP⟩;rw[K9] at dP;obtain⟨a16,oS,pW⟩:=(xK.mono wZ).sq (K:=K);refine⟨L,fr,D1,E2,a16,cs16,Fs,List.replicate gp.length [[]],rfl,M9,l6,G7,asc,by omega,oS,pW,SqL.of e16,PL.sq dP,eB,lE,oF,oE,λ d2 cs H17 g17 aB ed2 pd2=>?_⟩;obtain⟨a17,oR,pV⟩:=(xH.mono (wZ.trans g17)).sq (K:=K);refine⟨ot,d2,a17,cs,_,_,rfl,rfl,oR,SqL.of ed2,pV,PL.sq pd2,rfl,?_⟩;refine⟨_,rfl,?_⟩;rw[yl];refine vY ?_;have gC:=gB.trans (wZ.trans g17);have bZ:=V5.mono gC;refine⟨f',rfl,bZ.isFn,_,rfl,bZ.isFn,ask bZ D4 G6 G7 M9 l6 (bB.mono gC) (gN.mono gC) eB sR oF oP λ r H18 g18 nr xC=>?_⟩;obtain⟨a18,oQ,pU⟩:=xC.sq (K:=K);obtain⟨b18,oM,pQ⟩:=(gU.mono (gC.trans g18)).sq (K:=K);refine⟨_,rfl,r,du,a18,b18,_,_,rfl,rfl,oQ,oM,pU,pQ,rfl,?_⟩;rw[Jj rfl];exact q _
end
theorem all_mk{l:W.OpenLaw}{w:World}{K:W.Frag}{h:Heap}{mg:Str->Option Value}{fa cQ f1 f2 f3 f4 f5 f6 f7 f8 f9 mY mX mW mV mU mT mS mR mQ mP mO mN xS:Addr}(X:K.In h)(G:h.Ns mainGlobals mg)(wB:mg "law"=some (.ref fa)){od1 an1 rJ an2 od3 an3 od4 an4 od5 an5 od6 an6 od7 an7 od8 an8 od9 an9 rT an10 rS an11 rR an12 rQ an13 rP an14 rO an15 rN an16 rM an17 rL an18 rK an19 rH an20 rE an21 rD iT:Option Addr}{sl1 nV sl3 sl4 sl5 sl6 sl7 sl8 sl9 oI oH oD oC oB oA nZ nY nX nW nU nS nR:Array (Option Value)}{oc1 kV1 dc1 pm1 cd1 ct1 rY kV2 dc2 pm2 cd2 ct2 rU kV3 dc3 pm3 cd3 ct3 oc4 kV4 dc4 pm4 cd4 ct4 oc5 kV5 dc5 pm5 cd5 ct5 oc6 kV6 dc6 pm6 cd6 ct6 oc7 kV7 dc7 pm7 cd7 ct7 oc8 kV8 dc8 pm8 cd8 ct8 oc9 kV9 dc9 pm9 cd9 ct9 sJ tJ dc10 pK iP ct10 sI tI dc11 pJ ct11 sH tH dc12 pI iO ct12 sF tG dc13 pH iN ct13 sE tF dc14 pE iM ct14 sD tE dc15 pD iL ct15 sC tD dc16 pC iK ct16 sB sZ dc17 oZ iJ ct17 sA sW dc18 oY iI ct18 rZ sV dc19 oX iH ct19 rX sU dc20 oW iE ct20 rW sT dc21 oV iD ct21 rV eI iA dN cG iB:Value}(a1:W.nsIn K mainGlobals "letters_of"=some (some (.ref f1)))(l1:K.lookup f1=some ⟨oc1,od1,.func (W.fnOf "letters_of" "letters_of" (qz zD) (qw zD) (qd zD) .none kV1 dc1 pm1 an1 cd1 ct1),sl1⟩)(c1:W.codeIn K cd1 "letters_of"=true)(k1:W.keepIn K (.ref f1)=true)(a2:W.nsIn K mainGlobals "row_count"=some (some (.ref f2)))(l2:K.lookup f2=some ⟨rY,rJ,.func (W.fnOf "row_count" "row_count" (qz zK) (qw zK) (qd zK) .none kV2 dc2 pm2 an2 cd2 ct2),nV⟩)(c2:W.codeIn K cd2 "row_count"=true)(k2:W.keepIn K (.ref f2)=true)(a3:W.nsIn K mainGlobals "table_of"=some (some (.ref f3)))(l3:K.lookup f3=some ⟨rU,od3,.func (W.fnOf "table_of" "table_of" (qz zX) (qw zX) (qd zX) .none kV3 dc3 pm3 an3 cd3 ct3),sl3⟩)(c3:W.codeIn K cd3 "table_of"=true)(k3:W.keepIn K (.ref f3)=true)(a4:W.nsIn K mainGlobals "form_of"=some (some (.ref f4)))(l4:K.lookup f4=some ⟨oc4,od4,.func (W.fnOf "form_of" "form_of" (qz yu) (qw yu) (qd yu) .none kV4 dc4 pm4 an4 cd4 ct4),sl4⟩)(c4:W.codeIn K cd4 "form_of"=true)(k4:W.keepIn K (.ref f4)=true)(a5:W.nsIn K mainGlobals "products_over"=some (some (.ref f5)))(l5:K.lookup f5=some ⟨oc5,od5,.func (W.fnOf "products_over" "products_over" (qz za) (qw za) (qd za) .none kV5 dc5 pm5 an5 cd5 ct5),sl5⟩)(c5:W.codeIn K cd5 "products_over"=true)(k5:W.keepIn K (.ref f5)=true)(a6:W.nsIn K mainGlobals "summed"=some (some (.ref f6)))(l6:K.lookup f6=some ⟨oc6,od6,.func (W.fnOf "summed" "summed" (qz yJ) (qw yJ) (qd yJ) .none kV6 dc6 pm6 an6 cd6 ct6),sl6⟩)(c6:W.codeIn K cd6 "summed"=true)(k6:W.keepIn K (.ref f6)=true)(a7:W.nsIn K mainGlobals "put_in"=some (some (.ref f7)))(l7:K.lookup f7=some ⟨oc7,od7,.func (W.fnOf "put_in" "put_in" (qz y6) (qw y6) (qd y6) .none kV7 dc7 pm7 an7 cd7 ct7),sl7⟩)(c7:W.codeIn K cd7 "put_in"=true)(k7:W.keepIn K (.ref f7)=true)(a8:W.nsIn K mainGlobals "numbers_by"=some (some (.ref f8)))(l8:K.lookup f8=some ⟨oc8,od8,.func (W.fnOf "numbers_by" "numbers_by" (qz zE) (qw zE) (qd zE) .none kV8 dc8 pm8 an8 cd8 ct8),sl8⟩)(c8:W.codeIn K cd8 "numbers_by"=true)(k8:W.keepIn K (.ref f8)=true)(a9:W.nsIn K mainGlobals "letters_in_all"=some (some (.ref f9)))(l9:K.lookup f9=some ⟨oc9,od9,.func (W.fnOf "letters_in_all" "letters_in_all" (qz qW) (qw qW) (qd qW) .none kV9 dc9 pm9 an9 cd9 ct9),sl9⟩)(c9:W.codeIn K cd9 "letters_in_all"=true)(k9:W.keepIn K (.ref f9)=true)(a10:W.nsIn K mainGlobals "free_of"=some (some (.ref mY)))(l10:K.lookup mY=some ⟨sJ,rT,.func (W.fnOf "free_of" "free_of" (qz yw) (qw yw) (qd yw) .none tJ dc10 pK an10 iP ct10),oI⟩)(c10:W.codeIn K iP "free_of"=true)(k10:W.keepIn K (.ref mY)=true)(a11:W.nsIn K mainGlobals "filler"=some (some (.ref mX)))(l11:K.lookup mX=some ⟨sI,rS,.func (W.fnOf "filler" "filler" (qz yK) (qw yK) (qd yK) .none tI dc11 pJ an11 (.ref cQ) ct11),oH⟩)(c11:W.codeIn K (.ref cQ) "filler"=true)(k11:W.keepIn K (.ref mX)=true)(a12:W.nsIn K mainGlobals sA7=some (some (.ref mW)))(l12:K.lookup mW=some ⟨sH,rR,.func (W.fnOf sA7 sA7 (qz zL) (qw zL) (qd zL) .none tH dc12 pI an12 iO ct12),oD⟩)(cH:W.codeIn K iO sA7=true)(lL:W.keepIn K (.ref mW)=true)(a13:W.nsIn K mainGlobals sB4=some (some (.ref mV)))(l13:K.lookup mV=some ⟨sF,rQ,.func (W.fnOf sB4 sB4 (qz yx) (qw yx) (qd yx) .none tG dc13 pH an13 iN ct13),oC⟩)(c13:W.codeIn K iN sB4=true)(lK:W.keepIn K (.ref mV)=true)(a14:W.nsIn K mainGlobals sB9=some (some (.ref mU)))(l14:K.lookup mU=some ⟨sE,rP,.func (W.fnOf sB9 sB9 (qz zY) (qw zY) (qd zY) .none tF dc14 pE an14 iM ct14),oB⟩)(c14:W.codeIn K iM sB9=true)(k14:W.keepIn K (.ref mU)=true)(a15:W.nsIn K mainGlobals sB5=some (some (.ref mT)))(l15:K.lookup mT=some ⟨sD,rO,.func (W.fnOf sB5 sB5 (qz zZ) (qw zZ) (qd zZ) .none tE dc15 pD an15 iL ct15),oA⟩)(c15:W.codeIn K iL sB5=true)(tK:W.keepIn K (.ref mT)=true)(a16:W.nsIn K mainGlobals sB6=some (some (.ref mS)))(l16:K.lookup mS=some ⟨sC,rN,.func (W.fnOf sB6 sB6 (qz zM) (qw zM) (qd zM) .none tD dc16 pC an16 iK ct16),nZ⟩)(c16:W.codeIn K iK sB6=true)(k16:W.keepIn K (.ref mS)=true)(a17:W.nsIn K mainGlobals sB2=some (some (.ref mR)))(l17:K.lookup mR=some ⟨sB,rM,.func (W.fnOf sB2 sB2 (qz zq) (qw zq) (qd zq) .none sZ dc17 oZ an17 iJ ct17),nY⟩)(c17:W.codeIn K iJ sB2=true)(k17:W.keepIn K (.ref mR)=true)(a18:W.nsIn K mainGlobals sC0=some (some (.ref mQ)))(l18:K.lookup mQ=some ⟨sA,rL,.func (W.fnOf sC0 sC0 (qz ya) (qw ya) (qd ya) .none sW dc18 oY an18 iI ct18),nX⟩)(c18:W.codeIn K iI sC0=true)(k18:W.keepIn K (.ref mQ)=true)(a19:W.nsIn K mainGlobals sA4=some (some (.ref mP)))(l19:K.lookup mP=some ⟨rZ,rK,.func (W.fnOf sA4 sA4 (qz qX) (qw qX) (qd qX) .none sV dc19 oX an19 iH ct19),nW⟩)(c19:W.codeIn K iH sA4=true)(k19:W.keepIn K (.ref mP)=true)(a20:W.nsIn K mainGlobals sB7=some (some (.ref mO)))(l20:K.lookup mO=some ⟨rX,rH,.func (W.fnOf sB7 sB7 (qz zN) (qw zN) (qd zN) .none sU dc20 oW an20 iE ct20),nU⟩)(c20:W.codeIn K iE sB7=true)(k20:W.keepIn K (.ref mO)=true)(a21:W.nsIn K mainGlobals sC3=some (some (.ref mN)))(l21:K.lookup mN=some ⟨rW,rE,.func (W.fnOf sC3 sC3 (qz yy) (qw yy) (qd yy) .none sT dc21 oV an21 iD ct21),nS⟩)(c21:W.codeIn K iD sC3=true)(k21:W.keepIn K (.ref mN)=true)(a22:W.nsIn K mainGlobals "law"=some (some (.ref xS)))(l22:K.lookup xS=some ⟨rV,rD,.func (W.fnOf "law" "law" (qz vy) (qw vy) (qd vy) .none eI iA dN iT cG iB),nR⟩)(c22:W.codeIn K cG "law"=true)(k22:W.keepIn K (.ref xS)=true){gF Pt:Addr}{nF:Nat}{dH dG dF dE dD dC:Tok}{ocQ xq0 xq1 xq2 xq3 xq4 xq5 xq6 xq7 xq8 xq9 nJ:Value}{xr:List Value}{odQ:Option Addr}{slQ:Array (Option Value)}(aF:W.nsIn K mainGlobals "FREE"=some (some (.ref gF)))(lF:K.lookup gF=some ⟨.type "dict",none,.dict [⟨hashStr w "x",.str "x" dH,.str "p" dG⟩,⟨hashStr w "y",.str "y" dF,.str "q" dE⟩,⟨hashStr w "z",.str "z" dD,.str "r" dC⟩].toArray nF,#[]⟩)(lcQ:K.lookup cQ=some ⟨ocQ,odQ,.fields (xq0::xq1::xq2::xq3::xq4::xq5::xq6::xq7::xq8::xq9::nJ::.ref Pt::xr).toArray,slQ⟩)(nQ:W.noTabs K=true)(z1:W.nsIn K mainGlobals "len"=some none)(z2:W.nsIn K mainGlobals "list"=some none)(z3:W.nsIn K mainGlobals "sorted"=some none)(z4:W.nsIn K mainGlobals "set"=some none)(z5:W.nsIn K mainGlobals "tuple"=some none)(z6:W.nsIn K mainGlobals "dict"=some none)(z7:W.nsIn K mainGlobals "zip"=some none)(z8:W.nsIn K mainGlobals "reversed"=some none)(z9:W.nsIn K mainGlobals "range"=some none)(z10:W.nsIn K mainGlobals "enumerate"=some none)(z11:W.nsIn K mainGlobals "all"=some none)(z12:W.nsIn K mainGlobals "min"=some none)(z13:W.nsIn K mainGlobals "max"=some none)(z14:W.nsIn K mainGlobals "isinstance"=some none)(z15:W.nsIn K mainGlobals "str"=some none)(z16:W.nsIn K mainGlobals "bool"=some none)(z17:W.nsIn K mainGlobals "int"=some none):
  ∃(fd:FuncData)(c Pt:Addr),W.tabIn K "filler"=some (c,Pt)/\W.noTabs K=true/\(∀(s:Shared)(v:Value),BindsTo s fd ⟨[v],[]⟩ [(sA1,v)])/\∀ base:Heap,K.In base->base.Ns mainGlobals mg->PySem.W.CodeHd base c Pt->qaN base mg->FnOk l.prog w K mg base CX0 15 fa fd [sA1] (qdN K Pt):=by
 have e:=wB.symm.trans (Q3 X G a22);cases e
 have T:Txt mg:=⟨Qh X G z1,Qh X G z2,Qh X G z3,Qh X G z4,Qh X G z5,Qh X G z6,Qh X G z7,Qh X G z8,Qh X G z9,Qh X G z10,Qh X G z11,Qh X G z12,Qh X G z13,Qh X G z14,Qh X G z15,Qh X G z16⟩;have N8:=Qh X G z17;have F1:=q5 (st:=zD) l1 c1 k1;have m1:=Q3 X G a1;have b1:=F1.binds (ps:=["form"]);have F2:=q5 (st:=zK) l2 c2 k2;have m2:=Q3 X G a2;have b2:=F2.binds (ps:=["letters"]);have F3:=q5 (st:=zX) l3 c3 k3;have m3:=Q3 X G a3;have b3:=F3.binds (ps:=["form","letters"]);have F4:=q5 (st:=yu) l4 c4 k4;have m4:=Q3 X G a4;have b4:=F4.binds (ps:=["letters","table"]);have F5:=q5 (st:=za) l5 c5 k5;have m5:=Q3 X G a5;have b5:=F5.binds (ps:=["letters"]);have F6:=q5 (st:=yJ) l6 c6 k6;have m6:=Q3 X G a6;have b6:=F6.binds (ps:=["truths"]);have F7:=q5 (st:=y6) l7 c7 k7;have m7:=Q3 X G a7;have b7:=F7.binds (ps:=["form","forms"]);have F8:=q5 (st:=zE) l8 c8 k8;have m8:=Q3 X G a8;have b8:=F8.binds (ps:=["forms","letters"]);have F9:=q5 (st:=qW) l9 c9 k9;have m9:=Q3 X G a9;have b9:=F9.binds (ps:=["forms"]);have F10:=q5 (st:=yw) l10 c10 k10;have m10:=Q3 X G a10;have b10:=F10.binds (ps:=["gaps"]);have F11:=q5 (st:=yK) l11 c11 k11;have m11:=Q3 X G a11;have b11:=F11.binds (ps:=["gaps","filling"]);have F12:=q5 (st:=zL) l12 cH lL;have sO:=Q3 X G a12;have iR:=F12.binds (ps:=[sA1,sB1]);have F13:=q5 (st:=yx) l13 c13 lK;have sN:=Q3 X G a13;have b13:=F13.binds (ps:=[sA0,sA3]);have F14:=q5 (st:=zY) l14 c14 k14;have m14:=Q3 X G a14;have b14:=F14.binds (ps:=[sA0]);have F15:=q5 (st:=zZ) l15 c15 tK;have m15:=Q3 X G a15;have b15:=F15.binds (ps:=[sA0,sA8]);have F16:=q5 (st:=zM) l16 c16 k16;have m16:=Q3 X G a16;have b16:=F16.binds (ps:=[sA6,sA2]);have F17:=q5 (st:=zq) l17 c17 k17;have m17:=Q3 X G a17;have b17:=F17.binds (ps:=[sA1]);have F18:=q5 (st:=ya) l18 c18 k18;have m18:=Q3 X G a18;have b18:=F18.binds (ps:=[sC2,sA9]);have F19:=q5 (st:=qX) l19 c19 k19;have m19:=Q3 X G a19;have b19:=F19.binds (ps:=[sA1,"_law_at",sA0]);have F20:=q5 (st:=zN) l20 c20 k20;have m20:=Q3 X G a20;have b20:=F20.binds (ps:=[sC1]);have F21:=q5 (st:=yy) l21 c21 k21;have m21:=Q3 X G a21;have b21:=F21.binds (ps:=[sA0,sA5,sB3,sB8]);have F22:=q5 (st:=vy) l22 c22 k22;have m22:=Q3 X G a22;have O0:=Q3 X G aF;have P4:GD K w gF qfR:=⟨⟨_,_,lF,.cons ⟨_,_,rfl⟩ (.cons ⟨_,_,rfl⟩ (.cons ⟨_,_,rfl⟩ .nil))⟩,by decide +kernel⟩;refine⟨W.fnOf "law" "law" (qz vy) (qw vy) (qd vy) .none eI iA dN iT cG iB,cQ,Pt,qfx a11 l11 rfl lcQ rfl,nQ,λ s v=>.of_eq rfl,λ base _ _ CQ BQ=>?_⟩;have u4:FnOk l.prog w K mg base CX0 1 f1 _ ["form"] (jS K):=qc8 F1 T;have K6:FnOk l.prog w K mg base CX0 1 f2 _ ["letters"] (qbO):=qfJ F2 T;have n9:FnOk l.prog w K mg base CX0 1 f5 _ ["letters"] (km):=qfy F5 T;have L6:=qbf (P:=l.prog) (w:=w) (base:=base) F6 T b6 m6 10;have B2:FnOk l.prog w K mg base CX0 11 f3 _ ["form","letters"] (kn K):=qfA F3 T ⟨n9,b5,k5,m5⟩ ⟨L6,b6,k6,m6⟩;have R3:FnOk l.prog w K mg base CX0 11 f4 _ ["letters","table"] (qc9 K):=qgB F4 T ⟨n9,b5,k5,m5⟩ ⟨L6,b6,k6,m6⟩;have u7:FnOk l.prog w K mg base CX0 2 f9 _ ["forms"] (qfK K):=qhJ F9 T ⟨u4,b1,k1,m1⟩;have E8:FnOk l.prog w K mg base CX0 12 f8 _ ["forms","letters"] (qdg K):=qgG F8 T ⟨K6,b2,k2,m2⟩ ⟨B2,b3,k3,m3⟩;have Gput_in:FnOk l.prog w K mg base CX0 13 f7 _ ["form","forms"] (qdK K):=qhK F7 T ⟨u4,b1,k1,m1⟩ ⟨u7,b9,k9,m9⟩ ⟨B2,b3,k3,m3⟩ ⟨E8,b8,k8,m8⟩ ⟨R3,b4,k4,m4⟩
 have Gfree_of:FnOk l.prog w K mg base CX0 1 mY _ ["gaps"] (jn):=qeu F10 T O0 P4;have C8:FnOk l.prog w K mg base CX0 1 mX _ ["gaps","filling"] (qaH K Pt):=qev F11 T rfl CQ BQ;have d8:FnOk l.prog w K mg base CX0 1 mW _ [sA1,sB1] (jK K):=qfC F12 T;have i8:FnOk l.prog w K mg base CX0 1 mV _ [sA0,sA3] (qaA):=qgE F13 T;have C5:FnOk l.prog w K mg base CX0 2 mU _ [sA0] (qbN):=qfH F14 T ⟨i8,b13,lK,sN⟩;have o4:FnOk l.prog w K mg base CX0 2 mT _ [sA0,sA8] (kq K):=qfI F15 T ⟨i8,b13,lK,sN⟩;have r9:FnOk l.prog w K mg base CX0 1 mS _ [sA6,sA2] (qbQ K):=qfM F16 T;have p7:FnOk l.prog w K mg base CX0 2 mR _ [sA1] (qde K):=qgC F17 T ⟨d8,iR,lL,sO⟩;have C7:FnOk l.prog w K mg base CX0 1 mQ _ [sC2,sA9] (qdh):=qgH F18 T;have g9:FnOk l.prog w K mg base CX0 3 mP _ [sA1,"_law_at",sA0] (qbR K):=qfQ F19 T ⟨d8,iR,lL,sO⟩ ⟨i8,b13,lK,sN⟩ ⟨o4,b15,tK,m15⟩;have x9:FnOk l.prog w K mg base CX0 1 mO _ [sC1] (jn):=qfP F20 T;have C6:FnOk l.prog w K mg base CX0 3 mN _ [sA0,sA5,sB3,sB8] (qfX K):=qhO F21 T ⟨C5,b14,k14,m14⟩ ⟨r9,b16,k16,m16⟩ ⟨C7,b18,k18,m18⟩ ⟨o4,b15,tK,m15⟩;exact qhT F22 T N8 ⟨p7,b17,k17,m17⟩ ⟨x9,b20,k20,m20⟩ ⟨d8,iR,lL,sO⟩ ⟨g9,b19,k19,m19⟩ ⟨C8,b11,k11,m11⟩ ⟨Gfree_of,b10,k10,m10⟩ ⟨C6,b21,k21,m21⟩ ⟨Gput_in,b7,k7,m7⟩
open PyProof.Rows in
theorem walk{l:W.OpenLaw}{q:Program}{A8:List Str}{XP:(Str->Option Value)->Heap->Prop}{YP:World->Heap->Prop}{d d2:DefRec}{K:Params->W.Frag}(O7:(recsOf q).find? (λ e=>e.name == ("filler":Str))=some d2)(hn:l.most=some 63)(fU:d.params.defaults=[])(hY:∀(w:World)(h:Heap),YP w h->(K w.params).In h)(F:∀(w:World)(mg:Str->Option Value)(fa:Addr)(h:Heap),(K w.params).In h->h.Ns mainGlobals mg->mg d.name=some (.ref fa) ->
   ∃(fd:FuncData)(c Pt:Addr),W.tabIn (K w.params) "filler"=some (c,Pt)/\W.noTabs (K w.params)=true/\(∀(s:Shared)(u:Value),BindsTo s fd ⟨[u],[]⟩ [(sA1,u)])/\∀ base:Heap,(K w.params).In base->base.Ns mainGlobals mg->PySem.W.CodeHd base c Pt->qaN base mg->FnOk l.prog w (K w.params) mg base CX0 15 fa fd [sA1] (qdN (K w.params) Pt)):
  PySem.W.WalkO q A8 XP YP l.row.toRowW d [] (λ f vs=>PySem.call f vs):=
 L2.walk_ofT (n:=63) (k:=15) (x:=sA1) (mk:="filler") (CX:=λ _=>CX0) (sp:=λ w Pt=>qdN (K w.params) Pt) hn (by decide) fU ⟨rfl,by decide,by decide⟩ hY O7 F (λ _ _ _ a ns hl hP hS=>⟨a,ns,rfl,hS,hl,hP,λ _=>rfl⟩) λ _ _ _ _ _ z=>z
end Law
open PySem PySem.W PyProof.Rows
structure PySem.W.Fast:Prop where (tw11985233290469671192 tw7860871225939337265 tw14118409420171154877 tw12233547239473235969 tw8308219806255320267 tw6436579402036165121 tw11974125256384792450 tw7272684279268778030 tw4325463331823204193 tw18057454162460862745 tw10738797767219212427 tw3674468367826794152 tw18389805834882259046 tw2609924605404709925 tw12725024747673096177 tw11635989523724022826 tw3098343423846819911 tw15878951098753154139 tw13030738864536533653 tw8832819169105579232 tw2387991286797946701 tw985672453165950411 tw12483525898432816451 tw10395750016478024860 tw17341297056397274160 tw11624716909494119860 tw15984574701204655629 tw1880411112364784773 tw10082130569997268107 tw12002214622804431957 tw15433452243083619766 tw14601804474300304207 tw6919478282662004429 tw4286677876373023454 tw14683471797933322079 tw3071683275310237352 tw5536323371722675340 tw14991887663009078074 tw13755589627144730472 tw17034327072041925160 tw10574148389765130179 tw17447824020428395687 tw368980632527302171 tw7381207814448459765 tw17622723724398511573 tw2022982629663964398 tw9533884745707679590 tw10416457279622025561 tw14423397964682383195 tw11311153788818862747 tw9721525496956544051 tw6652465553880897397 tw8008985169678170682 tw1655155738603665134 tw7618680498335135408 tw1873253538605372443 tw17987744801204346134 tw9886636359438277311 tw13098241190892681661 tw2955619641058264533 tw3614474471848729752 tw14192152240527370162 tw6950768591315747270 tw5648233127473545484 tw2267127287926345046 tw4260296950542508065 tw1385518543618674438 tw2852133688338834939 tw13714376569228357385 tw10862885277516929036 tw8418074344486099071 tw10958946702472457078 tw2635076000739817605 tw697301480249571898 tw6263503206583797614 tw2766021395402101418 tw11427123756925602266 tw13927058905739641958 tw1572804934578981613 tw5551862253174338661 tw12831548739022786666 tw17453134527961591487 tw5504717711937058676 tw5853101625410445419 tw3451652234975536013 tw5498793976605928032 tw1369492334864600799 tw2793169878734244632 tw15414142345072957538 tw17621678901251180695 tw7743983046828985324 tw2425217893512873550 tw9170362884011645659 tw9137364244092879236 tw7207284940219719812 tw6374249875549295541 tw5838056198381892164 tw5234100150771410840 tw5144941810452425944 tw4312096792851029061 tw3464341797750163792 tw3152962904489977551 tw2870306230211154702 tw2719125881266490247 tw2401644330766559400 tw18230393642678679854 tw1701295241169035411 tw1613392483202013717 tw15675632160547874768 tw15399343237919035955 tw14857334620805924805 tw14106249895156378057 tw13918523249925047722 tw13634859581012836429 tw13586623867014773915 tw1217864759852379124 tw11324114342854804050 tw10969645890777167312 tw10849177491679691035 tw10736112136198070705 tw10232006445107567328 tw10078512333856521800:True)
set_option maxRecDepth 100000 in
set_option maxHeartbeats 0 in
theorem PySem.Challenge.cw_fillsay_k51_free_letters_and_fillers_holds : PySem.Challenge.rw_fillsay_k51_free_letters_and_fillers.Holds := by
 w_on;o_law;k_head;(case hw=>w_witness2)
 k_fill
 refine Law.walk (l:=PySem.Challenge.rw_fillsay_k51_free_letters_and_fillers) rfl rfl rfl (λ w h Y=>W.km_in_of Y) ?F
 case F =>
  intro w mg fa h KX G fL;refine' Law.all_mk KX G fL ..
  any_goals first|k_is|kernel_rfl
