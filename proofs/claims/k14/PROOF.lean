import PyProof.Rows.All
import Wide.All
import OpenK.AllK
import Wide.FinOn
import Lean
import PyProof.EqAt
import PyProof.EqKinds
import PyProof.TupleCall
import PyProof.NeKinds
import KE.KSortTup
import PySem.Challenge.RW_surecall_k14_made_bodies_and_kinds
local macro_rules|`($x⁻¹)=>`(($x).heap.objs.size)
local macro_rules|`(↑$x)=>`(($x).length)
local macro_rules|`(tactic|exists $es,*)=>`(tactic|refine⟨$es,*, ?_⟩)
set_option maxHeartbeats 8000000
local macro_rules|`(tactic|rfl')=>`(tactic|decide +kernel)
abbrev Fg:=PySem.W.Frag
abbrev Vp:=PySem.Value->PySem.Shared->Prop
set_option Elab.async false
set_option linter.all false
set_option maxRecDepth 100000
def zz1:=@PySem.wpAny_bind
def zz2:=@List.getElem?_eq_getElem
def wz1:=@List.not_mem_nil
def wz2:=@List.getElem?_eq_some_iff
def wz3:=@PySem.Heap.get?_push_of_some
def wz4:=@List.length_append
def wz5:=@List.getElem?_map
def wz6:=@Nat.le_refl
def wz7:=@PySem.wpAny_pure
def wz8:=@Option.map_eq_some_iff
def wz9:=@List.map_append
def vb0:=@List.mem_of_getElem?
def vb1:=@PySem.Heap.lt_size
def vb2:=@List.take_of_length_le
def vb3:=@of_decide_eq_true
def vb4:=@List.mem_cons
def vb5:=@Nat.le_of_lt
def vb6:=@Bool.false_ne_true
def vb7:=@Nat.ne_of_lt
def vb8:=@PySem.Heap.get?_push_size
def vb9:=@List.mem_map
def vc0:=@List.size_toArray
def vc1:=@List.length_singleton
def vc2:=@List.length_take
def vc3:=@PyProof.Rows.wpS_bind
def vc4:=@List.mem_append
def vc5:=@List.take_add_one
def vc6:=@List.length_cons
def vc7:=@List.mem_singleton
def vc8:=@PyProof.Rows.wpS_pure
def vc9:=@Nat.zero_le
def vd0:=@if_neg
def vd1:=@decide_eq_true
def vd2:=@PySem.F.plainAttrs_list
def vd3:=@if_pos
def vd4:=@List.mem_append_right
def vd5:=@PySem.PassesOwn.never
def vd6:=@beq_iff_eq
def vd7:=@Array.length_toList
def vd8:=@List.append_assoc
def vd9:=@PySem.F.slot_list_append
def vf0:=@PySem.F.type_list_append
def vf1:=@Nat.ne_of_gt
def vf2:=@List.all_eq_true
def vf3:=@Nat.lt_of_lt_of_le
def vf4:=@decide_eq_false
def vf5:=@List.map_cons
def vf6:=@List.mem_cons_of_mem
def vf7:=@Option.some.inj
def vf8:=@List.getElem_of_mem
def vf9:=@List.mem_iff_getElem?
def vg0:=@List.take_append_drop
def vg1:=@congrArg
def vg2:=@PySem.wpAny_callSpecial?_slot
def vg3:=@Array.toList_append
def vg4:=@PySem.wpAny_call_entry
def vg5:=@PySem.wpAny_newObj_type
def vg6:=@List.getElem_mem
def vg7:=@PySem.boot_len
def vg8:=@PySem.wpAny_holding
def vg9:=@Nat.eq_or_lt_of_le
def vh0:=@PySem.wpAny_field
def vh1:=@Nat.le_trans
def vh2:=@List.length_drop
def vh3:=@PyProof.Rows.callWith_type1
def vh4:=@List.append_nil
def vh5:=@List.pairwise_append
def vh6:=@List.nodup_cons
def vh7:=@PySem.F.slot_dict_get
def vh8:=@List.getElem?_append_left
def vh9:=@PySem.Heap.get?_update_other
def vj0:=@Nat.lt_trans
def vj1:=@Nat.lt_irrefl
def vj2:=@or_false
def vj3:=@Ne.symm
def vj4:=@PySem.wpAny_mono
def vj5:=@PySem.Calls.spliced_cons
def vj6:=@Bool.false_eq_true
def vj7:=@PySem.Heap.get?_update_self
def vj8:=@Nat.zero_add
def vj9:=@List.map_map
def vk0:=@List.getElem?_append_right
def vk1:=@List.getD_eq_getElem?_getD
def vk2:=@PySem.F.plainAttrs_dict
def vk3:=@PyProof.Rows.wpS_forRange
def vk4:=@List.mem_of_mem_take
def vk5:=@PySem.Calls.callWith_builtin
def vk6:=@PySem.wpAny_setField_rec
def vk7:=@PySem.W.kia_one
def vk8:=@List.length_nil
def vk9:=@PySem.builtinLookup_eq_fast
def vm0:=@List.perm_append_comm
def vm1:=@List.flatMap_append
def vm2:=@PySem.wpAny_seqItems
def vm3:=@List.drop_eq_getElem_cons
def vm4:=@List.length_filter_le
def vm5:=@PySem.F.slot_dict_keyiterator_next
def vm6:=@Bool.eq_iff_iff
def vm7:=@True.intro
def vm8:=@PySem.Calls.evalArgs_plain
def vm9:=@Array.perm_iff_toList_perm
def vn0:=@PySem.F.entry_dict_get
def vn1:=@PySem.Calls.spliced_nil
def vn2:=@PySem.mem_of_lookup
def vn3:=@PySem.wpAny_dictEntries
def vn4:=@List.pairwise_map
def vn5:=@List.map_congr_left
def vn6:=@List.nodup_nil
def vn7:=@Array.getElem?_toList
def vn8:=@PySem.wpAny_specialOf
def vn9:=@List.getElem?_eq_none
def vp0:=@List.Perm.append_left
def vp1:=@List.mem_cons_self
def vp2:=@PySem.wpAny_rule
def vp3:=@PySem.wpAny_comprehension_free
def vp4:=@Bool.and_eq_true
def vp5:=@PySem.wpAny_typeNameOfWhole_keyiter
def vp6:=@List.mem_append_left
def vp7:=@PySem.Around.under_plainId
def vp8:=@if_false
def vp9:=@PySem.wpAny_attempt
def vq0:=@List.length_eq_zero_iff
def vq1:=@Nat.lt_or_ge
def vq2:=@List.take_sublist
def vq3:=@Int.toNat_natCast
def vq4:=@PySem.wpAny_Call_method
def vq5:=@List.getElem_take
def vq6:=@List.mem_filter
def vq7:=@PySem.Heap.SameBut.update
def vq8:=@PySem.F.slot_zip_next
def vq9:=@PySem.typeLookup_type
def vr0:=@List.filter_nil
def vr1:=@PySem.F.slot_NoneType_hash
def vr2:=@PySem.F.slot_tuple_iterator_next
def vr3:=@beq_self_eq_true
def vr4:=@Nat.le_add_right
def vr5:=@PySem.tupleKind_room_in1
def vr6:=@Int.emod_lt_of_pos
def vr7:=@List.getElem?_zip_eq_some
def vr8:=@List.mem_of_find?_eq_some
def vr9:=@Array.toList_reverse
def vs0:=@PySem.wpAny_truthy_bool
def vs1:=@PySem.wpAny_passesOwn
def vs2:=@PyProof.Rows.slot_tuple_getitem
def vs3:=@Array.size_append
def vs4:=@Nat.lt_of_succ_lt
def vs5:=@PySem.call_meetsIn
def vs6:=@PySem.wpAny_standAt
def vs7:=@PySem.sizeLine_eq
def vs8:=@List.replicate_succ
def vs9:=@List.length_reverse
def vt0:=@List.getElem?_cons_zero
def vt1:=@List.reverse_append
def vt2:=@List.filter_cons_of_neg
def vt3:=@List.filter_cons_of_pos
def vt4:=@List.any_eq_true
def vt5:=@PySem.wpAny_isInstance
def vt6:=@PySem.Heap.size_push
def vt7:=@Bool.false_xor
def vt8:=@Array.getElem?_eq_none
def vt9:=@Or.inl
def vv0:=@decide_eq_true_iff
def vv1:=@List.length_zipIdx
def vv2:=@Sum.inr.inj
def vv3:=@List.of_mem_zip
def vv4:=@List.find?_cons
def vv5:=@PySem.F.type_dict_get
def vv6:=@List.forIn_cons
def vv7:=@PySem.codeAny_builtin
def vv8:=@PySem.wpAny_notOrdered_dict
def vv9:=@Nat.min_eq_left
def vw0:=@List.length_zip
def vw1:=@Int.emod_nonneg
def vw2:=@List.drop_sublist
def vw3:=@Array.toList_push
def vw4:=@List.flatMap_cons
def vw5:=@PySem.F.slot_tuple_getitem
def vw6:=@List.perm_ext_iff_of_nodup
def vw7:=@Array.toList_extract
def vw8:=@List.mem_of_mem_drop
def vw9:=@List.reverse_reverse
def vx0:=@Array.getElem?_eq_getElem
def vx1:=@PySem.Calls.call_function_entry
def vx2:=@PySem.isSubtype_type
def vx3:=@List.getElem_inj
def vx4:=@List.lookup_cons
def vx5:=@PyProof.Rows.wpS_mono
def vx6:=@List.mem_flatMap
def vx7:=@beq_eq_false_iff_ne
def vx8:=@List.filterMap_cons
def vx9:=@PySem.F.plain_extend_loop
def vz0:=@List.length_pos_iff
def vz1:=@PySem.F.slot_list_getattribute
def vz2:=@PySem.F.slot_list_extend
def vz3:=@PySem.F.type_list_extend
def vz4:=@PySem.wpAny_Call_Name_kw
def vz5:=@List.any_cons
def vz6:=@PySem.F.args_dict_get_2
def vz7:=@PySem.F.args_dict_get_3
def vz8:=@PySem.wpAny_dictEpoch
def vz9:=@List.zip_cons_cons
def ub0:=@PySem.size_of_entries
def ub1:=@List.find?_eq_none
def ub2:=@List.map_take
def ub3:=@List.filter_append
def ub4:=@PySem.wpAny_pyIter_list
def ub5:=@List.flatten_cons
def ub6:=@List.ext_getElem?
def ub7:=@PySem.F.args_zip_next_1
def ub8:=@Option.some.injEq
def ub9:=@List.getElem_drop
def uc0:=@List.mem_range
def uc1:=@List.take_zero
def uc2:=@PySem.Paired.length
def uc3:=@PySem.plainId_quiet
def uc4:=@List.map_drop
def uc5:=@PyProof.Rows.wpS_modify
def uc6:=@PyProof.Rows.wpS_get
def lqm{α β:Type}{f:α->β}{l:List α}:↑(l.map f)=↑l:=by simp
section
set_option autoImplicit true
set_option relaxedAutoImplicit true
namespace L2
open PySem PySem.Spec PyProof.Rows
variable{prog:Program}{w:World}{A:Around}{E:Vp}{s:Shared}
variable{X:Cx}
abbrev Key:=Sum Int Str
def zv7:Key->Value->Bool
 | .inl k,v=>Value.isInt k v
 | .inr x,v=>Value.isStrOf x v
def keyH(w:World):Key->Int
 | .inl k=>hashInt k
 | .inr x=>hashStr w x
def zd9:∀{k:Key}{v:Value},zv7 k v=true->(∃i t,k=Sum.inl i/\v=Value.int i t)\/(∃x t,k=Sum.inr x/\v=Value.str x t)
 | .inl i,v,h=>by
  obtain⟨t,e⟩:=Value.isInt_shape (k:=i) (v:=v) h;exact .inl ⟨i,t,rfl,e⟩
 | .inr x,v,h=>by
  obtain⟨t,e⟩:=Value.isStrOf_shape (x:=x) (v:=v) h;exact .inr ⟨x,t,rfl,e⟩
def xv8(i:Int)(t:Tok):zv7 (.inl i) (.int i t)=true:=by simp[zv7,Value.isInt]
def xs8(x:Str)(t:Tok):zv7 (.inr x) (.str x t)=true:=by simp[zv7,Value.isStrOf]
def key_ll(a b:Int):decide ((Sum.inl a:Key)=Sum.inl b)=(a == b):=by
 by_cases e:a=b
 .subst e;simp
 .have h:¬(Sum.inl a:Key)=Sum.inl b:=fun q=>e (Sum.inl.inj q);rw[vf4 h];exact(vx7.mpr e).symm
def key_rr(a b:Str):decide ((Sum.inr a:Key)=Sum.inr b)=decide (a=b):=by
 by_cases e:a=b
 .subst e;simp
 .have h:¬(Sum.inr a:Key)=Sum.inr b:=fun q=>e (vv2 q);rw[vf4 h,vf4 e]
def key_lr(a:Int)(b:Str):decide ((Sum.inl a:Key)=Sum.inr b)=false:=vf4 (fun q=>nomatch q)
def key_rl(a:Str)(b:Int):decide ((Sum.inr a:Key)=Sum.inl b)=false:=vf4 (fun q=>nomatch q)
def zc4(prog:Program)(w:World):PySem.KeyKind prog w Key where
 is:=zv7
 hash:=keyH w
 inj:=fun v a b ha hb=>by
  rcases zd9 ha with ⟨i,t,rfl,rfl⟩ | ⟨x,t,rfl,rfl⟩
  .rcases zd9 hb with ⟨j,u,rfl,e⟩ | ⟨y,u,rfl,e⟩
   .injection e with e1 _;rw[e1]
   .exact nomatch e
  .rcases zd9 hb with ⟨j,u,rfl,e⟩ | ⟨y,u,rfl,e⟩
   .exact nomatch e
   .injection e with e1 _;rw[e1]
 byValue:=fun k v h=>by
  rcases zd9 h with ⟨i,t,rfl,rfl⟩ | ⟨x,t,rfl,rfl⟩ <;> rfl
 pyHash:=fun hv h=>by
  rcases zd9 hv with ⟨i,t,rfl,rfl⟩ | ⟨x,t,rfl,rfl⟩
  .exact wpAny_pyHash_int h
  .exact wpAny_pyHash_str h
 eqBool:=fun hu hv h=>by
  rcases zd9 hu with ⟨i,t,rfl,rfl⟩ | ⟨x,t,rfl,rfl⟩
  .rcases zd9 hv with ⟨j,u,rfl,rfl⟩ | ⟨y,u,rfl,rfl⟩
   .rw[key_ll]at h;exact wpAny_eqBool_int h
   .rw[key_lr]at h;exact SeqAt.EqAt.int_str i t y u _ _ _ _ h
  .rcases zd9 hv with ⟨j,u,rfl,rfl⟩ | ⟨y,u,rfl,rfl⟩
   .rw[key_rl]at h;exact SeqAt.EqAt.str_int x t j u _ _ _ _ h
   .rw[key_rr]at h;exact wpAny_eqBool_str h
 «strs»:=fun k x t v h=>by
  rcases zd9 h with ⟨i,u,rfl,e⟩ | ⟨y,u,rfl,e⟩
  .exact nomatch e
  .injection e with e1 _;subst e1;cases v <;> rfl
def yv5(prog:Program)(w:World)(i:Int)(t:Tok):(zc4 prog w).is (.inl i) (.int i t)=true:=xv8 i t
def yt8(prog:Program)(w:World)(x:Str)(t:Tok):(zc4 prog w).is (.inr x) (.str x t)=true:=xs8 x t
inductive V where
 | non | bl (b:Bool) | int (i:Int) | str (x:Str) | byt (b:Array UInt8) | flt (b:UInt64) | ref (a:Addr) | ty (n:String)
 deriving DecidableEq
def RelV:V->Value->Prop
 | .non,u=>u=Value.none
 | .bl b,u=>u=Value.bool b
 | .int i,u=>∃t,u=Value.int i t
 | .str x,u=>∃t,u=Value.str x t
 | .byt b,u=>∃t,u=Value.bytes b t
 | .flt b,u=>∃t,u=Value.float b t
 | .ref a,u=>u=Value.ref a
 | .ty n,u=>u=Value.type n
abbrev Vals:List V->List Value->Prop:=Paired RelV
def Vals.length(r:Vals xs us):↑xs=↑us:=uc2 r
def Vals.get:∀{xs:List V}{us:List Value}{i:Nat}{x:V},Vals xs us->xs[i]?=some x->∃u,us[i]?=some u/\RelV x u
 | _,_,_,_,.nil,e=>by simp at e
 | _,_,0,_,.cons r _,e=>by simp at e;subst e;exact⟨_,rfl,r⟩
 | _,_,i+1,x,.cons _ t,e=>by
  obtain⟨u,h1,h2⟩:=Vals.get (i:=i) (x:=x) t (by simpa using e);exact⟨u,by simpa using h1,h2⟩
def Vals.set(r:RelV x u):∀{xs:List V}{us:List Value}(i:Nat),Vals xs us->Vals (xs.set i x) (us.set i u)
 | _,_,_,.nil=>.nil
 | _,_,0,.cons _ t=>.cons r t
 | _,_,i+1,.cons q t=>.cons q (Vals.set r i t)
def Vals.append:∀{xs ys:List V}{us ws:List Value},Vals xs us->Vals ys ws->Vals (xs++ys) (us++ws)
 | _,_,_,_,.nil,s=>s
 | _,_,_,_,.cons r t,s=>.cons r (Vals.append t s)
def Vals.take:∀{xs:List V}{us:List Value}(n:Nat),Vals xs us->Vals (xs.take n) (us.take n)
 | _,_,0,_=>.nil
 | _,_,_+1,.nil=>.nil
 | _,_,n+1,.cons r t=>.cons r (Vals.take n t)
def Vals.drop:∀{xs:List V}{us:List Value}(n:Nat),Vals xs us->Vals (xs.drop n) (us.drop n)
 | _,_,0,r=>r
 | _,_,_+1,.nil=>.nil
 | _,_,n+1,.cons _ t=>Vals.drop n t
def RelO:Option V->Option Value->Prop
 | some v,some u=>RelV v u
 | none,none=>True
 | _,_=>False
def KV{κ:Type}:List (κ×V)->List (κ×Value)->Prop:=Paired fun(p:κ×V) (q:κ×Value)=>p.1=q.1/\RelV p.2 q.2
def kV:Key->V
 | .inl i=>.int i
 | .inr x=>.str x
inductive HO where
 /-- a list -/
 | lst (xs:List V)
 /-- a tuple (never changes) -/
 | tup (xs:List V)
 /-- a dict whose keys are ints and texts;one whose keys are tuples of ints and texts (the empty one is both) -/
 | dK (kvs:List (Key×V)) | dT (kvs:List (List Key×V))
 /-- a set of ints: its members,its size -/
 | set (S:Int->Bool) (n:Nat)
 /-- an instance of the class at C,its dict at dx,its attributes -/
 | ins (C dx:Addr) (fs:List (Str×V))
 /-- the dict of the instance at x -/
 | own (x:Addr)
 /-- the dict of an exception -/
 | xd (fs:List (Str×V))
 /-- a bound method,f of x -/
 | met (f x:Addr)
 /-- a range object lo,lo+1,.. below hi -/
 | rng (lo hi:Int)
 /-- a thing that is known to the object (the script;a dict while a loop walks it): read,never written while it is so -/
 | frz (o:Obj) (u:HO)
 /-- a code object's table -/
 | tbl (ps:Array Value)
 /-- any other thing,by what is true of its one object (a def of one's own: SetO a S n:=HO.ext fun h=>..) -/
 | ext (φ:Heap->Prop)
abbrev Hp:=Addr->Option HO
def upd(H:Hp)(a:Addr)(o:HO):Hp:=fun b=>if b=a then some o else H b
def zb1:upd H a o a=some o:=by unfold upd;rw[vd3 rfl]
def zb5(h:b≠a):upd H a o b=H b:=by unfold upd;rw[vd0 h]
def zr2:upd (upd H a o) a u=upd H a u:=by
 funext b;unfold upd;split <;> rfl
def wr1{H:Hp}{a b:Addr}{o u:HO}(h:H a=some o)(h':H b=some u)(d:o≠u):a≠b:=by
 intro e;subst e;rw[h]at h';exact d (vf7 h')
def zb4{H:Hp}{a b:Addr}{o:HO}(h:H a=some o)(h':H b=none):a≠b:=by
 intro e;subst e;rw[h]at h';cases h'
def DN(h:Heap)(a:Addr):Prop:=∃o,h.get? a=some o/\o.dict=none
section
variable(P:Program)(w:World)
def ObjOk(H:Hp)(h:Heap)(a:Addr):HO->Prop
 | .lst xs=>↑xs<=sizeLine/\∃(its:List Value)(n:Nat),Vals xs its/\h.get? a=some {cls:=.type "list",data:=.seq its.toArray n}
 | .tup xs=>(↑xs<=sizeLine/\DN h a)/\∃its:List Value,Vals xs its/\IsTup h a its.toArray
 | .dK kvs=>↑kvs<=sizeLine/\(a == sysModules)=false/\∃vs,KV kvs vs/\h.DictOf (zc4 P w) a vs
 | .dT kvs=>↑kvs<=sizeLine/\(a == sysModules)=false/\∃xs:List (List Key×Addr×Value),
   Paired (fun(p:List Key×V) (q:List Key×Addr×Value)=>p.1=q.1/\H q.2.1=some (.tup (p.1.map kV))/\RelV p.2 q.2.2) kvs xs/\
   ∃o es ep,h.get? a=some o/\o.ExactDict/\o.data=.dict es ep/\es.toList=xs.map (entryOfKey (tupleKind (zc4 P w)))/\(xs.map (·.1)).Nodup
 | .set S n=>h.SetOf (intKind P w) a S n
 | .ins C dx fs=>H dx=some (.own a)/\↑fs<=1000/\dx≠a/\h.get? a=some (PySem.W.instObj C dx)/\
   ∃mA,h.Ns1 dx mA/\(∀f,RelO (fs.lookup f) (mA f))/\PySem.Within mA (fs.map (·.1))
 | .own _=>∃o,h.get? a=some o
 | .xd fs=>∃mA,h.Ns1 a mA/\∀f,RelO (fs.lookup f) (mA f)
 | .rng lo hi=>∃t u v,h.get? a=some {cls:=.type "range",data:=.fields #[.int lo t,.int hi u,.int 1 v]}
 | .frz o u=>h.get? a=some o/\ObjOk H h a u
 | .tbl ps=>h.get? a=some {cls:=.none,data:=.fields ps}
 | .met f x=>h.get? a=some (PySem.W.methodObj (.ref f) (.ref x))
 | .ext φ=>φ h/\(∃o,h.get? a=some o)/\∀h1 h2:Heap,φ h1->(∀o,h1.get? a=some o->h2.get? a=some o)->φ h2
def HOk(H:Hp)(h:Heap):Prop:=∀a o,H a=some o->ObjOk P w H h a o
end
section
variable{P:Program}{w:World}{H H':Hp}{h h':Heap}{a:Addr}{o:HO}
def ObjOk.lt(x:ObjOk P w H h a o):a<h.objs.size:=by
 cases o with
 | lst xs=>obtain⟨_,_,_,_,e⟩:=x;exact vb1 e
 | tup xs=>obtain⟨_,_,_,p⟩:=x;exact p.lt
 | dK kvs=>obtain⟨_,_,_,_,o,_,_,e,_⟩:=x;exact vb1 e
 | dT kvs=>obtain⟨_,_,_,_,o,_,_,e,_⟩:=x;exact vb1 e
 | set S n=>obtain⟨o,_,_,_,e,_⟩:=x;exact vb1 e
 | ins C dx fs=>obtain⟨_,_,_,e,_⟩:=x;exact vb1 e
 | own y=>obtain⟨_,e⟩:=x;exact vb1 e
 | xd fs=>obtain⟨_,⟨_,_,_,e,_⟩,_⟩:=x;exact vb1 e
 | rng lo hi=>obtain⟨_,_,_,e⟩:=x;exact vb1 e
 | frz ob u=>obtain⟨e,_⟩:=x;exact vb1 e
 | tbl ps=>exact vb1 (show h.get? a=some _ from x)
 | met f y=>exact vb1 (show h.get? a=some _ from x)
 | ext φ=>obtain⟨_,⟨_,e⟩,_⟩:=x;exact vb1 e
def Paired.mapP{α β:Type}{F G:α->β->Prop}:∀{l₁:List α}{l₂:List β},Paired F l₁ l₂->(∀a b,F a b->G a b)->Paired G l₁ l₂
 | _,_,.nil,_=>.nil
 | _,_,.cons r t,f=>.cons (f _ _ r) (Paired.mapP t f)
def ObjOk.stay(x:ObjOk P w H h a o)(k:∀b u,(b=a\/H b=some (.own a))->h.get? b=some u->h'.get? b=some u)
  (ho:∀b,H b=some (.own a)->H' b=some (.own a)) (ht:∀b xs,H b=some (.tup xs)->H' b=some (.tup xs)):ObjOk P w H' h' a o:=by
 induction o with
 | lst xs=>obtain⟨z,its,n,r,e⟩:=x;exact⟨z,its,n,r,k _ _ (.inl rfl) e⟩
 | tup xs=>obtain⟨⟨z,od,e0,c0⟩,y⟩:=x;obtain⟨its,r,ob,e,c⟩:=y;exact⟨⟨z,od,k _ _ (.inl rfl) e0,c0⟩,its,r,ob,k _ _ (.inl rfl) e,c⟩
 | dK kvs=>obtain⟨z,y,vs,r,ob,es,ep,e,c⟩:=x;exact⟨z,y,vs,r,ob,es,ep,k _ _ (.inl rfl) e,c⟩
 | dT kvs=>
  obtain⟨z,y,xs,r,ob,es,ep,e,c⟩:=x;exact⟨z,y,xs,Paired.mapP r fun p q z=>⟨z.1,ht _ _ z.2.1,z.2.2⟩,ob,es,ep,k _ _ (.inl rfl) e,c⟩
 | set S n=>obtain⟨ob,es,ep,t,e,c⟩:=x;exact⟨ob,es,ep,t,k _ _ (.inl rfl) e,c⟩
 | ins C dx fs=>
  obtain⟨d,z,ne,e,mA,⟨od,es,ep,e2,c⟩,r⟩:=x;exact⟨ho _ d,z,ne,k _ _ (.inl rfl) e,mA,⟨od,es,ep,k _ _ (.inr d) e2,c⟩,r⟩
 | own y=>obtain⟨ob,e⟩:=x;exact⟨ob,k _ _ (.inl rfl) e⟩
 | xd fs=>obtain⟨mA,⟨od,es,ep,e,c⟩,r⟩:=x;exact⟨mA,⟨od,es,ep,k _ _ (.inl rfl) e,c⟩,r⟩
 | rng lo hi=>obtain⟨t,u,v,e⟩:=x;exact⟨t,u,v,k _ _ (.inl rfl) e⟩
 | frz ob u ih=>obtain⟨e,q⟩:=x;exact⟨k _ _ (.inl rfl) e,ih q⟩
 | tbl ps=>
  have e:h.get? a=some {cls:=.none,data:=.fields ps}:=x;show h'.get? a=some {cls:=.none,data:=.fields ps};exact k a _ (.inl rfl) e
 | met f y=>
  have e:h.get? a=some (PySem.W.methodObj (.ref f) (.ref y)):=x;show h'.get? a=some (PySem.W.methodObj (.ref f) (.ref y));exact k a _ (.inl rfl) e
 | ext φ=>obtain⟨p,⟨o,e⟩,st⟩:=x;exact⟨st _ _ p fun o q=>k _ _ (.inl rfl) q,⟨o,k _ _ (.inl rfl) e⟩,st⟩
def HOk.lt(x:HOk P w H h)(e:H a=some o):a<h.objs.size:=(x a o e).lt
def HOk.fresh(x:HOk P w H h)(e:h.objs.size<=a):H a=none:=by
 cases q:H a with
 | none=>rfl
 | some u=>exact absurd (vf3 (x.lt q) e) (vj1 _)
def HOk.kept(x:HOk P w H h)(k:∀b u,h.get? b=some u->h'.get? b=some u):HOk P w H h':=fun a o e=>
 (x a o e).stay (fun b u _ q=>k b u q) (fun _ q=>q) fun _ _ q=>q
def HOk.laid(x:HOk P w H h)(k:∀b u,h.get? b=some u->h'.get? b=some u)(hp:h.objs.size<=a)(new:ObjOk P w (upd H a o) h' a o):HOk P w (upd H a o) h':=fun b u e=>by
 have hn:=x.fresh hp
 by_cases hb:b=a
 .subst hb;rw[zb1]at e;cases e;exact new
 .rw[zb5 hb]at e;exact(x b u e).stay (fun c v _ q=>k c v q) (fun c q=>by rw[zb5 (zb4 q hn)];exact q) fun c xs q=>by rw[zb5 (zb4 q hn)];exact q
end
def Rd(H:Hp)(a:Addr)(u:HO):Prop:=H a=some u\/∃o,H a=some (.frz o u)
def Rd.of(h:H a=some u):Rd H a u:=.inl h
def Rd.ok(r:Rd H a u)(x:HOk P w H h):ObjOk P w H h a u:=by
 rcases r with r | ⟨o,r⟩
 .exact x a u r
 .obtain⟨_,q⟩:=x a _ r;exact q
def Mut:Option HO->Prop
 | some (.lst _)=>True
 | some (.dK _)=>True
 | some (.dT _)=>True
 | some (.set _ _)=>True
 | some (.ins _ _ _)=>True
 | some (.ext _)=>True
 | _=>False
section
variable{P:Program}{w:World}{H:Hp}{h h':Heap}{x e:Addr}{o':HO}
def HOk.write(ok:HOk P w H h)(mu:Mut (H x))(he:e=x\/H e=some (.own x))(k:∀b u,b≠e->h.get? b=some u->h'.get? b=some u)(a3:∃u,h'.get? e=some u)
  (new:ObjOk P w (upd H x o') h' x o'):HOk P w (upd H x o') h':=fun b u q=>by
 have a0:∀c y,H c=some (.own y)->c≠x:=fun c y r z=>by subst z;rw[r]at mu;exact mu
 have a2:∀c xs,H c=some (.tup xs)->c≠x:=fun c xs r z=>by subst z;rw[r]at mu;exact mu
 by_cases hb:b=x
 .subst hb;rw[zb1]at q;cases q;exact new
 .rw[zb5 hb]at q
  by_cases a1:b=e
  .have q':H b=some (.own x):=by
    rcases he with z | z
    .exact absurd (a1.trans z) hb
    .rw[a1];exact z
   rw[q]at q';cases q';obtain⟨v,hv⟩:=a3;exact⟨v,by rw[a1];exact hv⟩
  .refine(ok b u q).stay (fun c v hc r=>k c v ?_ r) (fun c r=>by rw[zb5 (a0 c b r)];exact r) fun c xs r=>by rw[zb5 (a2 c xs r)];exact r
   rcases hc with rfl | hc
   .exact a1
   .rintro rfl;rcases he with z | z
    .exact a0 c b hc z
    .rw[hc]at z;cases z;exact hb rfl
end
structure Un(fs ex:List Addr)(H H':Hp)(h h':Heap):Prop where
 keep:∀b o,h.get? b=some o->H b=none->b∉fs->b∉ex->h'.get? b=some o
 slot:∀b o,h.get? b=some o->H b=none->b∈fs->b∉ex->∃sl,h'.get? b=some {o with slots:=sl}
 free:∀b o,h.get? b=some o->H b=none->b∉ex->H' b=none
 there:∀b o,h.get? b=some o->b∉ex->∃o',h'.get? b=some o'
 tups:∀b xs,H b=some (.tup xs)->H' b=some (.tup xs)
 frzs:∀b o u,H b=some (.frz o u)->H' b=some (.frz o u)
 tbls:∀b ps,H b=some (.tbl ps)->∃more,H' b=some (.tbl (ps++more))
section
variable{fs fs' ex ex':List Addr}{H H1 H2:Hp}{h h1 h2 h':Heap}{a x e:Addr}{o:HO}
def Un.any(u:Un fs ex H H1 h h1)(q:h.get? b=some ob)(n:H b=none)(hx:b∉ex):∃sl,h1.get? b=some {ob with slots:=sl}:=by
 by_cases hb:b∈fs
 .exact u.slot b ob q n hb hx
 .exact⟨ob.slots,u.keep b ob q n hb hx⟩
def Un.kept(k:∀b u,h.get? b=some u->h'.get? b=some u):Un fs ex H H h h':=
 ⟨fun b ob q _ _ _=>k b ob q,fun b ob q _ _ _=>⟨ob.slots,k b ob q⟩,fun _ _ _ n _=>n,fun b ob q _=>⟨ob,k b ob q⟩,fun _ _ q=>q,fun _ _ _ q=>q,fun _ ps q=>⟨#[],by rw[q];simp⟩⟩
def Un.refl:Un fs ex H H h h:=Un.kept fun _ _ q=>q
def Un.laid(k:∀b u,h.get? b=some u->h'.get? b=some u)(hp:h.objs.size<=a)(hn:H a=none):Un fs ex H (upd H a o) h h' where
 keep:=fun b u q _ _ _=>k b u q
 slot:=fun b u q _ _ _=>⟨u.slots,k b u q⟩
 free:=fun b u q n _=>by rw[zb5 (vb7 (vf3 (vb1 q) hp))];exact n
 there:=fun b u q _=>⟨u,k b u q⟩
 tups:=fun b xs q=>by rw[zb5 (zb4 q hn)];exact q
 frzs:=fun b u xs q=>by rw[zb5 (zb4 q hn)];exact q
 tbls:=fun b ps q=>⟨#[],by rw[zb5 (zb4 q hn),q];simp⟩
def Un.write(mu:Mut (H x))(he:e=x\/H e=some (.own x))(k:∀b u,b≠e->h.get? b=some u->h'.get? b=some u)(a1:∃u,h'.get? e=some u):Un fs ex H (upd H x o) h h':=by
 have hx:∀b,H b=none->b≠x:=fun b n z=>by subst z;rw[n]at mu;exact mu
 have hb:∀b,H b=none->b≠e:=fun b n z=>by
  subst z;rcases he with r | r
  .exact hx b n r
  .rw[n]at r;cases r
 have hm:∀b u,H b=some u->¬Mut (some u)->b≠x:=fun b u q nm z=>by subst z;rw[q]at mu;exact nm mu
 refine⟨fun b u q n _ _=>k b u (hb b n) q,fun b u q n _ _=>⟨u.slots,k b u (hb b n) q⟩,fun b u q n _=>by rw[zb5 (hx b n)];exact n,fun b u q _=>?_,
  fun b xs q=>by rw[zb5 (hm b _ q fun z=>z)];exact q,fun b u xs q=>by rw[zb5 (hm b _ q fun z=>z)];exact q,fun b ps q=>⟨#[],by rw[zb5 (hm b _ q fun z=>z),q];simp⟩⟩
 by_cases a0:b=e
 .subst a0;exact a1
 .exact⟨u,k b u a0 q⟩
end
def trk(h:Heap)(H:Hp):List Addr:=(List.range h.objs.size).filter fun a=>(H a).isSome
def hidT(h:Heap)(H:Hp):Heap:=PySem.W.hideAll h (trk h H)
def xv4(h:Heap)(H:Hp):(hidT h H).objs.size=h.objs.size:=PySem.W.hideAll_size _ _
def wb9(e:h.get? b=some o)(n:H b=none):(hidT h H).get? b=some o:=
 PySem.W.hideAll_get _ e fun hm=>by
  have q:(H b).isSome=true:=(vq6.mp hm).2;rw[n]at q;simp at q
def wq9(e:(hidT h H).get? b=some o):h.get? b=some o/\H b=none:=by
 have e':h.get? b=some o:=PySem.W.of_hideAll (trk h H) e;exists e';cases q:H b with
 | none=>rfl
 | some x=>
  have hm:b∈trk h H:=vq6.mpr ⟨uc0.mpr (vb1 e'),by simp[q]⟩;have z:(hidT h H).get? b=none:=PySem.W.hideAll_none (trk h H) hm;rw[z]at e;cases e
def wn2(g h:Heap)(L:Addr):List (Addr×Obj):=(List.range h.objs.size).filterMap fun a=>if a=L\/(g.get? a).isSome=true then none else(h.get? a).map fun o=>(a,o)
def rest(g h:Heap)(L d:Addr):List (Addr×Obj):=(wn2 g h L).filter fun p=>decide (p.1≠d)
structure Mod(K:Fg)(mg:Str->Option Value)(base:Heap):Prop where
 kin:K.In base
 glob:base.Ns mainGlobals mg
 blt:∃mb,base.Ns builtinsNs mb/\∀x:Str,x≠"__name__"->mb x=bootBuiltins x
 nolimit:base.NoLimit
structure Cx where
 prog:Program
 w:World
 K:Fg
 mg:Str->Option Value
 base:Heap
 A:Around
 N:List Str
 s₀:Shared
 H₀:Hp
 env:Env
 outer:List Env
 stack:List Env
 ex:List Addr
 fn:Str->Bool
 calm:Bool
 pn:List (Addr×Obj)
 xe:Value->Shared->Prop
def frs(l:List Env):List Addr:=l.filterMap (·.frame)
abbrev Cx.fs(X:Cx):List Addr:=frs X.outer
def Vis(sc:Scope)(x:Str):Prop:=sc.names.lookup x=some .local\/sc.names.lookup x=some .cell\/sc.names.lookup x=some .free
def Loc(sc:Scope)(x:Str):Prop:=sc.names.lookup x=some .local\/sc.names.lookup x=some .cell
def Look(env:Env)(h:Heap)(m:Str->Option Value)(x:Str)(u:Value):Prop:=
 (env.kindOf x=some .local/\m x=some u)\/((env.kindOf x=some .cell\/env.kindOf x=some .free)/\∃c,env.cells.lookup x=some c/\h.IsCell c (some u))
structure Cx.Ok(X:Cx):Prop where
 mod:Mod X.K X.mg X.base
 kind:X.env.scope.kind=.function
 glob:X.env.globals=mainGlobals
 blt:X.env.builtins=builtinsNs
 above:X.s₀⁻¹<=X.env.locals
 inj:∀x y c,X.env.cells.lookup x=some c->X.env.cells.lookup y=some c->x=y
 has:∀x,(X.env.kindOf x=some .cell\/X.env.kindOf x=some .free)->∃c,X.env.cells.lookup x=some c
 cab:∀x c,X.fn x=true->X.env.cells.lookup x=some c->X.s₀⁻¹<=c
 hd:X.calm=true->X.A.handled=none
 frames:X.A.frames=some X.stack
 stk:X.stack=X.outer\/(X.stack=X.env::X.outer/\X.env.frame=some X.env.locals)
 exf:∀b∈X.ex,b≠X.env.locals/\∀x c,X.env.cells.lookup x=some c->c≠b
 bs:∀b o,X.base.get? b=some o->X.s₀.heap.get? b=some o/\X.H₀ b=none
 bsz:X.base.objs.size<=X.s₀⁻¹
 noex:∀b o,X.base.get? b=some o->b∉X.ex
 exfs:∀b∈X.ex,b∉X.fs
 funs:X.s₀.heap.FunFrames X.base X.outer
 frf:∀b∈X.fs,X.H₀ b=none
structure Inv(X:Cx)(pins:List (Addr×Obj))(σ:List (Option V))(H:Hp)(s:Shared):Prop where
 ok:X.Ok
 os:s.os=X.s₀.os
 bare:AllBare s.gens
 base:Un X.fs X.ex X.H₀ H X.s₀.heap s.heap
 loc:∃m,s.heap.Ns X.env.locals m/\∀(i:Nat)(x:Str)(v:V),X.N[i]?=some x->σ[i]?=some (some v)->Vis X.env.scope x->∃u,RelV v u/\Look X.env s.heap m x u
 cell:∀x c,X.env.cells.lookup x=some c->∃v,s.heap.IsCell c v
 free:H X.env.locals=none
 freeC:∀x c,X.env.cells.lookup x=some c->H c=none
 pin:∀p∈X.pn++pins,s.heap.get? p.1=some p.2/\H p.1=none/\p.1≠X.env.locals/\p.1∉X.fs/\∀v,p.2.data≠.cell v
 hok:HOk X.prog X.w H s.heap
 len:↑σ=X.N.length
section
variable{pins:List (Addr×Obj)}{σ:List (Option V)}{H H':Hp}{s:Shared}{h':Heap}
def Cx.Ok.nofr(ok:X.Ok)(e:X.base.get? b=some o):b∉X.fs:=fun hb=>by
 have:=(ok.funs.mem hb).1;rw[e]at this;cases this
def Inv.bs(I:Inv X pins σ H s):∀b o,X.base.get? b=some o->s.heap.get? b=some o/\H b=none:=fun b o e=>
 ⟨I.base.keep b o (I.ok.bs b o e).1 (I.ok.bs b o e).2 (I.ok.nofr e) (I.ok.noex b o e),I.base.free b o (I.ok.bs b o e).1 (I.ok.bs b o e).2 (I.ok.noex b o e)⟩
def Inv.bk(I:Inv X pins σ H s):∀b o,X.base.get? b=some o->s.heap.get? b=some o:=fun b o e=>(I.bs b o e).1
def Inv.mod(I:Inv X pins σ H s):Mod X.K X.mg X.base:=I.ok.mod
def Inv.kIn(I:Inv X pins σ H s):X.K.In s.heap:=I.ok.mod.kin.keeps I.bk
def Inv.lt(I:Inv X pins σ H s):X.env.locals<s⁻¹:=let ⟨_,hn,_⟩:=I.loc;hn.lt
def Inv.sz(I:Inv X pins σ H s):X.s₀⁻¹<=s⁻¹:=vh1 I.ok.above (vb5 I.lt)
def Inv.nofs(I:Inv X pins σ H s)(h:s⁻¹<=a):a∉X.fs:=fun hb=>by
 obtain⟨_,o,ho,_⟩:=I.ok.funs.mem hb;exact absurd (vf3 (vb1 ho) (vh1 I.sz h)) (vj1 _)
def Inv.cne(I:Inv X pins σ H s):∀x c,X.env.cells.lookup x=some c->c≠X.env.locals:=fun x c e z=>by
 obtain⟨v,o,ho,hd⟩:=I.cell x c e;obtain⟨m,⟨o',es,ep,a1,a0,_⟩,_⟩:=I.loc;rw[z,a1]at ho;cases ho;rw[a0]at hd;cases hd
def Inv.funs(I:Inv X pins σ H s):s.heap.FunFrames X.base X.outer:=by
 have all:∀(l:List Env),(∀b∈frs l,b∈X.fs)->X.s₀.heap.FunFrames X.base l->s.heap.FunFrames X.base l:=by
  intro l
  induction l with
  | nil=>intro _ _;trivial
  | cons env r ih=>
   intro hs hl;obtain⟨hk,⟨L,o,hf,hn,ho,hd⟩,hr⟩:=hl;have hL:L∈X.fs:=hs L (by unfold frs;rw[vx8,hf];exact vp1);obtain⟨sl,e⟩:=I.base.slot L o ho (I.ok.frf L hL) hL fun z=>I.ok.exfs L z hL;exact⟨hk,⟨L,_,hf,hn,e,hd⟩,ih (fun b hb=>hs b (by unfold frs;rw[vx8,hf];exact vf6 _ hb)) hr⟩
 exact all X.outer (fun _ hb=>hb) I.ok.funs
def Inv.stack(I:Inv X pins σ H s):s.heap.FunFrames X.base X.stack:=by
 rcases I.ok.stk with e | ⟨e,hf⟩
 .rw[e];exact I.funs
 .rw[e];obtain⟨m,hn,_⟩:=I.loc;refine .cons (by rw[I.ok.kind];decide) hf hn ?_ I.funs;exact Heap.get?_none_of_le (vh1 I.ok.bsz I.ok.above)
def Inv.stkSub(I:Inv X pins σ H s):∀b∈frs X.stack,b∈X.env.locals::X.fs:=fun b hb=>by
 rcases I.ok.stk with e | ⟨e,hf⟩
 .rw[e]at hb;exact vf6 _ hb
 .rw[e]at hb;unfold frs at hb;rw[vx8,hf]at hb;exact hb
def Inv.stkFree(I:Inv X pins σ H s):∀b∈frs X.stack,H b=none:=fun b hb=>by
 rcases vb4.mp (I.stkSub b hb)with e | hb
 .rw[e];exact I.free
 .obtain⟨_,o,ho,_⟩:=I.ok.funs.mem hb;exact I.base.free b o ho (I.ok.frf b hb) fun z=>I.ok.exfs b z hb
def Inv.step{g':Array GenState}{t':Nat}{d':Drawn}{ch:List Addr}(I:Inv X pins σ H s)
  (a1:∀b∈ch,(b∈X.ex\/X.s₀⁻¹<=b)/\b≠X.env.locals/\(∀x c,X.env.cells.lookup x=some c->c≠b)/\∀p∈X.pn++pins,p.1≠b)
  (keep:∀b o,b≠X.env.locals->b∉X.fs->b∉ch->s.heap.get? b=some o->H b=none->h'.get? b=some o)
  (slot:∀b o,b≠X.env.locals->b∈X.fs->b∉ch->s.heap.get? b=some o->H b=none->∃sl,h'.get? b=some {o with slots:=sl}) (free:∀b o,b∉ch->s.heap.get? b=some o->H b=none->H' b=none)
  (there:∀b o,b∉ch->s.heap.get? b=some o->∃o',h'.get? b=some o')
  (tups:∀b xs,H b=some (.tup xs)->H' b=some (.tup xs)) (frzs:∀b o u,H b=some (.frz o u)->H' b=some (.frz o u)) (tbls:∀b ps,H b=some (.tbl ps)->∃more,H' b=some (.tbl (ps++more)))
  (ns:∀m,s.heap.Ns X.env.locals m->h'.Ns X.env.locals m) (hok:HOk X.prog X.w H' h') (hg:AllBare g'):
  Inv X pins σ H' {s with heap:=h',gens:=g',drawn:=d',toks:=t'}:=by
 have a4:∀b o,X.s₀.heap.get? b=some o->b≠X.env.locals:=fun b o e=>vb7 (vf3 (vb1 e) I.ok.above);have a3:∀b o,X.s₀.heap.get? b=some o->b∉X.ex->b∉ch:=fun b o e hx hb=>by
  rcases(a1 b hb).1 with z | z
  .exact hx z
  .exact absurd (vf3 (vb1 e) z) (vj1 _)
 have a0:∀x c,X.env.cells.lookup x=some c->∀v,s.heap.IsCell c v->h'.IsCell c v:=fun x c e v ⟨o,ho,hd⟩=>by
  have a2:c∉ch:=fun z=>(a1 c z).2.2.1 x c e rfl
  by_cases hc:c∈X.fs
  .obtain⟨sl,q⟩:=slot c o (I.cne x c e) hc a2 ho (I.freeC x c e);exact⟨_,q,hd⟩
  .exact⟨o,keep c o (I.cne x c e) hc a2 ho (I.freeC x c e),hd⟩
 refine⟨I.ok,I.os,hg,⟨fun b o e n hb hx=>?_,fun b o e n hb hx=>?_,fun b o e n hx=>?_,fun b o e hx=>?_,fun b xs e=>tups b xs (I.base.tups b xs e),fun b o xs e=>frzs b o xs (I.base.frzs b o xs e),fun b ps e=>?_⟩,?_,fun x c e=>?_,?_,fun x c e=>?_,fun p hp=>?_,hok,I.len⟩
 .exact keep b o (a4 b o e) hb (a3 b o e hx) (I.base.keep b o e n hb hx) (I.base.free b o e n hx)
 .obtain⟨sl,e1⟩:=I.base.slot b o e n hb hx;obtain⟨a5,e2⟩:=slot b _ (a4 b o e) hb (a3 b o e hx) e1 (I.base.free b o e n hx);exact⟨a5,e2⟩
 .obtain⟨o',e1⟩:=I.base.there b o e hx;exact free b o' (a3 b o e hx) e1 (I.base.free b o e n hx)
 .obtain⟨o',e1⟩:=I.base.there b o e hx;exact there b o' (a3 b o e hx) e1
 .obtain⟨m1,e1⟩:=I.base.tbls b ps e;obtain⟨m2,e2⟩:=tbls b _ e1;exact⟨m1++m2,by rw[e2,Array.append_assoc]⟩
 .obtain⟨m,hn,hl⟩:=I.loc;refine⟨m,ns m hn,fun i x v e1 e2 e3=>?_⟩;obtain⟨u,r,l⟩:=hl i x v e1 e2 e3;exists u,r;rcases l with l | ⟨k,c,e,z⟩
  .exact .inl l
  .exact .inr ⟨k,c,e,a0 x c e _ z⟩
 .obtain⟨v,z⟩:=I.cell x c e;exact⟨v,a0 x c e v z⟩
 .obtain⟨m,⟨o,_,_,ho,_⟩,_⟩:=I.loc;exact free _ o (fun z=>(a1 _ z).2.1 rfl) ho I.free
 .obtain⟨v,o,ho,hd⟩:=I.cell x c e;exact free c o (fun z=>(a1 c z).2.2.1 x c e rfl) ho (I.freeC x c e)
 .obtain⟨e,n,ne,nf,d⟩:=I.pin p hp;have a2:p.1∉ch:=fun z=>(a1 p.1 z).2.2.2 p hp rfl;exact⟨keep p.1 p.2 ne nf a2 e n,free p.1 p.2 a2 e n,ne,nf,d⟩
def Inv.un{t':Nat}(I:Inv X pins σ H s)(u:Un X.fs [] H H' s.heap h')(hok:HOk X.prog X.w H' h'):Inv X pins σ H' {s with heap:=h',toks:=t'}:=by
 obtain⟨m,⟨o,es,ep,ho,r⟩,_⟩:=id I.loc;obtain⟨sl,hL⟩:=u.any ho I.free (by simp);exact I.step (g':=s.gens) (d':=s.drawn) (ch:=[]) (fun _ z=>nomatch z) (fun b o _ hb _ e n=>u.keep b o e n hb (by simp)) (fun b o _ hb _ e n=>u.slot b o e n hb (by simp)) (fun b o _ e n=>u.free b o e n (by simp)) (fun b o _ e=>u.there b o e (by simp)) u.tups u.frzs u.tbls (fun m' hm=>by
  obtain⟨o',a2,a1,a0,r'⟩:=hm;rw[ho]at a0;cases a0;exact⟨_,a2,a1,hL,r'⟩) hok I.bare
def Inv.call{g':Array GenState}{t':Nat}{d':Drawn}{ch:List Addr}(I:Inv X pins σ H s)(u:Un (frs X.stack) ch H H' s.heap h')(hok:HOk X.prog X.w H' h')(hg:AllBare g')
  (a1:∀b∈ch,(b∈X.ex\/X.s₀⁻¹<=b)/\b≠X.env.locals/\(∀x c,X.env.cells.lookup x=some c->c≠b)/\∀p∈X.pn++pins,p.1≠b):
  Inv X pins σ H' {s with heap:=h',gens:=g',drawn:=d',toks:=t'}:=by
 obtain⟨m,⟨o,es,ep,ho,r⟩,_⟩:=id I.loc;obtain⟨sl,hL⟩:=u.any ho I.free fun z=>(a1 _ z).2.1 rfl;exact I.step (ch:=ch) a1 (fun b o hL hb hc e n=>u.keep b o e n (fun z=>(vb4.mp (I.stkSub b z)).elim hL hb) hc) (fun b o _ _ hc e n=>u.any e n hc) (fun b o hc e n=>u.free b o e n hc) (fun b o hc e=>u.there b o e hc) u.tups u.frzs u.tbls (fun m' hm=>by
  obtain⟨o',a3,a2,a0,r'⟩:=hm;rw[ho]at a0;cases a0;exact⟨_,a3,a2,hL,r'⟩) hok hg
def Inv.turned{t':Nat}{it:Addr}(I:Inv X pins σ H s)(k:∀b o,b≠it->s.heap.get? b=some o->h'.get? b=some o)(hn:H it=none)(hL:it≠X.env.locals)
  (h1:it∈X.ex\/X.s₀⁻¹<=it) (h2:∀x c,X.env.cells.lookup x=some c->c≠it) (h3:∀p∈X.pn++pins,p.1≠it):Inv X pins σ H {s with heap:=h',toks:=t'}:=by
 have a0:∀b u,H b=some u->b≠it:=fun b u e z=>by rw[z,hn]at e;cases e
 refine I.step (g':=s.gens) (d':=s.drawn) (ch:=[it]) (fun b hb=>?_) (fun b o _ _ hc e _=>k b o (fun z=>hc (by simp[z])) e) (fun b o _ _ hc e _=>⟨o.slots,k b o (fun z=>hc (by simp[z])) e⟩) (fun _ _ _ _ n=>n)
  (fun b o hc e=>⟨o,k b o (fun z=>hc (by simp[z])) e⟩) (fun _ _ e=>e) (fun _ _ _ e=>e) (fun b ps e=>⟨#[],by rw[e];simp⟩) (fun m hm=>?_) (fun b u e=>?_) I.bare
 .have e:b=it:=by simpa using hb
  subst e;exact⟨h1,hL,h2,h3⟩
 .obtain⟨o,es,ep,ho,r⟩:=hm;exact⟨o,es,ep,k _ o (vj3 hL) ho,r⟩
 .refine(I.hok b u e).stay (fun c v hc q=>k c v ?_ q) (fun _ q=>q) fun _ _ q=>q;rcases hc with z | z
  .rw[z];exact a0 b u e
  .exact a0 c _ z
def Inv.tok(I:Inv X pins σ H s)(t:Nat):Inv X pins σ H {s with toks:=t}:=I.un (h':=s.heap) (t':=t) Un.refl I.hok
def Inv.kept(I:Inv X pins σ H s)(k:∀b u,s.heap.get? b=some u->h'.get? b=some u):Inv X pins σ H {s with heap:=h',toks:=t'}:=I.un (Un.kept k) (I.hok.kept k)
def Inv.laid(I:Inv X pins σ H s)(k:∀b u,s.heap.get? b=some u->h'.get? b=some u)(hp:s⁻¹<=a)(new:ObjOk X.prog X.w (upd H a o) h' a o):
  Inv X pins σ (upd H a o) {s with heap:=h',toks:=t'}:=I.un (Un.laid k hp (I.hok.fresh hp)) (I.hok.laid k hp new)
def Inv.write(I:Inv X pins σ H s)(mu:Mut (H x))(he:e=x\/H e=some (.own x))(k:∀b u,b≠e->s.heap.get? b=some u->h'.get? b=some u)(a0:∃u,h'.get? e=some u)(new:ObjOk X.prog X.w (upd H x o) h' x o):Inv X pins σ (upd H x o) {s with heap:=h',toks:=t'}:=I.un (Un.write mu he k a0) (I.hok.write mu he k a0 new)
def Inv.pins_of(I:Inv X pins σ H s)(h:∀p∈pins',s.heap.get? p.1=some p.2/\H p.1=none/\p.1≠X.env.locals/\p.1∉X.fs/\∀v,p.2.data≠.cell v):Inv X pins' σ H s:=
 ⟨I.ok,I.os,I.bare,I.base,I.loc,I.cell,I.free,I.freeC,fun p hp=>(vc4.mp hp).elim (fun z=>I.pin p (vp6 _ z)) (h p),I.hok,I.len⟩
def xc8{N:List Str}(hN:N.Nodup){i j:Nat}{x:Str}(a:N[i]?=some x)(b:N[j]?=some x):i=j:=by
 obtain⟨h1,e1⟩:=wz2.mp a;obtain⟨h2,e2⟩:=wz2.mp b;exact(vx3 hN).mp (e1.trans e2.symm)
def yd1{M:Model}{A:Around}{E:Vp}{i:Nat}{x:Str}{v:V}{u:Value}{Q:Unit->Shared->Prop}(I:Inv X pins σ H s)(hN:X.N.Nodup)(hi:X.N[i]?=some x)(hx:Loc X.env.scope x)(r:RelV v u)
  (h:∀s',Inv X pins (σ.set i (some v)) H s'->(∃a,Heap.SameBut a s.heap s'.heap/\(a=X.env.locals\/X.env.cells.lookup x=some a))->Q () s') (hf:X.fn x=true\/X.env.scope.names.lookup x=some .local:=by first | exact .inl rfl | exact .inr rfl | assumption):wpAny M A (storeName X.env x u) Q E s:=by
 obtain⟨m,hn,hl⟩:=id I.loc;have a4:(X.env.scope.kind == .class || (X.env.scope.kind == .module && X.env.locals != X.env.globals))=false:=by rw[I.ok.kind];rfl
 have a5:i<↑σ:=by rw[I.len];exact(wz2.mp hi).1
 have cne:=I.cne;have a0:∀{a:Addr}{h':Heap},(∃o,s.heap.get? a=some o/\H a=none)->Heap.SameBut a s.heap h'->HOk X.prog X.w H h':=fun {a h'} ha hs b ob e=>by
  obtain⟨_,_,a1⟩:=ha;refine(I.hok b ob e).stay (fun c w' hc q=>(hs.2 c ?_).trans q) (fun _ q=>q) fun _ _ q=>q;rintro rfl;rcases hc with rfl | hc
  .rw[a1]at e;cases e
  .rw[a1]at hc;cases hc
 rcases hx with hk | hk
 .refine wpAny_storeName_local hk hn (fun h' aa hs=>?_) a4;obtain⟨oL,_,_,a9,_⟩:=id hn;refine h _ ⟨I.ok,I.os,I.bare,⟨fun b o e n hb hx=>?_,fun b o e n hb hx=>?_,I.base.free,fun b o e hx=>?_,I.base.tups,I.base.frzs,I.base.tbls⟩,⟨_,aa,fun j y v' e1 e2 e3=>?_⟩,fun y c e=>?_,I.free,I.freeC,fun p hp=>?_,a0 ⟨oL,a9,I.free⟩ hs,by simpa using I.len⟩ ⟨_,hs,.inl rfl⟩
  .exact(hs.2 b (vb7 (vf3 (vb1 e) I.ok.above))).trans (I.base.keep b o e n hb hx)
  .obtain⟨sl,e1⟩:=I.base.slot b o e n hb hx;exact⟨sl,(hs.2 b (vb7 (vf3 (vb1 e) I.ok.above))).trans e1⟩
  .obtain⟨o',e1⟩:=I.base.there b o e hx;exact⟨o',(hs.2 b (vb7 (vf3 (vb1 e) I.ok.above))).trans e1⟩
  .by_cases hj:j=i
   .subst hj;rw[hi]at e1;cases e1;rw[List.getElem?_set_self a5]at e2;cases e2;exact⟨u,r,.inl ⟨hk,by simp⟩⟩
   .rw[List.getElem?_set_ne (vj3 hj)]at e2;obtain⟨u',r',q⟩:=hl j y v' e1 e2 e3;exists u',r';rcases q with ⟨k,e⟩ | ⟨k,c,e,z⟩
    .refine .inl ⟨k,?_⟩;have:y≠x:=fun e=>hj (xc8 hN e1 (e▸hi));simp[this,e]
    .exact .inr ⟨k,c,e,z.sameBut hs (cne y c e)⟩
  .obtain⟨w',z⟩:=I.cell y c e;exact⟨w',z.sameBut hs (cne y c e)⟩
  .obtain⟨e,n,ne,nf,d⟩:=I.pin p hp;exact⟨(hs.2 p.1 ne).trans e,n,ne,nf,d⟩
 .have a3:X.fn x=true:=by
   rcases hf with z | z
   .exact z
   .rw[z]at hk;cases hk
  obtain⟨c,hc⟩:=I.ok.has x (.inl hk);obtain⟨w',z⟩:=I.cell x c hc;refine wpAny_storeName_cell I.ok.kind hk hc z (fun h' a6 hs=>?_);obtain⟨oc,a8,a2⟩:=id z;refine h {s with heap:=h'} ⟨I.ok,I.os,I.bare,⟨fun b o e n hb hx=>?_,fun b o e n hb hx=>?_,I.base.free,fun b o e hx=>?_,I.base.tups,I.base.frzs,I.base.tbls⟩,⟨m,hn.sameBut hs (vj3 (cne x c hc)),fun j y v' e1 e2 e3=>?_⟩,fun y c' e=>?_,I.free,I.freeC,fun p hp=>?_,a0 ⟨oc,a8,I.freeC x c hc⟩ hs,by simpa using I.len⟩ ⟨c,hs,.inr hc⟩
  .exact(hs.2 b (vb7 (vf3 (vb1 e) (I.ok.cab x c a3 hc)))).trans (I.base.keep b o e n hb hx)
  .obtain⟨sl,e1⟩:=I.base.slot b o e n hb hx;exact⟨sl,(hs.2 b (vb7 (vf3 (vb1 e) (I.ok.cab x c a3 hc)))).trans e1⟩
  .obtain⟨o',e1⟩:=I.base.there b o e hx;exact⟨o',(hs.2 b (vb7 (vf3 (vb1 e) (I.ok.cab x c a3 hc)))).trans e1⟩
  .by_cases hj:j=i
   .subst hj;rw[hi]at e1;cases e1;rw[List.getElem?_set_self a5]at e2;cases e2;exact⟨u,r,.inr ⟨.inl hk,c,hc,a6⟩⟩
   .rw[List.getElem?_set_ne (vj3 hj)]at e2;obtain⟨u',r',q⟩:=hl j y v' e1 e2 e3;exists u',r';rcases q with q | ⟨k,c',e,z'⟩
    .exact .inl q
    .refine .inr ⟨k,c',e,z'.sameBut hs ?_⟩;rintro rfl;exact hj (xc8 hN e1 (I.ok.inj _ _ _ e hc▸hi))
  .by_cases a7:c'=c
   .subst a7;exact⟨_,a6⟩
   .obtain⟨w2,z2⟩:=I.cell y c' e;exact⟨w2,z2.sameBut hs a7⟩
  .obtain⟨e,n,ne,nf,d⟩:=I.pin p hp;refine⟨(hs.2 p.1 ?_).trans e,n,ne,nf,d⟩;intro q;rw[q,a8]at e;have q':oc=p.2:=vf7 e;exact d w' (by rw[<-q'];exact a2)
def zz4(I:Inv X pins σ H s)(hN:X.N.Nodup)(hi:X.N[i]?=some x)(hx:Loc X.env.scope x)(r:RelV v u)(h:∀s',Inv X pins (σ.set i (some v)) H s'->Q () s')(hf:X.fn x=true\/X.env.scope.names.lookup x=some .local:=by first | exact .inl rfl | exact .inr rfl | assumption):wpAny M A (storeName X.env x u) Q E s:=
 yd1 I hN hi hx r (fun s' I' _=>h s' I') hf
end
abbrev XK:=Value->Option Addr->Hp->Prop
abbrev St:=List (Option V)
abbrev VK:=V->Hp->Prop
abbrev TE:=St->Hp->VK->Prop
abbrev TT:=St->Hp->(Bool->Hp->Prop)->Prop
abbrev TA:=St->Hp->(List V->Hp->Prop)->Prop
structure Ends where
 nx:St->Hp->Prop
 rt:VK
 bk:St->Hp->Prop:=fun _ _=>False
 ct:St->Hp->Prop:=fun _ _=>False
abbrev TS:=Ends->St->Hp->Prop
def EP(X:Cx)(pins:List (Addr×Obj))(σ:St)(Q:VK)(u:Value)(s':Shared):Prop:=∃v H',Inv X pins σ H' s'/\RelV v u/\Q v H'
def TP(X:Cx)(pins:List (Addr×Obj))(σ:St)(Q:Bool->Hp->Prop)(b:Bool)(s':Shared):Prop:=∃H',Inv X pins σ H' s'/\Q b H'
def AP(X:Cx)(pins:List (Addr×Obj))(σ:St)(Q:List V->Hp->Prop)(us:List Value)(s':Shared):Prop:=∃vs H',Inv X pins σ H' s'/\Vals vs us/\Q vs H'
def SP(X:Cx)(pins:List (Addr×Obj))(D:Ends)(f:Flow)(s':Shared):Prop:=
 match f with
 | .next=>∃σ' H',Inv X pins σ' H' s'/\D.nx σ' H'
 | .brk=>∃σ' H',Inv X pins σ' H' s'/\D.bk σ' H'
 | .cont=>∃σ' H',Inv X pins σ' H' s'/\D.ct σ' H'
 | .ret u=>∃v σ' H',Inv X pins σ' H' s'/\RelV v u/\D.rt v H'
def PE(X:Cx)(e:Expr)(t:TE):Prop:=
 ∀(pins:List (Addr×Obj))(s:Shared)(σ:St)(H:Hp)(Q:VK),Inv X pins σ H s->t σ H Q->wpAny (model X.prog X.w) X.A (eval e X.env) (EP X pins σ Q) X.xe s
def PT(X:Cx)(e:Expr)(t:TT):Prop:=
 ∀(pins:List (Addr×Obj))(s:Shared)(σ:St)(H:Hp)(Q:Bool->Hp->Prop),Inv X pins σ H s->t σ H Q->wpAny (model X.prog X.w) X.A (isTrue e X.env (eval e X.env)) (TP X pins σ Q) X.xe s
def PW(X:Cx)(e:Expr)(t:TT):Prop:=
 ∀(whole:Sem Value)(pins:List (Addr×Obj))(s:Shared)(σ:St)(H:Hp)(Q:Bool->Hp->Prop),Inv X pins σ H s->t σ H Q->wpAny (model X.prog X.w) X.A (isTrue e X.env whole) (TP X pins σ Q) X.xe s
def PW.pt(h:PW X e t):PT X e t:=h _
def PA(X:Cx)(es:List Expr)(t:TA):Prop:=
 ∀(pos:Pos)(pins:List (Addr×Obj))(s:Shared)(σ:St)(H:Hp)(Q:List V->Hp->Prop),Inv X pins σ H s->t σ H Q->wpAny (model X.prog X.w) X.A (spliced (backTo pos (starEach es X.env))) (AP X pins σ Q) X.xe s
def PS(X:Cx)(st:Stmt)(t:TS):Prop:=
 ∀(pins:List (Addr×Obj))(s:Shared)(σ:St)(H:Hp)(D:Ends),Inv X pins σ H s->t D σ H->wpAny (model X.prog X.w) X.A (exec st X.env) (SP X pins D) X.xe s
def PSs(X:Cx)(st:List Stmt)(t:TS):Prop:=
 ∀(pins:List (Addr×Obj))(s:Shared)(σ:St)(H:Hp)(D:Ends),Inv X pins σ H s->t D σ H->wpAny (model X.prog X.w) X.A (execs st X.env) (SP X pins D) X.xe s
def thn{α:Type}{t:Sem α}{Q Q':α->Shared->Prop}{M:Model}{A:Around}{E:Vp}{s:Shared}(h:wpAny M A t Q E s)(hQ:∀a s,Q a s->Q' a s):wpAny M A t Q' E s:=vj4 h hQ fun _ _ x=>x
section
inductive BVar(i:Nat)(σ:List (Option V))(H:Hp)(Q:VK):Prop
 | mk(v:V)(h:σ[i]?=some (some v))(q:Q v H):BVar i σ H Q
def tVar(i:Nat):TE:=fun σ H Q=>BVar i σ H Q
def tC(v:V):TE:=fun _ H Q=>Q v H
def xr1(hN:X.N[i]?=some x)(hv:Vis X.env.scope x)(hd:(x == ("__debug__":Str))=false:=by decide)(a2:(x == ("__classdict__":Str))=false:=by decide):PE X (.Name x pos) (tVar i):=by
 intro a0 s σ H Q I h;obtain⟨v,e,h⟩:=h;obtain⟨m,hn,hl⟩:=I.loc;obtain⟨u,r,l⟩:=hl i x v hN e hv;have a1:EP X a0 σ Q u s:=⟨v,H,I,r,h⟩;rcases l with ⟨hk,hm⟩ | ⟨hk,c,hc,hcell⟩
 .exact wpAny_Name (wpAny_loadName_local I.ok.kind hk hn hm a1) hd
 .rcases hk with hk | hk
  .exact wpAny_Name (wpAny_loadName_cell I.ok.kind hk hc hcell a1) hd
  .exact wpAny_Name (wpAny_loadName_free I.ok.kind hk hc hcell a1 a2) hd
def zb6{i j pos}:PE X (.Constant (.int i) j pos) (tC (.int i)):=fun _ _ _ H _ I h=>wpAny_Constant_int ⟨.int i,H,I.tok _,⟨_,rfl⟩,h⟩
def xg8{b j pos}:PE X (.Constant (.bool b) j pos) (tC (.bl b)):=fun _ _ _ H _ I h=>Constant_bool ⟨.bl b,H,I,rfl,h⟩
def yp6{j pos}:PE X (.Constant .none j pos) (tC .non):=fun _ _ _ H _ I h=>Constant_none ⟨.non,H,I,rfl,h⟩
def zd3{x j pos}:PE X (.Constant (.str x) j pos) (tC (.str x)):=fun _ _ _ H _ I h=>Calls.Constant_str ⟨.str x,H,I.tok _,⟨_,rfl⟩,h⟩
def Gl(X:Cx)(x:Str):Prop:=X.env.kindOf x=some .globalImplicit
def xn2(I:Inv X pins σ H s)(hg:Gl X x)(hm:X.mg x=some u)(h:Q u s)(hd:(x == ("__debug__":Str))=false:=by decide):wpAny (model X.prog X.w) X.A (eval (.Name x pos) X.env) Q E s:=
 Calls.Name_function_global I.ok.kind hg (Calls.loadGlobal_global (by rw[I.ok.glob];exact I.mod.glob.keeps I.bk) hm h) hd
def zr0{E:Vp}{a0:List (Addr×Obj)}{s:Shared}{σ:St}{H:Hp}{x:Str}{u:Value}{pos:Pos}{Q:Vp}(I:Inv X a0 σ H s)(hg:Gl X x)(hm:X.mg x=none)(hv:bootBuiltins x=some u)(h:Q u s)
  (hn:x≠"__name__":=by decide) (hd:(x == ("__debug__":Str))=false:=by decide):wpAny (model X.prog X.w) X.A (eval (.Name x pos) X.env) Q E s:=by
 obtain⟨mb,h1,h2⟩:=I.mod.blt;exact Calls.Name_function_global I.ok.kind hg (Calls.loadGlobal_builtin (by rw[I.ok.glob];exact I.mod.glob.keeps I.bk) hm (by rw[I.ok.blt];exact h1.keeps I.bk) ((h2 x hn).trans hv) h) hd
def yw7(hg:Gl X x)(hm:X.mg x=some u)(r:RelV v u)(hd:(x == ("__debug__":Str))=false:=by decide):PE X (.Name x pos) (tC v):=
 fun _ _ _ H _ I h=>xn2 I hg hm ⟨v,H,I,r,h⟩ hd
def zr7(hg:Gl X x)(hm:X.mg x=none)(hv:bootBuiltins x=some u)(r:RelV v u)(hn:x≠"__name__":=by decide)(hd:(x == ("__debug__":Str))=false:=by decide):PE X (.Name x pos) (tC v):=
 fun _ _ _ H _ I h=>zr0 I hg hm hv ⟨v,H,I,r,h⟩ hn hd
variable{a b:Expr}{ta tb:TE}{pos:Pos}
def PC(X:Cx)(op:CmpOp)(a b:Expr)(t:TE):Prop:=
 ∀(pins:List (Addr×Obj))(s:Shared)(σ:St)(H:Hp)(Q:VK),Inv X pins σ H s->t σ H Q->
  wpAny (model X.prog X.w) X.A (eval a X.env) (fun v s₁=>wpAny (model X.prog X.w) X.A (eval b X.env) (fun u s₂=>wpAny (model X.prog X.w) X.A (compareOp op v u) (EP X pins σ Q) X.xe s₂) X.xe s₁) X.xe s
def xb5(b:Expr){op:CmpOp}(h:op≠.In)(h2:op≠.NotIn):behindInMarks op b=false:=by
 have e1:(op == CmpOp.In)=false:=by cases op <;> first | rfl | exact absurd rfl h
 have e2:(op == CmpOp.NotIn)=false:=by cases op <;> first | rfl | exact absurd rfl h2
 cases b <;> simp[behindInMarks,e1,e2]
def tIsN(ta:TE):TE:=fun σ H Q=>ta σ H fun x H1=>Q (.bl (decide (x=.non))) H1
def tNotN(ta:TE):TE:=fun σ H Q=>ta σ H fun x H1=>Q (.bl (!decide (x=.non))) H1
def RelV.none_iff(r:RelV x v):(v == Value.none)=decide (x=.non):=by
 cases x with
 | non=>cases r;rfl
 | bl _=>cases r;rfl
 | int _=>obtain⟨t,rfl⟩:=r;rfl
 | str _=>obtain⟨t,rfl⟩:=r;rfl
 | byt _=>obtain⟨t,rfl⟩:=r;rfl
 | flt _=>obtain⟨t,rfl⟩:=r;rfl
 | ref _=>cases r;rfl
 | ty _=>cases r;rfl
def xb7{j pos'}(ha:PE X a ta):PC X .Is a (.Constant .none j pos') (tIsN ta):=by
 intro a0 s σ H Q I h;refine thn (ha a0 s σ H _ I h) fun v s1 ⟨x,H1,I1,r1,q1⟩=>?_;exact Constant_none (is_none_gen ⟨.bl _,H1,I1,by rw[r1.none_iff];rfl,q1⟩)
def zw3{j pos'}(ha:PE X a ta):PC X .IsNot a (.Constant .none j pos') (tNotN ta):=by
 intro a0 s σ H Q I h;refine thn (ha a0 s σ H _ I h) fun v s1 ⟨x,H1,I1,r1,q1⟩=>?_;exact Constant_none (isnot_none_gen ⟨.bl _,H1,I1,by rw[r1.none_iff];rfl,q1⟩)
inductive BTru(x:V)(H:Hp)(Q:Bool->Hp->Prop):Prop
 | mk(c:Bool)(h:x=.bl c)(q:Q c H):BTru x H Q
def tB(t:TE):TT:=fun σ H Q=>t σ H fun x H1=>BTru x H1 Q
def pe_cmp(h:PC X op a b t)(h1:behindInMarks op b=false:=by first | exact xb5 _ (by decide) (by decide) | rfl):PE X (.Compare a [op] [b] pos) t:=fun a0 s σ H Q I hw=>wpAny_Compare1 (h a0 s σ H Q I hw) h1
def zq9{op:CmpOp}{t:TE}(h:PC X op a b t)(h1:behindInMarks op b=false:=by first | exact xb5 _ (by decide) (by decide) | rfl):PT X (.Compare a [op] [b] pos) (tB t):=by
 intro a0 s σ H Q I hw;refine wpAny_isTrue_Compare1 (thn (h a0 s σ H _ I hw) fun v s1 h1=>thn h1 fun u s2 h2=>thn h2 fun c s3 ⟨x,H1,I1,r1,q1⟩=>?_) h1;obtain⟨d,rfl,q⟩:=q1;cases r1;exact vs0 ⟨H1,I1,q⟩
def zx4{e:Expr}{t:TE}(h:PE X e t)(he:∀whole,isTrue e X.env whole=(do let v <-whole;standAt e.pos;holding [v] (truthy v)):=by intro _;rfl):PT X e (tB t):=by
 intro a0 s σ H Q I hw;refine isTrue_plain (thn (h a0 s σ H _ I hw) fun v s1 ⟨x,H1,I1,r1,q1⟩=>?_) (he _);obtain⟨d,rfl,q⟩:=q1;cases r1;exact vs0 ⟨H1,I1,q⟩
variable{tA tB':TT}{rest:List Expr}
def tAnd(t u:TT):TT:=fun σ H Q=>t σ H fun c H1=>if c=true then u σ H1 Q else Q false H1
def tOr(t u:TT):TT:=fun σ H Q=>t σ H fun c H1=>if c=true then Q true H1 else u σ H1 Q
def tNot(t:TT):TT:=fun σ H Q=>t σ H fun c H1=>Q (!c) H1
def zk2(ha:PT X a tA):PW X (.BoolOp .And [a] pos) tA:=by
 intro wh a0 s σ H Q I h;refine isTrue_and (thn (ha a0 s σ H Q I h) fun c s1 e=>?_);cases c with
 | true=>exact isTrue_and_nil e
 | false=>exact e
def yh3(ha:PT X a tA):PW X (.BoolOp .Or [a] pos) tA:=by
 intro wh a0 s σ H Q I h;refine isTrue_or (thn (ha a0 s σ H Q I h) fun c s1 e=>?_);cases c with
 | false=>exact isTrue_or_nil e
 | true=>exact e
def zk5(ha:PT X a tA)(hb:PW X (.BoolOp .And (b::rest) pos) tB'):PW X (.BoolOp .And (a::b::rest) pos) (tAnd tA tB'):=by
 intro wh a0 s σ H Q I h;refine isTrue_and (thn (ha a0 s σ H _ I h) fun c s1 ⟨H1,I1,q1⟩=>?_);cases c with
 | true=>exact hb wh a0 s1 σ H1 Q I1 q1
 | false=>exact⟨H1,I1,q1⟩
def xh7(ha:PT X a tA)(hb:PW X (.BoolOp .Or (b::rest) pos) tB'):PW X (.BoolOp .Or (a::b::rest) pos) (tOr tA tB'):=by
 intro wh a0 s σ H Q I h;refine isTrue_or (thn (ha a0 s σ H _ I h) fun c s1 ⟨H1,I1,q1⟩=>?_);cases c with
 | true=>exact⟨H1,I1,q1⟩
 | false=>exact hb wh a0 s1 σ H1 Q I1 q1
def wj7(ha:PT X a tA):PT X (.UnaryOp .Not a pos) (tNot tA):=by
 intro a0 s σ H Q I h;exact isTrue_not (ha a0 s σ H (fun c H1=>Q (!c) H1) I h)
def tAndV(ta tb:TE):TE:=fun σ H Q=>ta σ H fun x H1=>∃c,x=.bl c/\if c=true then tb σ H1 Q else Q (.bl false) H1
def tNotV(ta:TE):TE:=fun σ H Q=>ta σ H fun x H1=>∃c,x=.bl c/\Q (.bl (!c)) H1
def xs0{op}(h:PE X a t):PE X (.BoolOp op [a] pos) t:=fun a0 s σ H Q I hw=>BoolOp_one (h a0 s σ H Q I hw)
def xc9(ha:PE X a ta)(hb:PE X (.BoolOp .And (b::rest) pos) tb):PE X (.BoolOp .And (a::b::rest) pos) (tAndV ta tb):=by
 intro a0 s σ H Q I h;refine BoolOp_and (thn (ha a0 s σ H _ I h) fun v s1 ⟨x,H1,I1,r1,q1⟩=>?_);obtain⟨c,rfl,q1⟩:=q1;cases r1;refine vs0 ?_;cases c with
 | true=>exact hb a0 s1 σ H1 Q I1 q1
 | false=>exact⟨.bl false,H1,I1,rfl,q1⟩
def wk1(ha:PE X a ta):PE X (.UnaryOp .Not a pos) (tNotV ta):=by
 intro a0 s σ H Q I h;refine UnaryOp_ (thn (ha a0 s σ H _ I h) fun v s1 ⟨x,H1,I1,r1,q1⟩=>?_);obtain⟨c,rfl,q1⟩:=q1;cases r1;exact not_of (vs0 ⟨.bl (!c),H1,I1,rfl,q1⟩)
def tIf(t:TT)(ta tb:TE):TE:=fun σ H Q=>t σ H fun c H1=>if c=true then ta σ H1 Q else tb σ H1 Q
def xz8{c:Expr}(hc:PT X c tA)(ha:PE X a ta)(hb:PE X b tb):PE X (.IfExp c a b pos) (tIf tA ta tb):=by
 intro a0 s σ H Q I h;refine wpAny_IfExp (thn (hc a0 s σ H _ I h) fun d s1 ⟨H1,I1,q1⟩=>?_);cases d with
 | true=>exact ha a0 s1 σ H1 Q I1 q1
 | false=>exact hb a0 s1 σ H1 Q I1 q1
end
def SqL(K:Fg)(H:Hp)(a:Addr)(xs:List V):Prop:=
 Rd H a (.lst xs)\/
  ∃(o:Obj)(its:Array Value)(n:Nat),K.lookup a=some o/\o.cls=.type "list"/\o.dict=none/\o.data=.seq its n/\its.size<=sizeLine/\Vals xs its.toList
def SqT(K:Fg)(H:Hp)(a:Addr)(xs:List V):Prop:=
 Rd H a (.tup xs)\/
  ∃(o:Obj)(its:Array Value)(n:Nat),K.lookup a=some o/\o.cls=.type "tuple"/\o.data=.seq its n/\its.size<=sizeLine/\Vals xs its.toList
def absV:Value->Option V
 | .none=>some .non
 | .bool b=>some (.bl b)
 | .int i _=>some (.int i)
 | .str x _=>some (.str x)
 | .bytes b _=>some (.byt b)
 | .float b _=>some (.flt b)
 | .ref a=>some (.ref a)
 | .type n=>some (.ty n)
 | _=>none
def RelV.abs(r:RelV x u):absV u=some x:=by
 cases x with
 | non=>cases r;rfl
 | bl _=>cases r;rfl
 | int _=>obtain⟨t,rfl⟩:=r;rfl
 | str _=>obtain⟨t,rfl⟩:=r;rfl
 | byt _=>obtain⟨t,rfl⟩:=r;rfl
 | flt _=>obtain⟨t,rfl⟩:=r;rfl
 | ref _=>cases r;rfl
 | ty _=>cases r;rfl
def RelV.inj(r:RelV x u)(q:RelV y u):x=y:=vf7 (r.abs.symm.trans q.abs)
def Vals.inj:∀{xs ys:List V}{us:List Value},Vals xs us->Vals ys us->xs=ys
 | _,_,_,.nil,.nil=>rfl
 | _,_,_,.cons r t,.cons r' t'=>by rw[r.inj r',Vals.inj t t']
section
variable{pins:List (Addr×Obj)}{σ:St}{H:Hp}{s:Shared}{a:Addr}{xs ys:List V}
def SqL.of{K:Fg}(h:H a=some (.lst xs)):SqL K H a xs:=.inl (.inl h)
def SqT.of{K:Fg}(h:H a=some (.tup xs)):SqT K H a xs:=.inl (.inl h)
def Inv.list(I:Inv X pins σ H s)(h:SqL X.K H a xs):∃its:List Value,Vals xs its/\PlainL s.heap a its.toArray/\↑xs<=sizeLine:=by
 rcases h with h | ⟨o,its,n,hk,hc,hd,hs,hz,r⟩
 .obtain⟨z,its,n,r,e⟩:=h.ok I.hok;exact⟨its,r,⟨_,n,e,rfl,rfl,rfl⟩,z⟩
 .exists its.toList,r,⟨o,n,I.kIn a o hk,hc,hd,by simpa using hs⟩;have e:=↑r;simp only[vd7]at e;lia
def Inv.tuple(I:Inv X pins σ H s)(h:SqT X.K H a xs):∃its:List Value,Vals xs its/\IsTup s.heap a its.toArray/\↑xs<=sizeLine:=by
 rcases h with h | ⟨o,its,n,hk,hc,hs,hz,r⟩
 .obtain⟨z,its,r,p⟩:=h.ok I.hok;exact⟨its,r,p,z.1⟩
 .exists its.toList,r,⟨o,I.kIn a o hk,hc,n,by simpa using hs⟩;have e:=↑r;simp only[vd7]at e;lia
def Inv.list_inj(I:Inv X pins σ H s)(h:SqL X.K H a xs)(h':SqL X.K H a ys):xs=ys:=by
 obtain⟨its,r,⟨o,n,e,_,_,d⟩,_⟩:=I.list h;obtain⟨its',r',⟨o',n',e',_,_,d'⟩,_⟩:=I.list h';rw[e]at e';cases e';rw[d]at d';injection d' with d1 _;have:its=its':=by simpa using vg1 Array.toList d1
 subst this;exact r.inj r'
def Inv.tuple_inj(I:Inv X pins σ H s)(h:SqT X.K H a xs)(h':SqT X.K H a ys):xs=ys:=by
 obtain⟨its,r,⟨o,e,_,n,d⟩,_⟩:=I.tuple h;obtain⟨its',r',⟨o',e',_,n',d'⟩,_⟩:=I.tuple h';rw[e]at e';cases e';rw[d]at d';injection d' with d1 _;have:its=its':=by simpa using vg1 Array.toList d1
 subst this;exact r.inj r'
end
abbrev Cx.wish(X:Cx)(E:Vp):Cx:={X with xe:=E}
abbrev Cx.nox(X:Cx):Cx:=X.wish fun _ _=>False
def Cx.Ok.wish{X:Cx}(ok:X.Ok)(E:Vp):(X.wish E).Ok:=
 ⟨ok.mod,ok.kind,ok.glob,ok.blt,ok.above,ok.inj,ok.has,ok.cab,ok.hd,ok.frames,ok.stk,ok.exf,ok.bs,ok.bsz,ok.noex,ok.exfs,ok.funs,ok.frf⟩
def Cx.Ok.unwish{X:Cx}{E:Vp}(ok:(X.wish E).Ok):X.Ok:=
 ⟨ok.mod,ok.kind,ok.glob,ok.blt,ok.above,ok.inj,ok.has,ok.cab,ok.hd,ok.frames,ok.stk,ok.exf,ok.bs,ok.bsz,ok.noex,ok.exfs,ok.funs,ok.frf⟩
section
variable{pins:List (Addr×Obj)}{σ:St}{H:Hp}{s:Shared}{E:Vp}
def Inv.wish(I:Inv X pins σ H s)(E:Vp):Inv (X.wish E) pins σ H s:=⟨I.ok.wish E,I.os,I.bare,I.base,I.loc,I.cell,I.free,I.freeC,I.pin,I.hok,I.len⟩
def Inv.unwish(I:Inv (X.wish E) pins σ H s):Inv X pins σ H s:=⟨I.ok.unwish,I.os,I.bare,I.base,I.loc,I.cell,I.free,I.freeC,I.pin,I.hok,I.len⟩
def SP.unwish{f:Flow}(h:SP (X.wish E) pins D f s'):SP X pins D f s':=by
 cases f with
 | next=>obtain⟨σ',H',I,q⟩:=h;exact⟨σ',H',I.unwish,q⟩
 | brk=>obtain⟨σ',H',I,q⟩:=h;exact⟨σ',H',I.unwish,q⟩
 | cont=>obtain⟨σ',H',I,q⟩:=h;exact⟨σ',H',I.unwish,q⟩
 | ret u=>obtain⟨v,σ',H',I,r,q⟩:=h;exact⟨v,σ',H',I.unwish,r,q⟩
def PSs.nox{st:List Stmt}{t:TS}(h:PSs X.nox st t):PSs X st t:=fun a0 s σ H D I hw=>
 vj4 (h a0 s σ H D (I.wish _) hw) (fun _ _ q=>q.unwish) fun _ _ z=>False.elim z
end
section
variable{st:Stmt}{rest:List Stmt}{t u:TS}{e:Expr}{te:TE}{pos:Pos}
def yx8:TS:=fun D σ H=>D.nx σ H
def tSeq(t u:TS):TS:=fun D σ H=>t {D with nx:=u D} σ H
def zd4:PSs X [] yx8:=fun _ _ σ H _ I h=>wpAny_execs_nil ⟨σ,H,I,h⟩
def zb3(h1:PS X st t)(h2:PSs X rest u):PSs X (st::rest) (tSeq t u):=by
 intro a0 s σ H D I h;refine wpAny_execs_cons (thn (h1 a0 s σ H {D with nx:=u D} I h) fun f s1 q=>?_);cases f with
 | next=>
  obtain⟨σ',H',I',q⟩:=q;exact h2 a0 s1 σ' H' D I' q
 | ret v=>exact q
 | brk=>exact q
 | cont=>exact q
def zb7(h1:PS X st t):PSs X [st] t:=by
 intro a0 s σ H D I h;refine wpAny_execs_cons (thn (h1 a0 s σ H D I h) fun f s1 q=>?_);cases f with
 | next=>exact wpAny_execs_nil q
 | ret v=>exact q
 | brk=>exact q
 | cont=>exact q
def Inv.quiet(I:Inv X pins σ H s):interactive X.env=false:=by simp[interactive,I.ok.kind]
def xk7(te:TE):TS:=fun D σ H=>te σ H fun _ H1=>D.nx σ H1
def zf5(he:PE X e te)(hs:swapsWith e none pos.line X.env=pure false:=by rfl):PS X (.Expr e pos) (xk7 te):=by
 intro a0 s σ H D I h;exact wpAny_Expr_any (thn (he a0 s σ H _ I h) fun v s1 ⟨x,H1,I1,r1,q1⟩=>⟨σ,H1,I1,q1⟩) I.quiet hs
def tRet(te:TE):TS:=fun D σ H=>te σ H D.rt
def zd1(he:PE X e te):PS X (.Return (some e) pos) (tRet te):=by
 intro a0 s σ H D I h;exact wpAny_Return_some (thn (he a0 s σ H _ I h) fun v s1 ⟨x,H1,I1,r1,q1⟩=>⟨x,σ,H1,I1,r1,q1⟩)
def tIfS(c:TT)(t u:TS):TS:=fun D σ H=>c σ H fun b H1=>if b=true then t D σ H1 else u D σ H1
def zg8{c:Expr}{a b:List Stmt}{tc:TT}(hc:PT X c tc)(ha:PSs X a t)(hb:PSs X b u):PS X (.If c a b pos) (tIfS tc t u):=by
 intro a0 s σ H D I h;refine wpAny_If (thn (hc a0 s σ H _ I h) fun d s1 ⟨H1,I1,q1⟩=>?_);cases d with
 | true=>exact ha a0 s1 σ H1 D I1 q1
 | false=>exact hb a0 s1 σ H1 D I1 q1
def tNever:TS:=fun _ _ _=>False
def zs3:PSs X sts tNever:=fun _ _ _ _ _ _ h=>h.elim
end
abbrev TG:=V->St->Hp->(St->Hp->Prop)->Prop
abbrev TGs:=List V->St->Hp->(St->Hp->Prop)->Prop
def PG(X:Cx)(target:Expr)(t:TG):Prop:=
 ∀(pins:List (Addr×Obj))(s:Shared)(σ:St)(H:Hp)(v:V)(u:Value)(Q:St->Hp->Prop),Inv X pins σ H s->RelV v u->t v σ H Q->
  wpAny (model X.prog X.w) X.A (assign target X.env u) (fun _ s'=>∃σ' H',Inv X pins σ' H' s'/\Q σ' H') X.xe s
def PGs(X:Cx)(ts:List Expr)(t:TGs):Prop:=
 ∀(pins:List (Addr×Obj))(s:Shared)(σ:St)(H:Hp)(vs:List V)(us:List Value)(Q:St->Hp->Prop),Inv X pins σ H s->Vals vs us->t vs σ H Q->
  wpAny (model X.prog X.w) X.A (assignInOrder ((assignEach ts X.env).map (·.2)) us) (fun _ s'=>∃σ' H',Inv X pins σ' H' s'/\Q σ' H') X.xe s
abbrev TSet:=V->V->V->Hp->(Hp->Prop)->Prop
def PSet(X:Cx)(t:TSet):Prop:=
 ∀(pins:List (Addr×Obj))(s:Shared)(σ:St)(H:Hp)(o i v:V)(ov iv u:Value)(Q:Hp->Prop),Inv X pins σ H s->RelV o ov->RelV i iv->RelV v u->t o i v H Q->
  wpAny (model X.prog X.w) X.A (setItem ov iv u) (fun _ s'=>∃H',Inv X pins σ H' s'/\Q H') X.xe s
section
variable{pos:Pos}
def zf0(i:Nat):TG:=fun v σ H Q=>Q (σ.set i (some v)) H
def zq0(hN:X.N.Nodup)(hi:X.N[i]?=some x)(hx:Loc X.env.scope x)(hf:X.fn x=true\/X.env.scope.names.lookup x=some .local:=by first | exact .inl rfl | exact .inr rfl | assumption):PG X (.Name x pos) (zf0 i):=by
 intro a0 s σ H v u Q I r h;exact wpAny_assign_Name (zz4 I hN hi hx r (fun s' I'=>⟨_,H,I',h⟩) hf)
inductive BGn(vs:List V)(σ:List (Option V))(H:Hp)(Q:List (Option V)->Hp->Prop):Prop
 | mk(h:vs=[])(q:Q σ H):BGn vs σ H Q
def gNil:TGs:=fun vs σ H Q=>BGn vs σ H Q
inductive BGs(t:TG)(u:TGs)(vs:List V)(σ:List (Option V))(H:Hp)(Q:List (Option V)->Hp->Prop):Prop
 | mk(v:V)(r:List V)(h:vs=v::r)(q:t v σ H fun σ2 H2=>u r σ2 H2 Q):BGs t u vs σ H Q
def zk0(t:TG)(u:TGs):TGs:=fun vs σ H Q=>BGs t u vs σ H Q
def zf8:PGs X [] gNil:=by
 intro a0 s σ H vs us Q I r h;obtain⟨e,h⟩:=h;subst e;cases r;exact assignInOrder_nil ⟨σ,H,I,h⟩
def zc0{e:Expr}{es:List Expr}{t:TG}{u:TGs}(h1:PG X e t)(h2:PGs X es u)
  (hs:(assignEach (e::es) X.env).map (·.2)=assign e X.env::(assignEach es X.env).map (·.2):=by rfl):PGs X (e::es) (zk0 t u):=by
 intro a0 s σ H vs us Q I r h;obtain⟨v,vr,e1,h⟩:=h;subst e1;cases r with
 | cons r rr=>
  rw[hs];refine assignInOrder_cons (thn (h1 a0 s σ H _ _ _ I r h) fun _ s1 ⟨σ1,H1,I1,q1⟩=>?_);exact h2 a0 s1 σ1 H1 _ _ Q I1 rr q1
inductive BGt(K:Fg)(n:Nat)(t:TGs)(v:V)(σ:List (Option V))(H:Hp)(Q:List (Option V)->Hp->Prop):Prop
 | mk(a:Addr)(xs:List V)(h1:v=.ref a)(h2:SqT K H a xs)(h3:↑xs=n)(q:t xs σ H Q):BGt K n t v σ H Q
def gTup(K:Fg)(n:Nat)(t:TGs):TG:=fun v σ H Q=>BGt K n t v σ H Q
def zh4(hc:X.calm=true)(h:PGs X es t)(hn:↑(assignEach es X.env)=n:=by rfl)(a1:(assignEach es X.env).findIdx? (·.1)=none:=by rfl):PG X (.Tuple es k pos) (gTup X.K n t):=by
 intro a0 s σ H v u Q I r hw;obtain⟨a,xs,e1,hq,hl,hw⟩:=hw;subst e1;cases r;obtain⟨its,rv,ht,hz⟩:=I.tuple hq;refine assign_Tuple_tuple (I.ok.hd hc) ht (by simp[hn,<-hl,rv.length]) a1 fun h' hx=>?_
 have I1:Inv X a0 σ H {s with heap:=h'}:=I.kept (t':=s.toks) fun b o e=>hx b o (vb7 (vb1 e)) e;exact h a0 _ σ H xs _ Q I1 (by simpa using rv) hw
def gSub(to ti:TE)(t:TSet):TG:=fun v σ H Q=>to σ H fun o H1=>ti σ H1 fun i H2=>t o i v H2 fun H3=>Q σ H3
def yj2{o i:Expr}{to ti:TE}{t:TSet}(ho:PE X o to)(hi:PE X i ti)(hs:PSet X t)
  (ha:∀v,assign (.Subscript o i pos) X.env v=(do
   let ov <-holding [v] (eval o X.env)
   let iv <-holding [v,ov] (eval i X.env)
   standAt pos
   holding [v,ov,iv] (setItem ov iv v)
   release [v,ov,iv] []):=by intro _;rfl):PG X (.Subscript o i pos) (gSub to ti t):=by
 intro a0 s σ H v u Q I r h;rw[ha];refine zz1 (vg8 (thn (ho a0 s σ H _ I h) fun ov s1 ⟨x,H1,I1,r1,q1⟩=>?_));refine zz1 (vg8 (thn (hi a0 s1 σ H1 _ I1 q1) fun iv s2 ⟨y,H2,I2,r2,q2⟩=>?_));refine zz1 (vs6 (zz1 (vg8 (thn (hs a0 s2 σ H2 x y v ov iv u _ I2 r1 r2 r q2) fun _ s3 ⟨H3,I3,q3⟩=>?_))));exact wpAny_release ⟨σ,H3,I3,q3⟩
def tAsg(te:TE)(g:TG):TS:=fun D σ H=>te σ H fun x H1=>g x σ H1 D.nx
def zx0{tg e:Expr}{te:TE}{g:TG}(he:PE X e te)(hg:PG X tg g)(hs:swapsWithSole [tg] e pos.line X.env=pure false:=by rfl)(hw:swappedStores [tg] e X.env=pure none:=by rfl)
  (h1:(assignEach [tg] X.env).map (·.2)=[assign tg X.env]:=by rfl):PS X (.Assign [tg] e pos) (tAsg te g):=by
 intro a0 s σ H D I h;refine wpAny_Assign_stores (thn (he a0 s σ H _ I h) fun v s1 ⟨x,H1,I1,r1,q1⟩=>?_) hs hw;rw[h1];exact thn (hg a0 s1 σ H1 x v _ I1 r1 q1) fun _ s2 q=>q
def zk7{i:Nat}{x:Str}{e:Expr}{te:TE}{a0:Pos}(hN:X.N.Nodup)(hi:X.N[i]?=some x)(hx:Loc X.env.scope x)(he:PE X e te)(hs:swapsWith e (some (.Name x a0)) pos.line X.env=pure false:=by rfl)(hf:X.fn x=true\/X.env.scope.names.lookup x=some .local:=by first | exact .inl rfl | exact .inr rfl | assumption):
  PS X (.Assign [.Name x a0] e pos) (tAsg te (zf0 i)):=by
 intro a1 s σ H D I h;refine wpAny_Assign_Name (thn (he a1 s σ H _ I h) fun v s1 ⟨y,H1,I1,r1,q1⟩=>?_) hs;exact zz4 I1 hN hi hx r1 (fun s2 I2=>⟨_,H1,I2,q1⟩) hf
def tPar(i j:Nat)(ta:TA):TS:=fun D σ H=>ta σ H fun vs H1=>∃v w,vs=[v,w]/\D.nx ((σ.set i (some v)).set j (some w)) H1
def wj6{i j:Nat}{x y:Str}{a b:Expr}{ta:TA}{px py pt:Pos}{kt k2 pt2}(hc:X.calm=true)(hN:X.N.Nodup)(hi:X.N[i]?=some x)(hj:X.N[j]?=some y)(a3:i≠j)
  (hx:X.env.scope.names.lookup x=some .local) (hy:X.env.scope.names.lookup y=some .local) (ha:PA X [a,b] ta)
  (hw:swappedStores [.Tuple [.Name x px,.Name y py] kt pt] (.Tuple [a,b] k2 pt2) X.env=pure (some [x,y]))
  (hs:swapsWithSole [.Tuple [.Name x px,.Name y py] kt pt] (.Tuple [a,b] k2 pt2) pos.line X.env=pure false:=by rfl):
  PS X (.Assign [.Tuple [.Name x px,.Name y py] kt pt] (.Tuple [a,b] k2 pt2) pos) (tPar i j ta):=by
 intro a0 s σ H D I h;rw[exec_Assign_arm];refine zz1 (vs6 ?_);rw[hs];refine zz1 (wz7 ?_);rw[vd0 (by decide)];refine zz1 (Tuple_ (thn (ha _ a0 s σ H _ I h) fun us s1 ⟨vs,H1,I1,r1,q1⟩=>?_));obtain⟨v,w,e1,q1⟩:=q1;subst e1;obtain⟨u1,u2,rfl,rv,a2⟩:∃u1 u2,us=[u1,u2]/\RelV v u1/\RelV w u2:=by
  cases r1 with
  | cons p q=>
   cases q with
   | cons p' q'=>
    cases q';exact⟨_,_,rfl,p,p'⟩
 refine vg5 ?_ (by show 2<=sizeLine;decide);have I2:Inv X a0 σ H1 {s1 with heap:=s1.heap.push {cls:=.type "tuple",data:=.seq [u1,u2].toArray}}:=I1.kept (t':=s1.toks) fun b o e=>wz3 _ e;rw[hw];refine zz1 (wz7 ?_);show wpAny (model X.prog X.w) X.A (do rule "assign.swapped-stores";let items <-unpackItems (.ref s1⁻¹) 2 none;assignInOrder [fun v=>bindName X.env y v,fun v=>bindName X.env x v] items.reverse;pure Flow.next) _ _ _;refine zz1 (vp2 (zz1 (unpackItems_tuple (items:=#[u1,u2]) (I.ok.hd hc) (IsTup.new s1.heap _) fun h' a1=>?_)));have I3:=I2.kept (h':=h') (t':=s1.toks) fun b o e=>a1 b o (vb7 (vb1 e)) e;show wpAny _ _ (assignInOrder [fun v=>bindName X.env y v,fun v=>bindName X.env x v] [u2,u1] >>= fun _=>pure Flow.next) _ _ _;refine zz1 (assignInOrder_cons (wpAny_bindName (zz4 I3 hN hj (.inl hy) a2 (fun s2 I4=>?_) (.inr hy))));refine assignInOrder_cons (wpAny_bindName (zz4 I4 hN hi (.inl hx) rv (fun s3 I5=>assignInOrder_nil (wz7 ?_)) (.inr hx)));rw[List.set_comm _ _ (vj3 a3)]at I5;exact⟨_,H1,I5,q1⟩
end
section
variable{pos:Pos}
def wj5(c:TT)(tb:TS):TS:=fun D σ H=>∃W:Nat->St->Hp->Prop,(∃m,W m σ H)/\∀m σ H,W m σ H->
 c σ H fun b H1=>if b=true then ∃N:St->Hp->Prop,(∀σ' H',N σ' H'->∃m',m'<m/\W m' σ' H')/\tb {D with nx:=N,ct:=N,bk:=D.nx} σ H1 else D.nx σ H1
def zs4{c:Expr}{body:List Stmt}{tc:TT}{tb:TS}(hp:PassesOwn (model X.prog X.w) X.A X.env X.xe)(hc:PT X c tc)(hb:PSs X body tb):PS X (.While c body [] pos) (wj5 tc tb):=by
 intro a0 s σ H D I h;obtain⟨W,⟨m0,w0⟩,turn⟩:=h;refine wpAny_While (codeAny_whileLoop (fun n s'=>∃σ' H',Inv X a0 σ' H' s'/\W n σ' H') ?_ m0 ⟨σ,H,I,w0⟩);rintro n s1 ⟨σ1,H1,I1,w1⟩;refine vs1 hp (thn (hc a0 s1 σ1 H1 _ I1 (turn n σ1 H1 w1)) fun b s2 ⟨H2,I2,q2⟩=>?_);cases b with
 | true=>
  obtain⟨N,hN,q2⟩:=q2;rw[vd3 rfl];refine vs1 hp (thn (hb a0 s2 σ1 H2 _ I2 q2) fun f s3 q3=>?_);cases f with
  | next=>
   obtain⟨σ3,H3,I3,n3⟩:=q3;obtain⟨m',hm,w3⟩:=hN σ3 H3 n3;exact⟨m',hm,σ3,H3,I3,w3⟩
  | cont=>
   obtain⟨σ3,H3,I3,n3⟩:=q3;obtain⟨m',hm,w3⟩:=hN σ3 H3 n3;exact⟨m',hm,σ3,H3,I3,w3⟩
  | brk=>exact q3
  | ret v=>exact q3
 | false=>
  rw[vd0 vb6];exact wpAny_execs_nil ⟨σ1,H2,I2,q2⟩
end
structure It where
 go:Nat->Hp->Prop
 yld:Nat->Hp->V->Hp->Prop
 stop:Nat->Hp->Prop
def FpOk(X:Cx)(pins:List (Addr×Obj))(H:Hp)(b:Addr):Prop:=
 H b=none/\b≠X.env.locals/\b∉X.fs/\(b∈X.ex\/X.s₀⁻¹<=b)/\(∀x c,X.env.cells.lookup x=some c->c≠b)/\∀p∈X.pn++pins,p.1≠b
def Inv.fpOk(I:Inv X pins σ H s)(hb:s⁻¹<=b)(hn:H' b=none):FpOk X pins H' b:=by
 refine⟨hn,vf1 (vf3 I.lt hb),I.nofs hb,.inr (vh1 I.sz hb),fun x c e z=>?_,fun p hp z=>?_⟩
 .obtain⟨v,q⟩:=I.cell x c e;exact absurd (vf3 q.lt (by rw[z];exact hb)) (vj1 _)
 .exact absurd (vf3 (vb1 (I.pin p hp).1) (by rw[z];exact hb)) (vj1 _)
structure Turn(P:Program)(w:World)(K:Fg)(tg:Expr)(J:It)(fp:List Addr)(it:Addr)(tn:Nat->Heap->Prop):Prop where
 mem:it∈fp
 obj:∀i h,tn i h->∀b∈fp,∃o,h.get? b=some o/\∀v,o.data≠.cell v
 keep:∀i h h',tn i h->(∀b∈fp,∀o,h.get? b=some o->h'.get? b=some o)->tn i h'
 item:∀(X:Cx),X.prog=P->X.w=w->X.K=K->X.calm=true->∀(i:Nat)(pins:List (Addr×Obj))(s:Shared)(σ:St)(H:Hp)(E:Vp),Inv X pins σ H s->(∀b∈fp,FpOk X pins H b)->tn i s.heap->J.go i H->
  wpAny (model P w) X.A (pyNext (.ref it)) (fun r s1=>∃u,r=some u/\
   wpAny (model P w) X.A (letOwnedTupleGo tg (.ref it) u) (fun _ s2=>∃x H',Inv X pins σ H' s2/\RelV x u/\J.yld i H x H'/\tn (i+1) s2.heap/\∀b∈fp,H' b=none) E s1) E s
 done:∀(X:Cx),X.prog=P->X.w=w->X.K=K->X.calm=true->∀(i:Nat)(pins:List (Addr×Obj))(s:Shared)(σ:St)(H:Hp)(E:Vp),Inv X pins σ H s->(∀b∈fp,FpOk X pins H b)->tn i s.heap->J.stop i H->
  wpAny (model P w) X.A (pyNext (.ref it)) (fun r s1=>r=none/\Inv X pins σ H s1) E s
 self:∀(A:Around)(i:Nat)(s:Shared)(Q:Vp)(E:Vp),tn i s.heap->Q (.ref it) s->wpAny (model P w) A (pyIter (.ref it)) Q E s
abbrev TI:=St->Hp->(It->Hp->Prop)->Prop
def PIE(X:Cx)(pins:List (Addr×Obj))(σ:St)(tg:Expr)(R:It->Hp->Prop)(itv:Value)(s2:Shared):Prop:=
 ∃(it:Addr)(fp:List Addr)(tn:Nat->Heap->Prop)(J:It)(H':Hp),itv=.ref it/\Inv X pins σ H' s2/\Turn X.prog X.w X.K tg J fp it tn/\tn 0 s2.heap/\(∀b∈fp,FpOk X pins H' b)/\R J H'
def PI(X:Cx)(tg iter:Expr)(wi:TI):Prop:=
 ∀(pins:List (Addr×Obj))(s:Shared)(σ:St)(H:Hp)(R:It->Hp->Prop),Inv X pins σ H s->wi σ H R->
  wpAny (model X.prog X.w) X.A (eval iter X.env) (fun v s1=>wpAny (model X.prog X.w) X.A (pyIter v) (PIE X pins σ tg R) X.xe s1) X.xe s
def yv8(ho:s.heap.get? it=some o)(hc:o.cls=.type n)(hd:o.data=.fields vs)(hn:["enumerate","zip","dict_itemiterator","dict_reverseitemiterator","odict_iterator","itertools.zip_longest","itertools.pairwise"].contains n=false)(hQ:Q () s):wpAny M A (letOwnedTupleGo tg (.ref it) u) Q E s:=by
 unfold letOwnedTupleGo;cases tg <;> first
  | exact wz7 hQ
  | (cases u <;> first
    | exact wz7 hQ
    | (refine zz1 (wpAny_load ho ?_);rw[hc,hd];show wpAny M A (if (["enumerate","zip","dict_itemiterator","dict_reverseitemiterator","odict_iterator","itertools.zip_longest","itertools.pairwise"].contains n && vs[0]? == some (rawInt _))=true then _ else _) Q E s;rw[vd0 (by intro h;rw[hn,Bool.false_and]at h;cases h)];exact wz7 hQ))
def Itl(K:Fg)(a:Addr):It:=
 ⟨fun i H=>∃xs x,SqL K H a xs/\xs[i]?=some x,fun i H x H'=>H'=H/\∀xs,SqL K H a xs->xs[i]?=some x,fun i H=>∃xs,SqL K H a xs/\↑xs<=i⟩
def Itt(K:Fg)(a:Addr):It:=
 ⟨fun i H=>∃xs x,SqT K H a xs/\xs[i]?=some x,fun i H x H'=>H'=H/\∀xs,SqT K H a xs->xs[i]?=some x,fun i H=>∃xs,SqT K H a xs/\↑xs<=i⟩
def Itr(lo:Int)(n:Nat):It:=⟨fun i _=>i<n,fun i H x H'=>H'=H/\x=.int (lo+i),fun i _=>n<=i⟩
def xx5{P:Program}{w:World}{K:Fg}{tg:Expr}(a it:Addr):Turn P w K tg (Itl K a) [it] it (fun i h=>h.IsListIter it a i) where
 mem:=by simp
 obj:=fun i h st b hb=>by
  have e:b=it:=by simpa using hb
  subst e;obtain⟨o,e,c,d⟩:=st;exact⟨o,e,fun v z=>by rw[d]at z;cases z⟩
 keep:=fun i h h' st k=>st.at fun o e=>k it (by simp) o e
 item:=by
  intro X hP hw hK hc i a0 s σ H E I hf st hg;subst hP hw hK;obtain⟨xs,x,hq,hx⟩:=hg;obtain⟨its,rv,p,hz⟩:=I.list hq;obtain⟨u,hu,ru⟩:=rv.get hx;obtain⟨f0,f1,f2,f3,f4,f5⟩:=hf it (by simp);refine wpAny_pyNext_list_item st p.isList (x:=u) (by simpa using hu) fun h' a1 sb=>?_
  have I1:Inv X a0 σ H {s with heap:=h'}:=I.turned (t':=s.toks) (fun b o hb e=>(sb.2 b hb).trans e) f0 f1 f3 f4 f5;obtain⟨o,e,c,d⟩:=id a1;exact⟨u,rfl,yv8 (s:={s with heap:=h'}) e c d (by decide) ⟨x,H,I1,ru,⟨rfl,fun ys hy=>by rw[I.list_inj hy hq];exact hx⟩,a1,fun b hb=>(hf b hb).1⟩⟩
 done:=by
  intro X hP hw hK hc i a0 s σ H E I hf st hg;subst hP hw hK;obtain⟨xs,hq,hx⟩:=hg;obtain⟨its,rv,p,hz⟩:=I.list hq;obtain⟨f0,f1,f2,f3,f4,f5⟩:=hf it (by simp);have hl:=↑rv;exact wpAny_pyNext_list_end (I.ok.hd hc) st p.isList (by simp;lia) fun h' eb=>⟨rfl,I.turned (t':=s.toks) (fun b o hb e=>eb b o hb e) f0 f1 f3 f4 f5⟩
 self:=fun _ _ _ _ _ st h=>wpAny_pyIter_listiter st h
def xh5{P:Program}{w:World}{K:Fg}{tg:Expr}(a it:Addr):Turn P w K tg (Itt K a) [it] it (fun i h=>h.IsTupleIter it a i) where
 mem:=by simp
 obj:=fun i h st b hb=>by
  have e:b=it:=by simpa using hb
  subst e;obtain⟨o,e,c,d⟩:=st;exact⟨o,e,fun v z=>by rw[d]at z;cases z⟩
 keep:=fun i h h' st k=>st.at fun o e=>k it (by simp) o e
 item:=by
  intro X hP hw hK hc i a0 s σ H E I hf st hg;subst hP hw hK;obtain⟨xs,x,hq,hx⟩:=hg;obtain⟨its,rv,p,hz⟩:=I.tuple hq;obtain⟨u,hu,ru⟩:=rv.get hx;obtain⟨f0,f1,f2,f3,f4,f5⟩:=hf it (by simp);refine wpAny_pyNext_tuple_item st (show s.heap.IsTuple a its.toArray from p) (x:=u) (by simpa using hu) fun h' a1 sb=>?_
  have I1:Inv X a0 σ H {s with heap:=h'}:=I.turned (t':=s.toks) (fun b o hb e=>(sb.2 b hb).trans e) f0 f1 f3 f4 f5;obtain⟨o,e,c,d⟩:=id a1;exact⟨u,rfl,yv8 (s:={s with heap:=h'}) e c d (by decide) ⟨x,H,I1,ru,⟨rfl,fun ys hy=>by rw[I.tuple_inj hy hq];exact hx⟩,a1,fun b hb=>(hf b hb).1⟩⟩
 done:=by
  intro X hP hw hK hc i a0 s σ H E I hf st hg;subst hP hw hK;obtain⟨xs,hq,hx⟩:=hg;obtain⟨its,rv,p,hz⟩:=I.tuple hq;obtain⟨f0,f1,f2,f3,f4,f5⟩:=hf it (by simp);have hl:=↑rv;exact wpAny_pyNext_tuple_end (I.ok.hd hc) st (show s.heap.IsTuple a its.toArray from p) (by simp;lia) fun h' eb=>⟨rfl,I.turned (t':=s.toks) (fun b o hb e=>eb b o hb e) f0 f1 f3 f4 f5⟩
 self:=fun _ _ _ _ _ st h=>wpAny_pyIter_tupleiter st h
def xh0{P:Program}{w:World}{K:Fg}{tg:Expr}(it:Addr)(lo:Int)(n:Nat):Turn P w K tg (Itr lo n) [it] it (fun i h=>IsRangeIter h it (lo+(i:Nat)*1) ((n:Int)-(i:Nat)) 1) where
 mem:=by simp
 obj:=fun i h st b hb=>by
  have e:b=it:=by simpa using hb
  subst e;exact⟨_,st,fun v z=>by
   have z':Data.fields _=Data.cell v:=z;cases z'⟩
 keep:=fun i h h' st k=>k it (by simp) _ st
 item:=by
  intro X hP hw hK hc i a0 s σ H E I hf st hg;subst hP hw hK;obtain⟨f0,f1,f2,f3,f4,f5⟩:=hf it (by simp);have W:=Walks.range (prog:=X.prog) (w:=X.w) (I.ok.hd hc) it lo 1 n;refine W.item i s _ _ hg st fun v h' tk hv a1 kk=>?_;obtain⟨t,rfl⟩:=hv;have I1:Inv X a0 σ H {s with heap:=h',toks:=tk}:=I.turned (fun b o hb e=>kk b o (by simpa using hb) e) f0 f1 f3 f4 f5;refine⟨_,rfl,yv8 (s:={s with heap:=h',toks:=tk}) (n:="range_iterator") a1 rfl rfl (by decide) ⟨.int (lo+i),H,I1,⟨t,?_⟩,⟨rfl,rfl⟩,a1,fun b hb=>(hf b hb).1⟩⟩;rw[Int.mul_one]
 done:=by
  intro X hP hw hK hc i a0 s σ H E I hf st hg;subst hP hw hK;obtain⟨f0,f1,f2,f3,f4,f5⟩:=hf it (by simp);exact wpAny_pyNext_range_end (I.ok.hd hc) st (by have:n<=i:=hg;lia) fun h' eb=>⟨rfl,I.turned (t':=s.toks) (fun b o hb e=>eb b o hb e) f0 f1 f3 f4 f5⟩
 self:=fun _ _ _ _ _ st h=>wpAny_pyIter_rangeiter st h
section
variable{tg:Expr}
inductive BIl(K:Fg)(x:V)(H:Hp)(R:It->Hp->Prop):Prop
 | mk(a:Addr)(h:x=.ref a)(h2:∃xs,SqL K H a xs)(q:R (Itl K a) H):BIl K x H R
def ws1(K:Fg)(tl:TE):TI:=fun σ H R=>tl σ H fun x H1=>BIl K x H1 R
inductive BIt(K:Fg)(x:V)(H:Hp)(R:It->Hp->Prop):Prop
 | mk(a:Addr)(h:x=.ref a)(h2:∃xs,SqT K H a xs)(q:R (Itt K a) H):BIt K x H R
def iTup(K:Fg)(tl:TE):TI:=fun σ H R=>tl σ H fun x H1=>BIt K x H1 R
def zf6{l:Expr}{tl:TE}(hl:PE X l tl):PI X tg l (ws1 X.K tl):=by
 intro a0 s σ H R I h;refine thn (hl a0 s σ H _ I h) fun v s1 ⟨x,H1,I1,r1,q1⟩=>?_;obtain⟨a,e,⟨xs,hq⟩,q⟩:=q1;subst e;cases r1;obtain⟨its,rv,p,hz⟩:=I1.list hq;refine ub4 p.isList ?_;refine⟨s1⁻¹,[s1⁻¹],_,_,H1,rfl,I1.kept (t':=s1.toks) fun b o e=>wz3 _ e,xx5 a _,⟨_,vb8 _ rfl,rfl,rfl⟩,fun b hb=>?_,q⟩;have e:b=s1⁻¹:=by simpa using hb
 subst e;exact I1.fpOk (wz6 _) (I1.hok.fresh (wz6 _))
def zj4{l:Expr}{tl:TE}(hl:PE X l tl):PI X tg l (iTup X.K tl):=by
 intro a0 s σ H R I h;refine thn (hl a0 s σ H _ I h) fun v s1 ⟨x,H1,I1,r1,q1⟩=>?_;obtain⟨a,e,⟨xs,hq⟩,q⟩:=q1;subst e;cases r1;obtain⟨its,rv,p,hz⟩:=I1.tuple hq;refine wpAny_pyIter_tuple (show s1.heap.IsTuple a its.toArray from p) ?_;refine⟨s1⁻¹,[s1⁻¹],_,_,H1,rfl,I1.kept (t':=s1.toks) fun b o e=>wz3 _ e,xh5 a _,⟨_,vb8 _ rfl,rfl,rfl⟩,fun b hb=>?_,q⟩;have e:b=s1⁻¹:=by simpa using hb
 subst e;exact I1.fpOk (wz6 _) (I1.hok.fresh (wz6 _))
def wb6{a0:List (Addr×Obj)}{σ:St}{H:Hp}{s:Shared}{R:It->Hp->Prop}{E:Vp}{lo hi:Int}{t u v:Tok}{tk:Nat}(I:Inv X a0 σ H s)(h1:-(2 ^ 62)<=lo)(h2:lo<2 ^ 62)(h3:-(2 ^ 62)<=hi)(h4:hi<2 ^ 62)
  (q:R (Itr lo (hi-lo).toNat) H):wpAny (model X.prog X.w) X.A (pyIter (.ref s⁻¹)) (PIE X a0 σ tg R) E {s with heap:=s.heap.push {cls:=.type "range",data:=.fields #[.int lo t,.int hi u,.int 1 v]},toks:=tk}:=by
 refine wpAny_pyIter_range (IsRange.new ..) (small_one h1 h2 h3 h4) ?_;have I1:Inv X a0 σ H {s with heap:=s.heap.push {cls:=.type "range",data:=.fields #[.int lo t,.int hi u,.int 1 v]},toks:=tk}:=I.kept fun b o e=>wz3 _ e;refine⟨(s.heap.push {cls:=.type "range",data:=.fields #[.int lo t,.int hi u,.int 1 v]}).objs.size,[(s.heap.push {cls:=.type "range",data:=.fields #[.int lo t,.int hi u,.int 1 v]}).objs.size],_,_,H,rfl,
  I1.kept (t':=tk) fun b o e=>wz3 _ e,xh0 _ lo (hi-lo).toNat,?_,fun b hb=>?_,q⟩
 .have e1:lo+((0:Nat):Int)*1=lo:=by simp
  have e2:(((hi-lo).toNat:Nat):Int)-((0:Nat):Int)=Builtin.Range.rangeSize lo hi 1:=by rw[rangeSize_one];split <;> lia
  show IsRangeIter _ _ (lo+((0:Nat):Int)*1) ((((hi-lo).toNat:Nat):Int)-((0:Nat):Int)) 1;rw[e1,e2];exact vb8 _ rfl
 .have e:b=(s.heap.push {cls:=.type "range",data:=.fields #[.int lo t,.int hi u,.int 1 v]}).objs.size:=by simpa using hb
  subst e;exact I1.fpOk (wz6 _) (I1.hok.fresh (wz6 _))
def iRng1(ta:TA):TI:=fun σ H R=>ta σ H fun vs H1=>∃j:Int,vs=[.int j]/\-(2 ^ 62)<=j/\j<2 ^ 62/\R (Itr 0 j.toNat) H1
def zm2{a:Expr}{ta:TA}{p pos:Pos}(hg:Gl X "range")(hm:X.mg "range"=none)(ha:PA X [a] ta)(hs:starEach [a] X.env=[(false,eval a X.env)]:=by rfl):PI X tg (.Call (.Name "range" p) [a] [] pos) (iRng1 ta):=by
 intro a0 s σ H R I h;refine Call_ (zr0 I hg hm boot_range (vh3 (thn (ha pos a0 s σ H _ I h) fun us s1 ⟨vs,H1,I1,r1,q1⟩=>?_) hs rfl));obtain⟨j,e,q1,q2,q⟩:=q1;subst e;cases r1 with
 | cons r rr=>
  cases rr;obtain⟨t,rfl⟩:=r;exact call_range_1 (wb6 I1 (by lia) (by lia) q1 q2 (by simpa using q))
def tFor(wi:TI)(g:TG)(tb:TS):TS:=fun D σ H=>wi σ H fun J H1=>∃W:Nat->Nat->St->Hp->Prop,(∃m,W 0 m σ H1)/\∀i m σ H,W i m σ H->
 (J.stop i H/\D.nx σ H)\/(J.go i H/\∃N:St->Hp->Prop,(∀σ' H',N σ' H'->∃m',m'<m/\W (i+1) m' σ' H')/\∀x H',J.yld i H x H'->g x σ H' fun σ2 H2=>tb {D with nx:=N,ct:=N,bk:=D.nx} σ2 H2)
def yf5(fp:List Addr)(h:Heap):List (Addr×Obj):=fp.filterMap fun b=>(h.get? b).map fun o=>(b,o)
def zj1(hb:b∈fp)(e:h.get? b=some o):(b,o)∈yf5 fp h:=List.mem_filterMap.mpr ⟨b,hb,by rw[e];rfl⟩
def xt2(hp:p∈yf5 fp h):p.1∈fp/\h.get? p.1=some p.2:=by
 obtain⟨b,hb,e⟩:=List.mem_filterMap.mp hp;cases q:h.get? b with
 | none=>rw[q]at e;cases e
 | some o=>
  rw[q]at e;have e':(b,o)=p:=vf7 e;subst e';exact⟨hb,q⟩
def Inv.pinned(I:Inv X pins σ H s)(hf:∀b∈fp,FpOk X pins H b)(ho:∀b∈fp,∃o,s.heap.get? b=some o/\∀v,o.data≠.cell v):Inv X (pins++yf5 fp s.heap) σ H s:=
 I.pins_of fun p hp=>(vc4.mp hp).elim (fun z=>I.pin p (vd4 _ z)) fun z=>by
  obtain⟨hb,e⟩:=xt2 z;obtain⟨f0,f1,f2,_⟩:=hf p.1 hb;obtain⟨o,e',d⟩:=ho p.1 hb;rw[e]at e';cases e';exact⟨e,f0,f1,f2,d⟩
def Inv.unpinned(I:Inv X (pins++pl) σ H s):Inv X pins σ H s:=I.pins_of fun p hp=>I.pin p (vd4 _ (vp6 _ hp))
def zf9{a2:Expr}{body:List Stmt}{wi:TI}{g:TG}{tb:TS}{pos:Pos}(hp:PassesOwn (model X.prog X.w) X.A X.env X.xe)(hc:X.calm=true)(hi:PI X tg a2 wi)(hg:PG X tg g)(hb:PSs X body tb)
  (hs:∀x,foldedSetIterable a2 X.env x=pure x:=by intro _;rfl):PS X (.For tg a2 body [] pos) (tFor wi g tb):=by
 intro a0 s σ H D I h;refine wpAny_For (thn (hi a0 s σ H _ I h) fun v s1 h1=>thn h1 fun a9 s2 h2=>?_) hs;obtain⟨it,fp,tn,J,H2,e,I2,T,a8,f2,W,⟨m0,w0⟩,turn⟩:=h2;subst e;have a1:∀{H':Hp},(∀b∈fp,H' b=none)->∀b∈fp,FpOk X a0 H' b:=fun hn b hb=>⟨hn b hb,(f2 b hb).2⟩;refine codeAny_forLoop_any (fun n s'=>∃i σ' H',Inv X a0 σ' H' s'/\tn i s'.heap/\(∀b∈fp,H' b=none)/\W i n σ' H') ?_ m0 ⟨0,σ,H2,I2,a8,fun b hb=>(f2 b hb).1,w0⟩;rintro n s3 ⟨i,σ3,H3,I3,a4,a5,w3⟩;rcases turn i n σ3 H3 w3 with ⟨stop,qn⟩ | ⟨go,N,hN,step⟩
 .refine vs1 hp (thn (T.done X rfl rfl rfl hc i a0 s3 σ3 H3 X.xe I3 (a1 a5) a4 stop) fun r s4 ⟨hr,I4⟩=>?_);subst hr;exact wpAny_execs_nil ⟨σ3,H3,I4,qn⟩
 .refine vs1 hp (thn (T.item X rfl rfl rfl hc i a0 s3 σ3 H3 X.xe I3 (a1 a5) a4 go) fun r s4 ⟨u,hr,h4⟩=>?_);subst hr;refine vs1 hp (thn h4 fun _ s5 ⟨x,H5,I5,r5,y5,a3,a7⟩=>?_);have a6:=I5.pinned (a1 a7) (T.obj _ _ a3);refine vs1 hp (thn (hg _ s5 σ3 H5 x u _ a6 r5 (step x H5 y5)) fun _ s6 ⟨σ6,H6,I6,q6⟩=>?_);refine vs1 hp (thn (hb _ s6 σ6 H6 _ I6 q6) fun f s7 q7=>?_);have again:∀{σ7:St}{H7:Hp},Inv X (a0++yf5 fp s5.heap) σ7 H7 s7->N σ7 H7->∃m,m<n/\∃i σ' H',Inv X a0 σ' H' s7/\tn i s7.heap/\(∀b∈fp,H' b=none)/\W i m σ' H':=fun {σ7 H7} I7 n7=>by
   obtain⟨m',hm,w7⟩:=hN σ7 H7 n7;refine⟨m',hm,i+1,σ7,H7,I7.unpinned,T.keep _ _ _ a3 fun b hb o e=>(I7.pin (b,o) (vd4 _ (vd4 _ (zj1 hb e)))).1,fun b hb=>?_,w7⟩;obtain⟨o,e,d⟩:=T.obj _ _ a3 b hb;exact(I7.pin (b,o) (vd4 _ (vd4 _ (zj1 hb e)))).2.1
  cases f with
  | next=>obtain⟨σ7,H7,I7,n7⟩:=q7;exact again I7 n7
  | cont=>obtain⟨σ7,H7,I7,n7⟩:=q7;exact again I7 n7
  | brk=>obtain⟨σ7,H7,I7,q7⟩:=q7;exact⟨σ7,H7,I7.unpinned,q7⟩
  | ret v=>obtain⟨x7,σ7,H7,I7,r7,q7⟩:=q7;exact⟨x7,σ7,H7,I7.unpinned,r7,q7⟩
end
def zm5{K:Fg}{a:Addr}{xs:List V}{g:TG}{tb:TS}{D:Ends}{σ:St}{H:Hp}(Pv:Nat->St->Hp->Prop)(h0:Pv 0 σ H)(hl:∀i σ H,i<=↑xs->Pv i σ H->SqL K H a xs)
  (hs:∀i x σ H,xs[i]?=some x->Pv i σ H->g x σ H fun σ2 H2=>tb {D with nx:=Pv (i+1),ct:=Pv (i+1),bk:=D.nx} σ2 H2) (hd:∀σ H,Pv ↑xs σ H->D.nx σ H):
  ∃W:Nat->Nat->St->Hp->Prop,(∃m,W 0 m σ H)/\∀i m σ H,W i m σ H->
   ((Itl K a).stop i H/\D.nx σ H)\/((Itl K a).go i H/\∃N:St->Hp->Prop,(∀σ' H',N σ' H'->∃m',m'<m/\W (i+1) m' σ' H')/\∀x H',(Itl K a).yld i H x H'->g x σ H' fun σ2 H2=>tb {D with nx:=N,ct:=N,bk:=D.nx} σ2 H2):=by
 exists fun i m σ H=>m=↑xs-i/\i<=↑xs/\Pv i σ H,⟨↑xs,by simp,vc9 _,h0⟩;rintro i m σ H ⟨rfl,hi,p⟩;have q:=hl i σ H hi p
 by_cases a0:i<↑xs
 .refine .inr ⟨⟨xs,xs[i],q,by simp[a0]⟩,Pv (i+1),fun σ' H' p'=>⟨↑xs-(i+1),by lia,rfl,a0,p'⟩,fun x H' y=>?_⟩;obtain⟨e,y⟩:=y;subst e;exact hs i x σ _ (y xs q) p
 .have e:i=↑xs:=by lia
  subst e;exact .inl ⟨⟨xs,q,wz6 _⟩,hd σ H p⟩
def zp2{lo:Int}{n:Nat}{g:TG}{tb:TS}{D:Ends}{σ:St}{H:Hp}(Pv:Nat->St->Hp->Prop)(h0:Pv 0 σ H)
  (hs:∀i σ H,i<n->Pv i σ H->g (.int (lo+i)) σ H fun σ2 H2=>tb {D with nx:=Pv (i+1),ct:=Pv (i+1),bk:=D.nx} σ2 H2) (hd:∀σ H,Pv n σ H->D.nx σ H):
  ∃W:Nat->Nat->St->Hp->Prop,(∃m,W 0 m σ H)/\∀i m σ H,W i m σ H->
   ((Itr lo n).stop i H/\D.nx σ H)\/((Itr lo n).go i H/\∃N:St->Hp->Prop,(∀σ' H',N σ' H'->∃m',m'<m/\W (i+1) m' σ' H')/\∀x H',(Itr lo n).yld i H x H'->g x σ H' fun σ2 H2=>tb {D with nx:=N,ct:=N,bk:=D.nx} σ2 H2):=by
 exists fun i m σ H=>m=n-i/\i<=n/\Pv i σ H,⟨n,by simp,vc9 _,h0⟩;rintro i m σ H ⟨rfl,hi,p⟩
 by_cases a0:i<n
 .refine .inr ⟨a0,Pv (i+1),fun σ' H' p'=>⟨n-(i+1),by lia,rfl,a0,p'⟩,fun x H' y=>?_⟩;obtain⟨e,y⟩:=y;subst e y;exact hs i σ _ a0 p
 .have e:i=n:=by lia
  subst e;exact .inl ⟨wz6 _,hd σ H p⟩
def zt9(Pv:St->Hp->Prop)(μ:St->Hp->Nat)(h0:Pv σ H)(hs:∀σ H,Pv σ H->c σ H fun b H1=>if b=true then tb {D with nx:=fun σ' H'=>Pv σ' H'/\μ σ' H'<μ σ H,ct:=fun σ' H'=>Pv σ' H'/\μ σ' H'<μ σ H,bk:=D.nx} σ H1 else D.nx σ H1)(mono:∀σ H Q Q',(∀b H1,Q b H1->Q' b H1)->c σ H Q->c σ H Q'):wj5 c tb D σ H:=by
 exists fun m σ H=>m=μ σ H/\Pv σ H,⟨_,rfl,h0⟩;rintro m σ H ⟨rfl,p⟩;refine mono σ H _ _ (fun b H1 q=>?_) (hs σ H p);cases b with
 | true=>exact⟨_,fun σ' H' ⟨p',l⟩=>⟨_,l,rfl,p'⟩,q⟩
 | false=>exact q
abbrev R2:=V->V->Hp->VK->Prop
def OpR(X:Cx)(f:Value->Value->Sem Value)(r:R2):Prop:=
 ∀(pins:List (Addr×Obj))(s:Shared)(σ:St)(H:Hp)(x y:V)(v u:Value)(Q:VK),Inv X pins σ H s->RelV x v->RelV y u->r x y H Q->
  wpAny (model X.prog X.w) X.A (f v u) (EP X pins σ Q) X.xe s
def UnR(X:Cx)(f:Value->Sem Value)(r:V->Hp->VK->Prop):Prop:=
 ∀(pins:List (Addr×Obj))(s:Shared)(σ:St)(H:Hp)(x:V)(v:Value)(Q:VK),Inv X pins σ H s->RelV x v->r x H Q->
  wpAny (model X.prog X.w) X.A (f v) (EP X pins σ Q) X.xe s
def CallR(X:Cx)(f:Value)(r:List V->Hp->VK->Prop):Prop:=
 ∀(pins:List (Addr×Obj))(s:Shared)(σ:St)(H:Hp)(xs:List V)(us:List Value)(Q:VK),Inv X pins σ H s->Vals xs us->r xs H Q->
  wpAny (model X.prog X.w) X.A (call f us) (EP X pins σ Q) X.xe s
def tOp(r:R2)(ta tb:TE):TE:=fun σ H Q=>ta σ H fun x H1=>tb σ H1 fun y H2=>r x y H2 Q
def tUn(r:V->Hp->VK->Prop)(ta:TE):TE:=fun σ H Q=>ta σ H fun x H1=>r x H1 Q
def rI(C:Int->Int->Prop)(g:Int->Int->V):R2:=fun x y H Q=>∃i j,x=.int i/\y=.int j/\C i j/\Q (g i j) H
inductive BI0(g:Int->Int->V)(x y:V)(H:Hp)(Q:VK):Prop
 | mk(i j:Int)(h1:x=.int i)(h2:y=.int j)(q:Q (g i j) H):BI0 g x y H Q
def rI0(g:Int->Int->V):R2:=fun x y H Q=>BI0 g x y H Q
def rU(g:Int->V):V->Hp->VK->Prop:=fun x H Q=>∃i,x=.int i/\Q (g i) H
section
variable{a b c:Expr}{ta tb tc:TE}{pos:Pos}
def binT(ha:PE X a ta)(hb:PE X b tb){a0:List (Addr×Obj)}{s:Shared}{σ:St}{H:Hp}{R:V->V->Hp->Prop}(I:Inv X a0 σ H s)
  (h:ta σ H fun x H1=>tb σ H1 fun y H2=>R x y H2) {Q:Vp} {f:Value->Value->Sem Value}
  (hf:∀v u s2 x y H2,Inv X a0 σ H2 s2->RelV x v->RelV y u->R x y H2->wpAny (model X.prog X.w) X.A (f v u) Q X.xe s2):
  wpAny (model X.prog X.w) X.A (eval a X.env) (fun v s₁=>wpAny (model X.prog X.w) X.A (eval b X.env) (fun u s₂=>wpAny (model X.prog X.w) X.A (f v u) Q X.xe s₂) X.xe s₁) X.xe s:=by
 refine thn (ha a0 s σ H _ I h) fun v s1 ⟨x,H1,I1,r1,q1⟩=>?_;refine thn (hb a0 s1 σ H1 _ I1 q1) fun u s2 ⟨y,H2,I2,r2,q2⟩=>?_;exact hf v u s2 x y H2 I2 r1 r2 q2
def zf2{op:Operator}{r:R2}(ho:OpR X (binaryOp op) r)(ha:PE X a ta)(hb:PE X b tb):PE X (.BinOp a op b pos) (tOp r ta tb):=by
 intro a0 s σ H Q I h;exact wpAny_BinOp (binT ha hb I h fun v u s2 x y H2 I2 rx ry q=>ho a0 s2 σ H2 x y v u Q I2 rx ry q)
def yg8{op:UnaryOp}{r:V->Hp->VK->Prop}(ho:UnR X (unaryOp op) r)(ha:PE X a ta):PE X (.UnaryOp op a pos) (tUn r ta):=by
 intro a0 s σ H Q I h;exact UnaryOp_ (thn (ha a0 s σ H _ I h) fun v s1 ⟨x,H1,I1,r1,q1⟩=>ho a0 s1 σ H1 x v Q I1 r1 q1)
def opI{f:Value->Value->Sem Value}{C:Int->Int->Prop}{g:Int->Int->Int}
  (rule:∀(i j:Int)(t u:Tok)(s:Shared)(Q:Vp)(E:Vp),C i j->Q (.int (g i j) s.toks) {s with toks:=s.toks+1}->wpAny (model X.prog X.w) X.A (f (.int i t) (.int j u)) Q E s):
  OpR X f (rI C fun i j=>.int (g i j)):=by
 intro a0 s σ H x y v u Q I rx ry h;obtain⟨i,j,rfl,rfl,hc,q⟩:=h;obtain⟨t,rfl⟩:=rx;obtain⟨t',rfl⟩:=ry;exact rule i j t t' s _ _ hc ⟨.int (g i j),H,I.tok _,⟨_,rfl⟩,q⟩
def opI0{f:Value->Value->Sem Value}{g:Int->Int->Int}
  (rule:∀(i j:Int)(t u:Tok)(s:Shared)(Q:Vp)(E:Vp),Q (.int (g i j) s.toks) {s with toks:=s.toks+1}->wpAny (model X.prog X.w) X.A (f (.int i t) (.int j u)) Q E s):
  OpR X f (rI0 fun i j=>.int (g i j)):=by
 intro a0 s σ H x y v u Q I rx ry h;obtain⟨i,j,rfl,rfl,q⟩:=h;obtain⟨t,rfl⟩:=rx;obtain⟨t',rfl⟩:=ry;exact rule i j t t' s _ _ ⟨.int (g i j),H,I.tok _,⟨_,rfl⟩,q⟩
def opB0{f:Value->Value->Sem Value}{g:Int->Int->Bool}
  (rule:∀(i j:Int)(t u:Tok)(s:Shared)(Q:Vp)(E:Vp),Q (.bool (g i j)) s->wpAny (model X.prog X.w) X.A (f (.int i t) (.int j u)) Q E s):
  OpR X f (rI0 fun i j=>.bl (g i j)):=by
 intro a0 s σ H x y v u Q I rx ry h;obtain⟨i,j,rfl,rfl,q⟩:=h;obtain⟨t,rfl⟩:=rx;obtain⟨t',rfl⟩:=ry;exact rule i j t t' s _ _ ⟨.bl (g i j),H,I,rfl,q⟩
def CDiv(i j:Int):Prop:=0<j/\j<1073741824
def CPow(i j:Int):Prop:=0<=j/\j<=1000000/\i.natAbs<2 ^ 64
def CMul(i j:Int):Prop:=(-(2 ^ 64)<i/\i<2 ^ 64)\/(-(2 ^ 64)<j/\j<2 ^ 64)
def CMul.ok(h:CMul i j):IntMulOk i j:=by
 rcases h with ⟨h1,h2⟩ | ⟨h1,h2⟩
 .exact .of_left (intBits_le_64 h1 h2)
 .exact .of_right (intBits_le_64 h1 h2)
def zm3:OpR X (binaryOp .Add) (rI0 fun i j=>.int (i+j)):=opI0 fun _ _ _ _ _ _ _ q=>add_int q
def zw9:OpR X (binaryOp .Sub) (rI0 fun i j=>.int (i-j)):=opI0 fun _ _ _ _ _ _ _ q=>sub_int q
def yf9:OpR X (binaryOp .Mult) (rI CMul fun i j=>.int (i*j)):=opI fun _ _ _ _ _ _ _ hc q=>mul_int q hc.ok
def yc2:OpR X (binaryOp .FloorDiv) (rI CDiv fun i j=>.int (i / j)):=opI fun i j _ _ _ _ _ hc q=>by
 have h1:(0:Int)<j:=hc.1;have h2:j<1073741824:=hc.2;exact floordiv_int (by lia) (by rw[Int.fdiv_eq_ediv_of_nonneg i (by lia)];exact q) (.inl (PyProof.noPylong_small (by lia)))
def yc0:OpR X (binaryOp .Mod) (rI (fun _ j=>0<j) fun i j=>.int (i % j)):=opI fun i j _ _ _ _ _ hc q=>by
 have h1:(0:Int)<j:=hc;exact mod_int' (by lia) (by rw[Int.fmod_eq_emod_of_nonneg i (by lia)];exact q)
def op_pow:OpR X (binaryOp .Pow) (rI CPow fun i j=>.int (i ^ j.toNat)):=opI fun _ _ _ _ _ _ _ hc q=>pow_int_small hc.1 hc.2.1 hc.2.2 q
def unI{f:Value->Sem Value}{g:Int->Int}
  (rule:∀(i:Int)(t:Tok)(s:Shared)(Q:Vp)(E:Vp),Q (.int (g i) s.toks) {s with toks:=s.toks+1}->wpAny (model X.prog X.w) X.A (f (.int i t)) Q E s):
  UnR X f (rU fun i=>.int (g i)):=by
 intro a0 s σ H x v Q I rx h;obtain⟨i,rfl,q⟩:=h;obtain⟨t,rfl⟩:=rx;exact rule i t s _ _ ⟨.int (g i),H,I.tok _,⟨_,rfl⟩,q⟩
def zq8:UnR X (unaryOp .USub) (rU fun i=>.int (-i)):=unI fun _ _ _ _ _ q=>neg_int q
end
def scal:V->V->Bool
 | .non,.non=>true | .non,.int _=>true | .int _,.non=>true | .non,.bl _=>true | .bl _,.non=>true | .non,.str _=>true | .str _,.non=>true
 | .int _,.int _=>true | .bl _,.bl _=>true | .str _,.str _=>true | .byt _,.byt _=>true
 | .int _,.str _=>true | .str _,.int _=>true | .bl _,.str _=>true | .str _,.bl _=>true
 | _,_=>false
inductive BEq2(x y:V)(H:Hp)(Q:VK):Prop
 | mk(h:scal x y=true)(q:Q (.bl (decide (x=y))) H):BEq2 x y H Q
def rEq:R2:=fun x y H Q=>BEq2 x y H Q
inductive BNe2(x y:V)(H:Hp)(Q:VK):Prop
 | mk(h:scal x y=true)(q:Q (.bl (!decide (x=y))) H):BNe2 x y H Q
def rNe:R2:=fun x y H Q=>BNe2 x y H Q
def xp5:decide (V.int i=V.int j)=(i == j):=by
 rw[vm6];simp
def wh1:decide (V.bl i=V.bl j)=(i == j):=by
 rw[vm6];simp
def xn9:decide (V.str i=V.str j)=(i == j):=by
 rw[vm6];simp
def xs7:decide (V.byt i=V.byt j)=(i.toList == j.toList):=by
 rw[vm6];cases i;cases j;simp
section
variable{a b c:Expr}{ta tb tc:TE}{pos:Pos}
def zf7(I:Inv X pins σ H s)(q:Q (.bl k) H)(e:k=k'):EP X pins σ Q (.bool k') s:=by
 subst e;exact⟨.bl k,H,I,rfl,q⟩
def zn2:OpR X (compareOp .Eq) rEq:=by
 intro a0 s σ H x y v u Q I rx ry h;obtain⟨hs,q⟩:=h;cases x with
 | non=>
  cases rx;cases y with
  | non=>cases ry;exact PySem.EqNone.eq_none_none (zf7 I q (by simp))
  | bl j=>cases ry;exact PySem.EqNone.eq_none_bool (zf7 I q (by simp))
  | int j=>obtain⟨t',rfl⟩:=ry;exact PySem.EqNone.eq_none_int (zf7 I q (by simp))
  | str j=>obtain⟨t',rfl⟩:=ry;exact PySem.EqNone.eq_none_str (zf7 I q (by simp))
  | _=>exact absurd (show false=true from hs) vb6
 | bl i=>
  cases rx;cases y with
  | non=>cases ry;exact PySem.EqNone.eq_bool_none (zf7 I q (by simp))
  | bl j=>cases ry;exact eq_bool (zf7 I q wh1)
  | str j=>obtain⟨t',rfl⟩:=ry;exact PySem.EqMixed.eq_bool_str (zf7 I q (by simp))
  | _=>exact absurd (show false=true from hs) vb6
 | int i=>
  obtain⟨t,rfl⟩:=rx;cases y with
  | non=>cases ry;exact PySem.EqNone.eq_int_none (zf7 I q (by simp))
  | int j=>obtain⟨t',rfl⟩:=ry;exact eq_int (zf7 I q xp5)
  | str j=>obtain⟨t',rfl⟩:=ry;exact PySem.EqMixed.eq_int_str (zf7 I q (by simp))
  | _=>exact absurd (show false=true from hs) vb6
 | str i=>
  obtain⟨t,rfl⟩:=rx;cases y with
  | non=>cases ry;exact PySem.EqNone.eq_str_none (zf7 I q (by simp))
  | bl j=>cases ry;exact PySem.EqMixed.eq_str_bool (zf7 I q (by simp))
  | int j=>obtain⟨t',rfl⟩:=ry;exact PySem.EqMixed.eq_str_int (zf7 I q (by simp))
  | str j=>obtain⟨t',rfl⟩:=ry;exact eq_str (zf7 I q xn9)
  | _=>exact absurd (show false=true from hs) vb6
 | byt i=>
  obtain⟨t,rfl⟩:=rx;cases y with
  | byt j=>obtain⟨t',rfl⟩:=ry;exact PySem.W.eq_bytes (zf7 I q xs7)
  | _=>exact absurd (show false=true from hs) vb6
 | _=>cases y <;> exact absurd (show false=true from hs) vb6
def wv7:OpR X (compareOp .NotEq) rNe:=by
 intro a0 s σ H x y v u Q I rx ry h;obtain⟨hs,q⟩:=h;cases x with
 | non=>
  cases rx;cases y with
  | non=>cases ry;exact PySem.EqNone.ne_none_none (zf7 I q (by simp))
  | bl j=>cases ry;exact PySem.EqNone.ne_none_bool (zf7 I q (by simp))
  | int j=>obtain⟨t',rfl⟩:=ry;exact PySem.EqNone.ne_none_int (zf7 I q (by simp))
  | str j=>obtain⟨t',rfl⟩:=ry;exact PySem.EqNone.ne_none_str (zf7 I q (by simp))
  | _=>exact absurd (show false=true from hs) vb6
 | bl i=>
  cases rx;cases y with
  | non=>cases ry;exact PySem.EqNone.ne_bool_none (zf7 I q (by simp))
  | bl j=>cases ry;exact ne_bool (zf7 I q (vg1 not wh1))
  | str j=>obtain⟨t',rfl⟩:=ry;exact PySem.EqMixed.ne_bool_str (zf7 I q (by simp))
  | _=>exact absurd (show false=true from hs) vb6
 | int i=>
  obtain⟨t,rfl⟩:=rx;cases y with
  | non=>cases ry;exact PySem.EqNone.ne_int_none (zf7 I q (by simp))
  | int j=>obtain⟨t',rfl⟩:=ry;exact ne_int (zf7 I q (vg1 not xp5))
  | str j=>obtain⟨t',rfl⟩:=ry;exact PySem.EqMixed.ne_int_str (zf7 I q (by simp))
  | _=>exact absurd (show false=true from hs) vb6
 | str i=>
  obtain⟨t,rfl⟩:=rx;cases y with
  | non=>cases ry;exact PySem.EqNone.ne_str_none (zf7 I q (by simp))
  | bl j=>cases ry;exact PySem.EqMixed.ne_str_bool (zf7 I q (by simp))
  | int j=>obtain⟨t',rfl⟩:=ry;exact PySem.EqMixed.ne_str_int (zf7 I q (by simp))
  | str j=>obtain⟨t',rfl⟩:=ry;exact ne_str (zf7 I q (vg1 not xn9))
  | _=>exact absurd (show false=true from hs) vb6
 | byt i=>
  obtain⟨t,rfl⟩:=rx;cases y with
  | byt j=>obtain⟨t',rfl⟩:=ry;exact PySem.W.ne_bytes (zf7 I q (vg1 not xs7))
  | _=>exact absurd (show false=true from hs) vb6
 | _=>cases y <;> exact absurd (show false=true from hs) vb6
def xh2:OpR X (compareOp .Lt) (rI0 fun i j=>.bl (decide (i<j))):=opB0 fun _ _ _ _ _ _ _ q=>lt_int q
def yk4:OpR X (compareOp .Gt) (rI0 fun i j=>.bl (decide (j<i))):=opB0 fun _ _ _ _ _ _ _ q=>gt_int q
def op_ge:OpR X (compareOp .GtE) (rI0 fun i j=>.bl (decide (j<=i))):=opB0 fun _ _ _ _ _ _ _ q=>ge_int q
def zd6(b:Expr)(h:op≠.In:=by decide)(h2:op≠.NotIn:=by decide):behindInMarks op b=false:=by
 have e1:(op == CmpOp.In)=false:=by cases op <;> first | rfl | exact absurd rfl h
 have e2:(op == CmpOp.NotIn)=false:=by cases op <;> first | rfl | exact absurd rfl h2
 cases b <;> simp[behindInMarks,e1,e2]
def zn3(ho:OpR X (compareOp op) r)(ha:PE X a ta)(hb:PE X b tb)(hm:behindInMarks op b=false):PE X (.Compare a [op] [b] pos) (tOp r ta tb):=by
 intro a0 s σ H Q I h;exact wpAny_Compare1 (binT ha hb I h fun v u s2 x y H2 I2 rx ry q=>ho a0 s2 σ H2 x y v u Q I2 rx ry q) hm
def zp4(t:TE):TT:=fun σ H Q=>t σ H fun x H1=>BTru x H1 Q
def zc2{op:CmpOp}{r:R2}(ho:OpR X (compareOp op) r)(ha:PE X a ta)(hb:PE X b tb)(hm:behindInMarks op b=false):PT X (.Compare a [op] [b] pos) (zp4 (tOp r ta tb)):=by
 intro a0 s σ H Q I h;refine wpAny_isTrue_Compare1 (thn (ha a0 s σ H _ I h) fun v s1 ⟨x,H1,I1,r1,q1⟩=>thn (hb a0 s1 σ H1 _ I1 q1) fun u s2 ⟨y,H2,I2,r2,q2⟩=>
  thn (ho a0 s2 σ H2 x y v u _ I2 r1 r2 q2) fun c s3 ⟨z,H3,I3,r3,k,e,q3⟩=>?_) hm
 subst e;cases r3;exact vs0 ⟨H3,I3,q3⟩
def zx5:(sizeLine:Nat)<2 ^ 63:=by rw[vs7];decide
def zq2:OpR X (binaryOp .Add) (fun x y H Q=>∃i j,x=.str i/\y=.str j/\↑i+↑j<=sizeLine/\Q (.str (i++j)) H):=by
 intro a0 s σ H x y v u Q I rx ry h;obtain⟨i,j,rfl,rfl,hz,q⟩:=h;obtain⟨t,rfl⟩:=rx;obtain⟨t',rfl⟩:=ry;exact add_str (fun t' tk=>⟨.str (i++j),H,I.tok _,⟨_,rfl⟩,q⟩) hz
def zp8(r:Vals [x] us):∃u,us=[u]/\RelV x u:=by
 cases r with
 | cons r1 r2=>cases r2;exact⟨_,rfl,r1⟩
def vals2(r:Vals [x,y] us):∃u w',us=[u,w']/\RelV x u/\RelV y w':=by
 cases r with
 | cons r1 r2=>
  cases r2 with
  | cons r3 r4=>cases r4;exact⟨_,_,rfl,r1,r3⟩
def wb4:CallR X (.builtin "abs") (fun xs H Q=>∃i,xs=[.int i]/\Q (.int (if i<0 then -i else i)) H):=by
 intro a0 s σ H xs us Q I r h;obtain⟨i,rfl,q⟩:=h;obtain⟨u,rfl,t,rfl⟩:=zp8 r;exact call_abs_int fun u tk=>⟨.int (if i<0 then -i else i),H,I.tok _,⟨_,rfl⟩,q⟩
def xm2(hc:X.calm=true):CallR X (.builtin "max") (fun xs H Q=>∃i j,xs=[.int i,.int j]/\Q (.int (if j > i then j else i)) H):=by
 intro a0 s σ H xs us Q I r h;obtain⟨i,j,rfl,q⟩:=h;obtain⟨u,w',rfl,⟨t,rfl⟩,⟨t',rfl⟩⟩:=vals2 r;refine max_two_ints (I.ok.hd hc) fun h' tk k=>⟨_,H,I.kept k,?_,q⟩
 by_cases hj:j > i
 .rw[vd3 hj,vd3 hj];exact⟨_,rfl⟩
 .rw[vd0 hj,vd0 hj];exact⟨_,rfl⟩
def xq5(hc:X.calm=true):CallR X (.builtin "min") (fun xs H Q=>∃i j,xs=[.int i,.int j]/\Q (.int (if j<i then j else i)) H):=by
 intro a0 s σ H xs us Q I r h;obtain⟨i,j,rfl,q⟩:=h;obtain⟨u,w',rfl,⟨t,rfl⟩,⟨t',rfl⟩⟩:=vals2 r;refine min_two_ints (I.ok.hd hc) fun h' tk k=>⟨_,H,I.kept k,?_,q⟩
 by_cases hj:j<i
 .rw[vd3 hj,vd3 hj];exact⟨_,rfl⟩
 .rw[vd0 hj,vd0 hj];exact⟨_,rfl⟩
def zs7:CallR X (.type "int") (fun xs H Q=>(∃i,xs=[.int i]/\Q (.int i) H)\/∃k,xs=[.bl k]/\Q (.int (if k then 1 else 0)) H):=by
 intro a0 s σ H xs us Q I r h;rcases h with ⟨i,rfl,q⟩ | ⟨k,rfl,q⟩
 .obtain⟨u,rfl,t,rfl⟩:=zp8 r;exact call_int_int ⟨.int i,H,I,⟨_,rfl⟩,q⟩
 .obtain⟨u,rfl,r1⟩:=zp8 r;cases r1;exact call_int_bool ⟨.int (if k then 1 else 0),H,I.tok _,⟨_,rfl⟩,q⟩
end
structure ObjM(h:Heap)(x dx C:Addr)(mA:Str->Option Value):Prop where
 obj:h.get? x=some (PySem.W.instObj C dx)
 ns:h.Ns1 dx mA
 ne:dx≠x
def xt8{h:Heap}{dx:Addr}{mA:Str->Option Value}(n:h.Ns1 dx mA):∃od,h.get? dx=some od/\∀name,PySem.W.lookIn name od=some (mA name):=by
 obtain⟨o,es,ep,ho,hd,hk,_,hm⟩:=n;refine⟨o,ho,fun name=>?_⟩;have e:=hm name;unfold nsFind findBy at e;rw[<-Array.find?_toList]at e;unfold PySem.W.lookIn;rw[hd];dsimp only
 split
 .rename_i y q
  rw[q]at e;exact vg1 some e
 .rename_i q
  rw[q]at e;have a:es.toList.any (·.refKey)=false:=by
   rw[List.any_eq_false];intro y hy;obtain⟨z,t,a0⟩:=hk y (Array.mem_toList_iff.mp hy);simp[DictEntry.refKey,a0]
  have a':¬es.toList.any (·.refKey)=true:=by rw[a];exact vb6
  rw[vd0 a'];exact vg1 some e
def ObjM.look(I:ObjM h x dx C mA):∃od,PySem.W.InstAt h x (PySem.W.instObj C dx) C (some od)/\∀name,PySem.W.lookIn name od=some (mA name):=
 let ⟨od,ho,hl⟩:=xt8 I.ns
 ⟨od,⟨I.obj,rfl,rfl,ho⟩,hl⟩
section
variable{K:Fg}{x dx C f:Addr}{mA:Str->Option Value}{name:Str}{v:Value}
end
def RelO.some_of(r:RelO (some v) o):∃u,o=some u/\RelV v u:=by
 cases o with
 | none=>exact(show False from r).elim
 | some u=>exact⟨u,rfl,r⟩
section
variable{P:Program}{w:World}{H H':Hp}{h h':Heap}{a C dx:Addr}{fs fs':List (Str×V)}
def wt1(hok:HOk P w H h)(e:H a=some (.ins C dx fs)):∃mA,ObjM h a dx C mA/\(∀f,RelO (fs.lookup f) (mA f))/\PySem.Within mA (fs.map (·.1))/\↑fs<=1000/\H dx=some (.own a):=by
 obtain⟨d,z,ne,ob,mA,n,r,q⟩:=(show ObjOk P w H h a (.ins C dx fs) from hok a _ e);exact⟨mA,⟨ob,n,ne⟩,r,q,z,d⟩
end
structure Cls(K:Fg)(C:Addr):Prop where
 pg:PySem.W.plainGet K C Str.empty=true
 hd:PySem.W.hasDictIn K C=true
 po:PySem.W.plainOver K C=true
 sa:PySem.W.findIn K (.ref C) "__setattr__"=some (some (.builtin "object.__setattr__"))
def Cls.get{K:Fg}{C:Addr}(c:Cls K C)(f:Str):PySem.W.plainGet K C f=true:=c.pg
section
variable{pins:List (Addr×Obj)}{σ:St}{H:Hp}{s:Shared}{a C dx:Addr}{fs:List (Str×V)}{f:Str}{v:V}{A:Around}{E:Vp}
end
section
variable{o e value:Expr}{f:Str}{pos pos' tpos:Pos}{ta tv:TE}
end
section
variable{pins:List (Addr×Obj)}{σ:St}{H:Hp}{s:Shared}{A:Around}{E:Vp}{Q:Vp}{c:Value}{b:Bool}
inductive TyOf(K:Fg)(H:Hp):V->Value->Prop where
 | non:TyOf K H .non (.type "NoneType")
 | bl (x:Bool):TyOf K H (.bl x) (.type "bool")
 | int (i:Int):TyOf K H (.int i) (.type "int")
 | str (x:Str):TyOf K H (.str x) (.type "str")
 | flt (x:UInt64):TyOf K H (.flt x) (.type "float")
 | lst {a:Addr} {xs:List V} (e:H a=some (.lst xs)):TyOf K H (.ref a) (.type "list")
 | frz {a:Addr} {o:Obj} {xs:List V} (e:H a=some (.frz o (.lst xs))):TyOf K H (.ref a) (.type "list")
 | tup {a:Addr} {xs:List V} (e:H a=some (.tup xs)):TyOf K H (.ref a) (.type "tuple")
 | dK {a:Addr} {kvs:List (Key×V)} (e:H a=some (.dK kvs)):TyOf K H (.ref a) (.type "dict")
 | dT {a:Addr} {kvs:List (List Key×V)} (e:H a=some (.dT kvs)):TyOf K H (.ref a) (.type "dict")
 | ins {a C dx:Addr} {fs:List (Str×V)} (e:H a=some (.ins C dx fs)) (cl:Cls K C) (ha:PySem.W.findIn K (.ref C) "__class__"=some (some (.builtin "object.__class__")))
   (hn:PySem.W.specialIn K (.builtin "object.__class__") "__get__"=some (some (.builtin "getset_descriptor.__get__"))) (htk:PySem.W.takesIn K (.builtin "object.__class__")=some true)
   (hm:PySem.W.mroIn K C (.type "object")=some true):TyOf K H (.ref a) (.ref C)
def xp2(I:Inv X pins σ H s)(rx:RelV x u)(ty:TyOf X.K H x t)(e:PySem.W.kitOne X.K t c=some b)(h:∀tk,Q (.bool b) {s with toks:=tk}):
  wpAny (model X.prog X.w) A (call (.builtin "isinstance") [u,c]) Q E s:=by
 cases ty with
 | non=>cases (show u=Value.none from rx);exact vk7 PySem.W.kitx_none I.kIn vm7 e (fun z=>nomatch z) h
 | bl y=>cases (show u=Value.bool y from rx);exact vk7 PySem.W.kitx_bool I.kIn vm7 e (fun z=>nomatch z) h
 | int i=>obtain⟨t,q⟩:=(show ∃t,u=Value.int i t from rx);cases q;exact vk7 PySem.W.kitx_int I.kIn vm7 e (fun z=>nomatch z) h
 | str y=>obtain⟨t,q⟩:=(show ∃t,u=Value.str y t from rx);cases q;exact vk7 PySem.W.kitx_str I.kIn vm7 e (fun z=>nomatch z) h
 | flt y=>obtain⟨t,q⟩:=(show ∃t,u=Value.float y t from rx);cases q;exact vk7 PySem.W.kitx_float I.kIn vm7 e (fun z=>nomatch z) h
 | @lst a xs ea=>
  cases (show u=Value.ref a from rx);obtain⟨_,_,n,_,h1⟩:=(show ObjOk X.prog X.w H s.heap a (.lst xs) from I.hok a _ ea);exact vk7 PySem.W.kitx_list I.kIn ⟨_,h1,rfl⟩ e (fun z=>nomatch z) h
 | @frz a ob xs ea=>
  cases (show u=Value.ref a from rx);obtain⟨_,_,_,n,_,h1⟩:=(show ObjOk X.prog X.w H s.heap a (.frz ob (.lst xs)) from I.hok a _ ea);exact vk7 PySem.W.kitx_list I.kIn ⟨_,h1,rfl⟩ e (fun z=>nomatch z) h
 | @tup a xs ea=>
  cases (show u=Value.ref a from rx);obtain⟨_,_,_,p⟩:=(show ObjOk X.prog X.w H s.heap a (.tup xs) from I.hok a _ ea);obtain⟨o,h1,h2,_⟩:=p;exact vk7 PySem.W.kitx_tuple I.kIn ⟨o,h1,h2⟩ e (fun z=>nomatch z) h
 | @dK a kvs ea=>
  cases (show u=Value.ref a from rx);obtain⟨_,_,vs,_,p⟩:=(show ObjOk X.prog X.w H s.heap a (.dK kvs) from I.hok a _ ea);obtain⟨o,es,ep,h1,h2,_⟩:=p;exact vk7 PySem.W.kitx_dict I.kIn ⟨o,h1,h2.1⟩ e (fun z=>nomatch z) h
 | @dT a kvs ea=>
  cases (show u=Value.ref a from rx);obtain⟨_,_,xs,_,o,es,ep,h1,h2,_⟩:=(show ObjOk X.prog X.w H s.heap a (.dT kvs) from I.hok a _ ea);exact vk7 PySem.W.kitx_dict I.kIn ⟨o,h1,h2.1⟩ e (fun z=>nomatch z) h
 | @ins a C dx fs ea cl ha hn htk hm=>
  cases (show u=Value.ref a from rx);obtain⟨mA,O,_⟩:=wt1 I.hok ea;obtain⟨od,J,_⟩:=O.look;exact vk7 (PySem.W.kitx_own (cl.get _) cl.hd ha hn htk hm) I.kIn J e (fun z=>nomatch z) h
end
structure Room(k:Nat)(A:Around):Prop where
 hd:A.handled=none
 dp:A.depth+3*k+5<recursionLimit
 un:A.units+16*k+200<cLine
def Room.deeper(r:Room (k+1) A)(env:Env):Room k (A.deeper env):=
 ⟨r.hd,by have:=r.dp;show A.depth+1+3*k+5<_;lia,by have:=r.un;show A.units+3+16*k+200<_;lia⟩
def Room.in1(r:Room (k+1) A):Room k A.in1:=
 ⟨r.hd,by have:=r.dp;show A.depth+3*k+5<_;lia,by have:=r.un;show A.units+1+16*k+200<_;lia⟩
def Room.depth(r:Room k A):A.depth<recursionLimit:=by have:=r.dp;lia
def Room.units(r:Room k A):A.units+64<cLine:=by have:=r.un;lia
def tNil:TA:=fun _ H Q=>Q [] H
def zc3(ta:TE)(tr:TA):TA:=fun σ H Q=>ta σ H fun x H1=>tr σ H1 fun xs H2=>Q (x::xs) H2
section
variable{e:Expr}{es:List Expr}{te:TE}{t:TA}{pos:Pos}
def zb2:PA X [] tNil:=fun _ _ _ _ H Q I h=>vn1 ⟨[],H,I,.nil,h⟩
def zb0(ha:PE X e te)(hr:PA X es t)(hs:starEach (e::es) X.env=(false,eval e X.env)::starEach es X.env:=by rfl):PA X (e::es) (zc3 te t):=by
 intro pos a0 s σ H Q I h;rw[hs];show wpAny _ _ (spliced ((false,eval e X.env)::backTo pos (starEach es X.env))) _ _ s;refine vj5 (thn (ha a0 s σ H _ I h) fun u s1 ⟨x,H1,I1,r1,q1⟩=>?_);exact thn (hr pos a0 s1 σ H1 _ I1 q1) fun us s2 ⟨xs,H2,I2,r2,q2⟩=>⟨x::xs,H2,I2,.cons r1 r2,q2⟩
inductive BTp(xs:List V)(H:Hp)(Q:VK):Prop
 | mk(h:↑xs<=sizeLine)(q:∀p,H p=none->Q (.ref p) (upd H p (.tup xs))):BTp xs H Q
def tTup(t:TA):TE:=fun σ H Q=>t σ H fun xs H1=>BTp xs H1 Q
inductive BLs(xs:List V)(H:Hp)(Q:VK):Prop
 | mk(h:↑xs<=sizeLine)(q:∀p,H p=none->Q (.ref p) (upd H p (.lst xs))):BLs xs H Q
def tLst(t:TA):TE:=fun σ H Q=>t σ H fun xs H1=>BLs xs H1 Q
def zf1{x1}(h:PA X es t):PE X (.Tuple es x1 pos) (tTup t):=by
 intro a0 s σ H Q I hq;refine wpAny_Tuple_spliced (thn (h pos a0 s σ H _ I hq) fun us s1 ⟨xs,H1,I1,r,z,q⟩=>⟨by rw[<-↑r];exact z,?_⟩);have hf:H1 s1⁻¹=none:=I1.hok.fresh (wz6 _);refine⟨.ref s1⁻¹,upd H1 s1⁻¹ (.tup xs),I1.laid (t':=s1.toks) (fun b u e=>wz3 _ e) (wz6 _) ?_,rfl,q _ hf⟩;exact⟨⟨z,_,vb8 _ rfl,rfl⟩,us,r,⟨_,vb8 _ rfl,rfl,_,rfl⟩⟩
def zd7(h:PA X es t):PE X (.List es pos) (tLst t):=by
 intro a0 s σ H Q I hq;refine wpAny_List_spliced (thn (h pos a0 s σ H _ I hq) fun us s1 ⟨xs,H1,I1,r,z,q⟩=>⟨by rw[<-↑r];exact z,?_⟩);have hf:H1 s1⁻¹=none:=I1.hok.fresh (wz6 _);refine⟨.ref s1⁻¹,upd H1 s1⁻¹ (.lst xs),I1.laid (t':=s1.toks) (fun b u e=>wz3 _ e) (wz6 _) ?_,rfl,q _ hf⟩;exact⟨z,us,0,r,vb8 _ rfl⟩
end
abbrev Sp:=List V->Hp->VK->XK->Prop
abbrev CXT:=List Env->Hp->Shared->XK->Value->Shared->Prop
structure Env0(P:Program)(w:World)(K:Fg)(mg:Str->Option Value)(base:Heap)(A:Around)(outer:List Env)(s:Shared)(H:Hp):Prop where
 frames:A.frames=some outer
 mod:Mod K mg base
 bs:∀b o,base.get? b=some o->s.heap.get? b=some o/\H b=none
 bsz:base.objs.size<=s⁻¹
 funs:s.heap.FunFrames base outer
 frf:∀b∈frs outer,H b=none
 hok:HOk P w H s.heap
 bare:AllBare s.gens
def CE(outer:List Env)(P:Program)(w:World)(H:Hp)(s:Shared)(Q:VK)(u:Value)(s':Shared):Prop:=
 ∃v H',s'.os=s.os/\AllBare s'.gens/\Un (frs outer) [] H H' s.heap s'.heap/\HOk P w H' s'.heap/\RelV v u/\Q v H'
def CR(CX:CXT)(outer:List Env)(P:Program)(w:World)(H:Hp)(s:Shared)(Q:VK)(E:XK)(r:Result)(s':Shared):Prop:=
 match r with
 | .ok (.ret u)=>CE outer P w H s Q u s'
 | .ok _=>False
 | .error e=>CX outer H s E e s'
structure FnOk(P:Program)(w:World)(K:Fg)(mg:Str->Option Value)(base:Heap)(CX:CXT)(k:Nat)(f:Addr)(fd:FuncData)(ps:List Str)(sp:Sp):Prop where
 len:∀vs H Q E,sp vs H Q E->↑vs=↑ps
 run:∀(A:Around)(outer:List Env)(s:Shared)(H:Hp)(args:Args)(us:List Value)(vs:List V)(Q:VK)(E:XK),Room k A->Env0 P w K mg base A outer s H->BindsTo s fd args (ps.zip us)->Vals vs us->sp vs H Q E->
  codeAny (model P w) A (.call (.ref f) args) (CR CX outer P w H s Q E) s
def FnOk.imp{P:Program}{w:World}{K:Fg}{mg:Str->Option Value}{base:Heap}{CX:CXT}{k:Nat}{f:Addr}{fd:FuncData}{ps:List Str}{sp a0:Sp}(F:FnOk P w K mg base CX k f fd ps sp)
  (h:∀vs H Q E,a0 vs H Q E->sp vs H Q E):FnOk P w K mg base CX k f fd ps a0:=
 ⟨fun vs H Q E q=>F.len vs H Q E (h _ _ _ _ q),fun A outer s H args us vs Q E hr he hb hv hs=>F.run A outer s H args us vs Q E hr he hb hv (h _ _ _ _ hs)⟩
def Env0.in1{P:Program}{w:World}{K:Fg}{mg:Str->Option Value}{base:Heap}{A:Around}{outer:List Env}{s:Shared}{H:Hp}(e:Env0 P w K mg base A outer s H):
  Env0 P w K mg base A.in1 outer s H:=⟨e.frames,e.mod,e.bs,e.bsz,e.funs,e.frf,e.hok,e.bare⟩
section
variable{pins:List (Addr×Obj)}{σ:St}{H:Hp}{s s':Shared}
def Inv.env0(I:Inv X pins σ H s):Env0 X.prog X.w X.K X.mg X.base X.A X.stack s H:=
 ⟨I.ok.frames,I.ok.mod,I.bs,vh1 I.ok.bsz I.sz,I.stack,I.stkFree,I.hok,I.bare⟩
def Inv.after(I:Inv X pins σ H s)(h:CE X.stack X.prog X.w H s Q u s'):EP X pins σ Q u s':=by
 obtain⟨v,H',os,bare,un,hok,r,q⟩:=h;obtain⟨hh,g,d,t,a0⟩:=s';obtain rfl:a0=s.os:=os;exact⟨v,H',I.call (h':=hh) (g':=g) (d':=d) (t':=t) (ch:=[]) un hok bare (fun b z=>absurd z (by simp)),r,q⟩
end
def zm8(sp:Sp)(dvs:List V)(E:XK)(t:TA):TE:=fun σ H Q=>t σ H fun vs H1=>sp (vs++dvs) H1 Q E
def Binds(K:Fg)(fd:FuncData)(ps:List Str)(ds:List Value):Prop:=
 ∀(s:Shared)(us:List Value),K.In s.heap->↑(us++ds)=↑ps->BindsTo s fd ⟨us,[]⟩ (ps.zip (us++ds))
def Binds.all{K:Fg}{fd:FuncData}{ps:List Str}(h:∀us:List Value,↑us=↑ps->bindArgs fd ⟨us,[]⟩=pure (ps.zip us)):Binds K fd ps []:=fun s us _ hl=>by
 rw[vh4]at hl ⊢;exact .of_eq (h us hl)
def xv1(CX:CXT)(X:Cx)(E:XK):Prop:=∀(pins:List (Addr×Obj))(σ:St)(H:Hp)(s:Shared)(e:Value)(s':Shared),Inv X pins σ H s->CX X.stack H s E e s'->X.xe e s'
section
variable{CX:CXT}{k:Nat}{f C:Addr}{fd:FuncData}{ps:List Str}{sp:Sp}{dvs:List V}{ds:List Value}{E:XK}{x m:Str}{p pos apos:Pos}{e o:Expr}{es:List Expr}{ta:TE}{t:TA}
def run_fn(F:FnOk X.prog X.w X.K X.mg X.base CX k f fd ps sp)(hr:Room k X.A)(hb:Binds X.K fd ps ds)(hd:Vals dvs ds)(hx:xv1 CX X E)(I:Inv X pins σ H s)(r:Vals vs us)(h:sp (vs++dvs) H Q E):wpAny (model X.prog X.w) X.A (call (.ref f) us) (EP X pins σ Q) X.xe s:=by
 have r2:Vals (vs++dvs) (us++ds):=r.append hd;have hl:↑(us++ds)=↑ps:=by rw[<-↑r2];exact F.len _ _ _ _ h
 refine wpAny_call (codeAny_mono (F.run X.A X.stack s H ⟨us,[]⟩ (us++ds) (vs++dvs) Q E hr I.env0 (hb s us I.kIn hl) r2 h) fun r s' hq=>?_);cases r with
 | error e=>exact hx pins σ H s e s' I hq
 | ok fl=>
  cases fl with
  | ret u=>exact I.after hq
  | next=>exact False.elim hq
  | brk=>exact False.elim hq
  | cont=>exact False.elim hq
def ws3(F:FnOk X.prog X.w X.K X.mg X.base CX k f fd ps sp)(hr:Room k X.A)(hg:Gl X x)(hm:X.mg x=some (.ref f))(hk:PySem.W.keepIn X.K (.ref f)=true)(hb:Binds X.K fd ps ds)(hd:Vals dvs ds)(hx:xv1 CX X E)
  (ha:PA X (e::es) t) (a1:(x == ("__debug__":Str))=false:=by decide) (he:starEach (e::es) X.env=(false,eval e X.env)::starEach es X.env:=by rfl) (a2:(backTo pos (starEach es X.env)).any (·.1)=false:=by rfl):
  PE X (.Call (.Name x p) (e::es) [] pos) (zm8 sp dvs E t):=by
 intro a0 s σ H Q I h;refine vz4 (xn2 I hg hm ?_ a1);refine PySem.W.callWith_K (h₀:=X.base) I.ok.mod.kin hk (thn (ha pos a0 s σ H _ I h) fun us s1 ⟨vs,H1,I1,r,q⟩=>⟨I1.kIn,?_⟩) he a2;exact run_fn F hr hb hd hx I1 r q
end
section
variable{CX:CXT}{k:Nat}{f C:Addr}{fd:FuncData}{ps ks:List Str}{sp:Sp}{E:XK}{x m:Str}{p pos apos kpos:Pos}{e o:Expr}{es:List Expr}{kws:List Keyword}{te ta:TE}{t tk:TA}{nm:Option Str}
variable{g:List Value->List Value->List Value}{gV:List V->List V->List V}
end
structure zd0(N P:List Str)(sc:Scope):Prop where
 kind:sc.kind=.function
 co:sc.isCoroutine=false
 gen:sc.isGenerator=false
 nd:N.Nodup
 pre:N.take P.length=P
 par:∀x∈P,sc.names.lookup x=some .local\/sc.names.lookup x=some .cell
 nofree:∀y∈sc.names,y.2≠.free
def yq0{kindOf:Str->Option NameKind}{x:Str}:∀{binds:List (Str×Value)}{m:Str->Option Value},(∀v,(x,v)∉binds)->bindL kindOf binds m x=m x
 | [],_,_=>rfl
 | (n,v)::r,m,h=>by
  unfold bindL;rw[yq0 fun w hw=>h w (vf6 _ hw)]
  split
  .have:x≠n:=by rintro rfl;exact h v vp1
   simp[this]
  .rfl
def ys4{kindOf:Str->Option NameKind}{x:Str}:∀{binds:List (Str×Value)}{m:Str->Option Value},(∀v,(x,v)∉binds)->bindC kindOf binds m x=m x
 | [],_,_=>rfl
 | (n,v)::r,m,h=>by
  unfold bindC;rw[ys4 fun w hw=>h w (vf6 _ hw)]
  split
  .rfl
  .have:x≠n:=by rintro rfl;exact h v vp1
   simp[this]
def yp8{kindOf:Str->Option NameKind}{x:Str}{v:Value}:∀{P:List Str}{vs:List Value}{i:Nat}{m:Str->Option Value},P.Nodup->P[i]?=some x->vs[i]?=some v->kindOf x=some .local->
  bindL kindOf (P.zip vs) m x=some v
 | [],_,_,_,_,h,_,_=>by simp at h
 | _::_,[],_,_,_,_,h,_=>by simp at h
 | p::P,w::vs,0,m,nd,h1,h2,hk=>by
  simp at h1 h2;subst h1;subst h2;show bindL kindOf ((p,w)::P.zip vs) m p=_;unfold bindL;rw[yq0 fun v hv=>(vh6.mp nd).1 (vv3 hv).1,vd3 hk];simp
 | p::P,w::vs,i+1,m,nd,h1,h2,hk=>by
  show bindL kindOf ((p,w)::P.zip vs) m x=_;unfold bindL;exact yp8 (i:=i) (vh6.mp nd).2 (by simpa using h1) (by simpa using h2) hk
def yt1{kindOf:Str->Option NameKind}{x:Str}{v:Value}:∀{P:List Str}{vs:List Value}{i:Nat}{m:Str->Option Value},P.Nodup->P[i]?=some x->vs[i]?=some v->kindOf x≠some .local->
  bindC kindOf (P.zip vs) m x=some v
 | [],_,_,_,_,h,_,_=>by simp at h
 | _::_,[],_,_,_,_,h,_=>by simp at h
 | p::P,w::vs,0,m,nd,h1,h2,hk=>by
  simp at h1 h2;subst h1;subst h2;show bindC kindOf ((p,w)::P.zip vs) m p=_;unfold bindC;rw[ys4 fun v hv=>(vh6.mp nd).1 (vv3 hv).1,vd0 hk];simp
 | p::P,w::vs,i+1,m,nd,h1,h2,hk=>by
  show bindC kindOf ((p,w)::P.zip vs) m x=_;unfold bindC;exact yt1 (i:=i) (vh6.mp nd).2 (by simpa using h1) (by simpa using h2) hk
def start(N:List Str)(vs:List V):St:=vs.map some++List.replicate (N.length-↑vs) none
def cxOf(CX:CXT)(P:Program)(w:World)(K:Fg)(mg:Str->Option Value)(base:Heap)(N:List Str)(qual:Str)(scope:Scope)(f:Addr)(cd:Value)(A:Around)(outer:List Env)(s:Shared)(H:Hp)(E:XK):Cx where
 prog:=P
 w:=w
 K:=K
 mg:=mg
 base:=base
 A:=A.deeper (envOfC qual scope s⁻¹ f cd)
 N:=N
 s₀:=s
 H₀:=H
 env:=envOfC qual scope s⁻¹ f cd
 outer:=outer
 stack:=envOfC qual scope s⁻¹ f cd::outer
 ex:=[]
 calm:=true
 fn:=fun _=>true
 pn:=[]
 xe:=fun e s'=>wpAny (model P w) (A.deeper (envOfC qual scope s⁻¹ f cd)) (leaving (envOfC qual scope s⁻¹ f cd) e) (fun _ s''=>CX outer H s E e s'') (fun e' s''=>CX outer H s E e' s'') s'
def xb4{sc:Scope}{n:Nat}{x:Str}(h:sc.names.lookup x=some .cell):∃c,(cellsFrom n sc.names []).lookup x=some c:=by
 have q:=PySem.W.cellsFrom_some sc.names n [] (.inl h);exact Option.isSome_iff_exists.mp q
def xv9{CX:CXT}{P:Program}{w:World}{K:Fg}{mg:Str->Option Value}{base:Heap}{N ps:List Str}{qual:Str}{scope:Scope}{f:Addr}{cd:Value}{A:Around}{outer:List Env}{s s1:Shared}{H:Hp}{E:XK}{us:List Value}{vs:List V}
  (S:zd0 N ps scope) (hd:A.handled=none) (e0:Env0 P w K mg base A outer s H) (hl:↑vs=↑ps) (r:Vals vs us)
  (x:InCallC s s⁻¹ (bindL (envOfC qual scope s⁻¹ f cd).kindOf (ps.zip us) fun _=>none) (cellsFrom (s⁻¹+1) scope.names []) (bindC (envOfC qual scope s⁻¹ f cd).kindOf (ps.zip us) fun _=>none) s1):
  Inv (cxOf CX P w K mg base N qual scope f cd A outer s H E) [] (start N vs) H s1:=by
 have a2:↑ps<=N.length:=by have:=vg1 List.length S.pre;rw[vc2]at this;lia
 obtain⟨h1,tk,rfl,hk⟩:=x.done;have a0:∀b:Addr,b∉(cxOf CX P w K mg base N qual scope f cd A outer s H E).ex:=fun b z=>absurd (show b∈([]:List Addr) from z) (by simp)
 exists ⟨e0.mod,S.kind,rfl,rfl,wz6 _,fun y z c h1 h2=>?_,fun y hy=>?_,fun y c _ h=>?_,fun _=>hd,Around.frames_deeper e0.frames,.inr ⟨rfl,rfl⟩,fun b z=>absurd z (a0 b),e0.bs,e0.bsz,fun b _ _=>a0 b,fun b z=>absurd z (a0 b),e0.funs,e0.frf⟩,
  rfl,e0.bare,Un.kept hk,⟨_,x.toInCall.ns,fun i y v h1 h2 h3=>?_⟩,fun y c h=>⟨_,x.cell y c h⟩,e0.hok.fresh (wz6 _),fun y c h=>?_,fun p hp=>absurd (show p∈([]:List (Addr×Obj)) from hp) (by simp),e0.hok.kept hk
 .exact name_of_addr x.apart (vn2 h1) (vn2 h2)
 .have hy:scope.names.lookup y=some .cell\/scope.names.lookup y=some .free:=hy;rcases hy with hy | hy
  .exact xb4 hy
  .exact absurd rfl (S.nofree _ (vn2 hy))
 .exact vb5 (x.above y c (vn2 h))
 .have hi:i<↑vs:=by
   unfold start at h2
   by_cases hi:i<↑vs
   .exact hi
   .rw[vk0 (by simpa using hi)]at h2;rw[List.getElem?_replicate]at h2
    split at h2 <;> cases h2
  have ha:vs[i]?=some v:=by
   unfold start at h2;rw[vh8 (by simpa using hi),wz5]at h2;cases e:vs[i]? with
   | none=>rw[e]at h2;cases h2
   | some a=>rw[e]at h2;cases h2;rfl
  obtain⟨u,hu,rv⟩:=r.get ha;have hp:ps[i]?=some y:=by
   rw[<-S.pre,List.getElem?_take_of_lt (by lia)];exact h1
  have a1:ps.Nodup:=by rw[<-S.pre];exact S.nd.sublist (vq2 _ _)
  exists u,rv;rcases S.par y (vb0 hp)with k | k
  .exact .inl ⟨k,yp8 a1 hp hu k⟩
  .obtain⟨c,e⟩:=xb4 (n:=s⁻¹+1) k;refine .inr ⟨.inl k,c,e,?_⟩;have q:=x.cell y c e;rw[yt1 a1 hp hu (by show scope.names.lookup y≠_;rw[k];decide)]at q;exact q
 .exact e0.hok.fresh (vb5 (x.above y c (vn2 h)))
 .unfold start;show _=N.length;rw[wz4,lqm,List.length_replicate];lia
def fn_of{CX:CXT}{P:Program}{w:World}{K:Fg}{mg:Str->Option Value}{base:Heap}{k:Nat}{f:Addr}{name qual:Str}{params:Arguments}{body:List Stmt}{scope:Scope}{dV kV a3 pm a0 ct oc:Value}{an od:Option Addr}
  {a8:Array (Option Value)} {N ps:List Str} {sp:Sp} (lk:K.lookup f=some ⟨oc,od,.func (PySem.W.fnOf name qual params body scope dV kV a3 pm an a0 ct),a8⟩) (a7:PySem.W.codeIn K a0 qual=true) (S:zd0 N ps scope)
  (len:∀vs H Q E,sp vs H Q E->↑vs=↑ps)
  (a2:∀(A:Around)(outer:List Env)(s:Shared)(H:Hp)(vs:List V)(Q:VK)(E:XK),Room k (A.deeper (envOfC qual scope s⁻¹ f a0))->sp vs H Q E->
   ∃t,PSs (cxOf CX P w K mg base N qual scope f a0 A outer s H E) body t/\t {nx:=fun _ H'=>Q .non H',rt:=Q} (start N vs) H):
  FnOk P w K mg base CX (k+1) f (PySem.W.fnOf name qual params body scope dV kV a3 pm an a0 ct) ps sp:=by
 refine⟨len,fun A outer s H args us vs Q E hr e0 hb r a4=>?_⟩;have hl:=len _ _ _ _ a4;have KX:K.In s.heap:=e0.mod.kin.keeps fun b o e=>(e0.bs b o e).1;have a6:s.heap.NoLimit:=e0.mod.nolimit.keeps fun b o e=>(e0.bs b o e).1;have a1:∀y∈ps.zip us,scope.names.lookup y.1=some .local\/(scope.names.lookup y.1=some .cell/\((cellsFrom (s⁻¹+1) scope.names []).lookup y.1).isSome=true):=fun⟨n,v⟩ hy=>by
  rcases S.par n (vv3 hy).1 with q | q
  .exact .inl q
  .exact .inr ⟨q,PySem.W.cellsFrom_some _ _ _ (.inl q)⟩
 refine codeAny_call_function hr.depth (KX _ _ lk) rfl S.co S.gen rfl (PySem.W.codeRec_of KX a7) (hb _ _ _ _ ?_);refine wpAny_newFunctionEnv_cells S.kind a1 fun env he s1 x=>?_;subst he;refine⟨a6.keeps x.toInCall.keep,codeAny_func ?_⟩;obtain⟨t,ht,hq⟩:=a2 A outer s H vs Q E (hr.deeper _) a4;have I:Inv (cxOf CX P w K mg base N qual scope f a0 A outer s H E) [] (start N vs) H s1:=xv9 S hr.hd e0 hl r x;refine vj4 (ht [] s1 (start N vs) H _ I hq) (fun fl s' hs=>?_) fun e s' hs=>hs;have a5:∀{σ':St}{H':Hp}{v:V}{u:Value},Inv (cxOf CX P w K mg base N qual scope f a0 A outer s H E) [] σ' H' s'->RelV v u->Q v H'->CE outer P w H s Q u s':=
  fun {σ' H' v u} J rv q=>⟨v,H',J.os,J.bare,J.base,J.hok,rv,q⟩
 cases fl with
 | ret u=>
  obtain⟨v,σ',H',J,rv,q⟩:=hs;exact a5 J rv q
 | next=>
  obtain⟨σ',H',J,q⟩:=hs;exact a5 (v:=V.non) (u:=Value.none) J rfl q
 | brk=>
  obtain⟨_,_,_,q⟩:=hs;exact False.elim q
 | cont=>
  obtain⟨_,_,_,q⟩:=hs;exact False.elim q
section
variable{x:Str}{p pos:Pos}{e:Expr}{es:List Expr}{t:TA}{id T:String}{r:List V->Hp->VK->Prop}
def tCB(r:List V->Hp->VK->Prop)(t:TA):TE:=fun σ H Q=>t σ H fun vs H1=>r vs H1 Q
def zc5(hc:CallR X (.builtin id) r)(hg:Gl X x)(hm:X.mg x=none)(hv:bootBuiltins x=some (.builtin id))(ha:PA X (e::es) t)(hn:x≠"__name__":=by decide)(a1:(x == ("__debug__":Str))=false:=by decide)
  (he:starEach (e::es) X.env=(false,eval e X.env)::starEach es X.env:=by rfl) (a2:(backTo pos (starEach es X.env)).any (·.1)=false:=by rfl):PE X (.Call (.Name x p) (e::es) [] pos) (tCB r t):=by
 intro a0 s σ H Q I h;refine vz4 (zr0 I hg hm hv ?_ hn a1);exact PyProof.Rows.callWith_builtin1 (thn (ha pos a0 s σ H _ I h) fun us s1 ⟨vs,H1,I1,r1,q1⟩=>hc a0 s1 σ H1 vs us Q I1 r1 q1) he a2
def zc7(hc:CallR X (.type T) r)(hg:Gl X x)(hm:X.mg x=none)(hv:bootBuiltins x=some (.type T))(ha:PA X (e::es) t)(hn:x≠"__name__":=by decide)(a1:(x == ("__debug__":Str))=false:=by decide)
  (he:starEach (e::es) X.env=(false,eval e X.env)::starEach es X.env:=by rfl) (a2:(backTo pos (starEach es X.env)).any (·.1)=false:=by rfl):PE X (.Call (.Name x p) (e::es) [] pos) (tCB r t):=by
 intro a0 s σ H Q I h;refine vz4 (zr0 I hg hm hv ?_ hn a1);exact vh3 (thn (ha pos a0 s σ H _ I h) fun us s1 ⟨vs,H1,I1,r1,q1⟩=>hc a0 s1 σ H1 vs us Q I1 r1 q1) he a2
end
end L2
namespace HT
open PySem PyProof.Rows
section
open PySem.SeqAt
open PySem.AutoSeq1 (wpAny_loadPart')
open PySem.MeetsSeq PySem.MeetsSeq2 PySem.MeetsSeq3
end
section
variable{prog:Program}{w:World}{A:Around}{E:Vp}{s:Shared}
def ww6(ht:IsTup s.heap t vs.toArray)(hb:IsTup s.heap b ws.toArray)(hv:vs≠[])(h1:ws=[]->Q (.ref t) s)(h2:ws≠[]->Q (.ref s⁻¹) {s with heap:=s.heap.push {cls:=.type "tuple",data:=.seq (vs++ws).toArray}})(hsz:↑vs+↑ws<=sizeLine):wpAny (model prog w) A (binaryOp .Add (.ref t) (.ref b)) Q E s:=by
 obtain⟨⟨cls,dd,data,sl⟩,ho,hc,n,hd⟩:=id ht;obtain⟨⟨a5,a2,data2,a3⟩,a0,a4,n2,a1⟩:=id hb;simp only at hc hd a4 a1;subst hc hd a4 a1;have e:vs.toArray++ws.toArray=(vs++ws).toArray:=by simp
 by_cases hw:ws=[]
 .exact concat_meets ⟨_,ho,rfl⟩ ⟨_,a0,rfl⟩ noFill_tuple_add seq_tuple_add PySem.F.slot_tuple_add PySem.F.entry_tuple_add (PySem.F.args_tuple_add_2 _ _)
   (tuple_addW1 t b vs.toArray ws.toArray n n2 dd a2 sl a3 (by simpa using hv) (by simp[hw])) ⟨ho,a0,h1 hw⟩
 .refine concat_meets ⟨_,ho,rfl⟩ ⟨_,a0,rfl⟩ noFill_tuple_add seq_tuple_add PySem.F.slot_tuple_add PySem.F.entry_tuple_add (PySem.F.args_tuple_add_2 _ _)
   (tuple_addW2 t b vs.toArray ws.toArray n n2 dd a2 sl a3 (by simpa using hv) (by simpa using hw) (by rw[vc0,vc0];exact hsz)) ⟨ho,a0,?_⟩
  rw[e];exact h2 hw
def sIx(n d:Nat):Option Int->Nat
 | none=>d
 | some v=>if v<0 then(v+(n:Int)).toNat else min v.toNat n
def xf4(n d:Nat):sIx n d none=d:=rfl
def yj9(n d k:Nat):sIx n d (some (k:Int))=min k n:=by
 show(if (k:Int)<0 then((k:Int)+(n:Int)).toNat else min (k:Int).toNat n)=min k n;rw[vd0 (by lia),vq3]
def sIx_le(n d:Nat)(hd:d<=n)(o:Option Int):sIx n d o<=n:=by
 cases o with
 | none=>exact hd
 | some v=>
  show(if v<0 then(v+(n:Int)).toNat else min v.toNat n)<=n
  by_cases hv:v<0
  .rw[vd3 hv];lia
  .rw[vd0 hv];exact Nat.min_le_right _ _
def xq2(v:Int)(n d:Nat):(if v<0 then max (v+(n:Int)) 0 else min v (n:Int))=((sIx n d (some v):Nat):Int):=by
 show(if v<0 then max (v+(n:Int)) 0 else min v (n:Int))=(((if v<0 then(v+(n:Int)).toNat else min v.toNat n):Nat):Int)
 by_cases hv:v<0
 .simp only[vd3 hv];lia
 .simp only[vd0 hv];lia
def xg4(lo hi:Option Int)(n:Nat):Builtin.Slice.sliceAdjust lo hi 1 (n:Int)=(((sIx n 0 lo:Nat):Int),((sIx n n hi:Nat):Int)):=by
 have h1:¬((1:Int)<0):=by lia
 unfold Builtin.Slice.sliceAdjust;simp only[h1,vp8];refine Prod.ext ?_ ?_
 .cases lo with
  | none=>rfl
  | some v=>exact xq2 v n 0
 .cases hi with
  | none=>rfl
  | some v=>exact xq2 v n n
def xg6(i j:Nat):Builtin.Slice.slicePlaces (i:Int) (j:Int) 1=j-i:=by
 unfold Builtin.Slice.slicePlaces;have h1:(1:Int) > 0:=by lia
 simp only[h1,if_true,Int.ediv_one]
 split <;> lia
def yg9(p:IsPart v o)(h:Q o s):wpAny (model prog w) A (Builtin.Slice.slicePartIndex v) Q E s:=by
 cases p with
 | none=>exact slicePart_none h
 | int i t=>exact slicePart_int h
def zx9{sl:Addr}{vl vu:Value}{lo hi:Option Int}{n:Nat}{Q:Int×Int×Nat->Shared->Prop}(hs:s.heap.IsSliceOf sl vl vu .none)(pl:IsPart vl lo)(pu:IsPart vu hi)
  (h:Q (((sIx n 0 lo:Nat):Int),1,sIx n n hi-sIx n 0 lo) s):wpAny (model prog w) A (Builtin.Slice.sliceApplied (.ref sl) (pure (n:Int))) Q E s:=by
 obtain⟨os,a1,a2,a0⟩:=id hs;unfold Builtin.Slice.sliceApplied Builtin.Slice.sliceFields;refine zz1 (zz1 (vh0 a1 a0 (x:=vl) rfl (zz1 (vh0 a1 a0 (x:=vu) rfl (zz1 (vh0 a1 a0 (x:=.none) rfl (wz7 ?_)))))));refine zz1 (slicePart_none ?_);show wpAny _ _ (if ((1:Int) == 0)=true then _ else _) _ _ s;rw[vd0 (by decide)];refine zz1 (yg9 pl (zz1 (yg9 pu (zz1 (wz7 ?_)))));show wpAny _ _ (match Builtin.Slice.sliceAdjust lo hi 1 (n:Int)with | (lo,hi)=>pure (lo,(1:Int),Builtin.Slice.slicePlaces lo hi 1)) _ _ s;rw[xg4 lo hi n];show wpAny _ _ (pure (((sIx n 0 lo:Nat):Int),(1:Int),Builtin.Slice.slicePlaces ((sIx n 0 lo:Nat):Int) ((sIx n n hi:Nat):Int) 1)) _ _ s;rw[xg6];exact wz7 h
def wg4(xs:Array Value)(i k:Nat):((List.range k).filterMap fun(m:Nat)=>xs[((i:Int)+(m:Int)*1).toNat]?).toArray=((xs.toList.drop i).take k).toArray:=by
 have e:(fun(m:Nat)=>xs[((i:Int)+(m:Int)*1).toNat]?)=fun m=>xs[i+m]?:=by
  funext m
  have:((i:Int)+(m:Int)*1).toNat=i+m:=by lia
  rw[this]
 rw[e];have:=pick_run xs i k;rw[List.filterMap_map]at this;have e2:((fun x=>xs[x]?)∘fun x=>i+x)=fun m=>xs[i+m]?:=rfl;rw[e2]at this;rw[this]
def zv5{t sl:Addr}{items:Array Value}{vl vu:Value}{lo hi:Option Int}{Q:Vp}(ht:IsTup s.heap t items)(hs:s.heap.IsSliceOf sl vl vu .none)(pl:IsPart vl lo)(pu:IsPart vu hi)
  (hw:¬(sIx items.size 0 lo=0/\sIx items.size items.size hi=items.size))
  (h:Q (.ref s⁻¹) {s with heap:=s.heap.push {cls:=.type "tuple",data:=.seq ((items.toList.drop (sIx items.size 0 lo)).take (sIx items.size items.size hi-sIx items.size 0 lo)).toArray}})
  (hsz:items.size<=sizeLine):wpAny (model prog w) A (getItem (.ref t) (.ref sl)) Q E s:=by
 have a0:sizeOk (.seq ((items.toList.drop (sIx items.size 0 lo)).take (sIx items.size items.size hi-sIx items.size 0 lo)).toArray):=by
  show((items.toList.drop (sIx items.size 0 lo)).take (sIx items.size items.size hi-sIx items.size 0 lo)).toArray.size<=sizeLine;rw[vc0,vc2,vh2,vd7];lia
 have hj:sIx items.size items.size hi<=items.size:=sIx_le _ _ (wz6 _) hi;obtain⟨os,a1,a4,a5⟩:=id hs;have a2:s.TypeIs (.ref sl) "slice":=⟨os,a1,a4⟩;unfold getItem
 try with_reducible refine vg8 ?_
 first | refine zz1 (wz7 ?_) | skip
 refine zz1 (wpAny_sequenceKey ht.typeIs (by decide) ?_);refine zz1 (vg2 (name:=Str.ofString "__getitem__") ht.typeIs vs2
  (vg4 vs2 ht.typeIs entry_tuple_getitem ?_ (args_tuple_getitem _ _)))
 show wpAny _ _ (Builtin.Tuple.tupleItemsOf (.ref t) >>= _) _ _ s;refine zz1 (tupleItemsOf_ ht ?_);refine zz1 (wpAny_typeOf a2 ?_);rw[vd3 (by decide)];refine zz1 (zx9 hs pl pu ?_);have a3:¬((((sIx items.size 0 lo:Nat):Int) == 0 && (1:Int) == 1 && (sIx items.size items.size hi-sIx items.size 0 lo) == items.size)=true):=by
  intro q;rw[vp4,vp4]at q;have q1:((sIx items.size 0 lo:Nat):Int)=0:=eq_of_beq q.1.1;have q2:sIx items.size items.size hi-sIx items.size 0 lo=items.size:=eq_of_beq q.2;exact hw ⟨by lia,by lia⟩
 show wpAny _ _ (if (((sIx items.size 0 lo:Nat):Int) == 0 && (1:Int) == 1 && (sIx items.size items.size hi-sIx items.size 0 lo) == items.size)=true then _ else _) _ _ s;rw[vd0 a3,wg4]
 first
  | exact zz1 (m:=Builtin.Tuple.tupleExact _) (vg5 (wz7 ⟨_,rfl,wz7 h⟩) a0)
  | exact zz1 (m:=Builtin.Tuple.tupleExact _) (vg5 (zz1 (wz7 (wz7 ⟨_,rfl,wz7 h⟩))) a0)
  | exact zz1 (zz1 (m:=Builtin.Tuple.tupleExact _) (vg5 (wz7 (wz7 ⟨_,rfl,wz7 h⟩)) a0))
  | exact zz1 (zz1 (m:=Builtin.Tuple.tupleExact _) (vg5 (wz7 ⟨_,rfl,wz7 h⟩) a0))
end
end HT
namespace L2
open PySem PySem.Spec PyProof.Rows
variable{prog:Program}{w:World}{A:Around}{E:Vp}{s:Shared}
variable{X:Cx}
abbrev TO:=St->Hp->(Option Int->Hp->Prop)->Prop
def PO(X:Cx)(e:Option Expr)(t:TO):Prop:=
 ∀(pins:List (Addr×Obj))(s:Shared)(σ:St)(H:Hp)(Q:Option Int->Hp->Prop),Inv X pins σ H s->t σ H Q->
  wpAny (model X.prog X.w) X.A (evalPart e X.env) (fun u s'=>∃o H',Inv X pins σ H' s'/\IsPart u o/\Q o H') X.xe s
def xp9:TO:=fun _ H Q=>Q none H
def tPart(t:TE):TO:=fun σ H Q=>t σ H fun x H1=>∃i,x=.int i/\Q (some i) H1
section
variable{e:Expr}{te:TE}{lo hi:Option Expr}{tl th:TO}{pos p2:Pos}
def zm9:PO X none xp9:=by
 intro a0 s σ H Q I h;rw[evalPart_none];exact wz7 ⟨none,H,I,.none,h⟩
def zm7(h:PE X e te):PO X (some e) (tPart te):=by
 intro a0 s σ H Q I hw;rw[evalPart_some];refine thn (h a0 s σ H _ I hw) fun u s1 ⟨x,H1,I1,r1,q1⟩=>?_;obtain⟨i,rfl,q⟩:=q1;obtain⟨t,rfl⟩:=r1;exact⟨some i,H1,I1,.int i t,q⟩
def SlR(X:Cx)(r:V->Option Int->Option Int->Hp->VK->Prop):Prop:=
 ∀(pins:List (Addr×Obj))(s:Shared)(σ:St)(H:Hp)(x:V)(v vl vu:Value)(lo hi:Option Int)(sl:Addr)(Q:VK),Inv X pins σ H s->RelV x v->s.heap.IsSliceOf sl vl vu .none->IsPart vl lo->IsPart vu hi->r x lo hi H Q->
  ∃T id,typeLookup (.type T) "__getitem__"=pure (some (.builtin id))/\s.TypeIs v T/\wpAny (model X.prog X.w) X.A (getItem v (.ref sl)) (EP X pins σ Q) X.xe s
def tSl(r:V->Option Int->Option Int->Hp->VK->Prop)(te:TE)(tl th:TO):TE:=fun σ H Q=>te σ H fun x H1=>tl σ H1 fun l H2=>th σ H2 fun u H3=>r x l u H3 Q
def zj9(hr:SlR X r)(he:PE X e te)(hl:PO X lo tl)(hu:PO X hi th):PE X (.Subscript e (.Slice lo hi none p2) pos) (tSl r te tl th):=by
 intro a0 s σ H Q I h;refine Subscript_ (thn (he a0 s σ H _ I h) fun v s1 ⟨x,H1,I1,r1,q1⟩=>?_);refine wpAny_Slice (thn (hl a0 s1 σ H1 _ I1 q1) fun vl s2 ⟨l,H2,I2,pl,q2⟩=>thn (hu a0 s2 σ H2 _ I2 q2) fun vu s3 ⟨u,H3,I3,pu,q3⟩=>?_);rw[evalPart_none];refine wz7 ?_;have I4:Inv X a0 σ H3 {s3 with heap:=s3.heap.push {cls:=.type "slice",data:=.fields #[vl,vu,.none]}}:=I3.kept (t':=s3.toks) fun b ob q=>wz3 _ q;obtain⟨T,id,hT,ht,hg⟩:=hr a0 {s3 with heap:=s3.heap.push {cls:=.type "slice",data:=.fields #[vl,vu,.none]}} σ H3 x v vl vu l u s3⁻¹ Q I4 r1 (Heap.IsSliceOf.new ..) pl pu q3;show wpAny (model X.prog X.w) X.A (subscriptTail e (.Slice lo hi none p2) v (.ref s3⁻¹)) (EP X a0 σ Q) X.xe {s3 with heap:=s3.heap.push {cls:=.type "slice",data:=.fields #[vl,vu,.none]}};exact tail_any (ops:=[.ref s3⁻¹,v]) ht hT hg (by with_unfolding_all rfl)
def cutV(xs:List V)(lo hi:Option Int):List V:=(xs.drop (HT.sIx ↑xs 0 lo)).take (HT.sIx ↑xs ↑xs hi-HT.sIx ↑xs 0 lo)
def yc5(xs:List V)(lo hi:Option Int):↑(cutV xs lo hi)<=↑xs:=by
 unfold cutV;rw[vc2,vh2];lia
def rSlT(K:Fg):V->Option Int->Option Int->Hp->VK->Prop:=fun x lo hi H Q=>∃a xs,x=.ref a/\SqT K H a xs/\
 ¬(HT.sIx ↑xs 0 lo=0/\HT.sIx ↑xs ↑xs hi=↑xs)/\∀p,H p=none->Q (.ref p) (upd H p (.tup (cutV xs lo hi)))
def wh4:SlR X (rSlT X.K):=by
 intro a1 s σ H x v vl vu lo hi sl Q I rx hs pl pu h;obtain⟨a,xs,rfl,hx,hw,q⟩:=h;cases rx;obtain⟨its,r,ht,hz⟩:=I.tuple hx;have a0:its.toArray.size=↑xs:=by rw[vc0];exact r.length.symm
 exists "tuple",_,vs2.lookup,ht.typeIs;refine HT.zv5 ht hs pl pu (by rw[a0];exact hw) ?_ (by rw[a0];exact hz);rw[a0];refine⟨.ref s⁻¹,_,I.laid (t':=s.toks) (o:=.tup (cutV xs lo hi)) (fun b ob q=>wz3 _ q) (wz6 _) ?_,rfl,q _ (I.hok.fresh (wz6 _))⟩;exact⟨⟨vh1 (yc5 xs lo hi) hz,_,vb8 _ rfl,rfl⟩,_,(r.drop (HT.sIx ↑xs 0 lo)).take (HT.sIx ↑xs ↑xs hi-HT.sIx ↑xs 0 lo),IsTup.new _ _⟩
def rCatT(K:Fg):R2:=fun x y H Q=>∃a b xs ys,x=.ref a/\y=.ref b/\SqT K H a xs/\SqT K H b ys/\xs≠[]/\↑xs+↑ys<=sizeLine/\
 (ys=[]->Q (.ref a) H)/\(ys≠[]->∀p,H p=none->Q (.ref p) (upd H p (.tup (xs++ys))))
def Vals.nil_iff(r:Vals xs us):us=[]↔xs=[]:=by
 cases r with
 | nil=>simp
 | cons _ _=>simp
def wq8:OpR X (binaryOp .Add) (rCatT X.K):=by
 intro a1 s σ H x y v u Q I rx ry h;obtain⟨a,b,xs,ys,rfl,rfl,ha,hb,hx,hz,q1,q2⟩:=h;cases rx;cases ry;obtain⟨its,r1,p1,_⟩:=I.tuple ha;obtain⟨a0,r2,p2,_⟩:=I.tuple hb;refine HT.ww6 p1 p2 (fun z=>hx (r1.nil_iff.mp z)) (fun z=>⟨.ref a,H,I,rfl,q1 (r2.nil_iff.mp z)⟩) (fun z=>?_) (by rw[<-↑r1,<-↑r2];exact hz);refine⟨.ref s⁻¹,_,I.laid (t':=s.toks) (o:=.tup (xs++ys)) (fun b ob q=>wz3 _ q) (wz6 _) ?_,rfl,q2 (fun w=>z (r2.nil_iff.mpr w)) _ (I.hok.fresh (wz6 _))⟩;exact⟨⟨by rw[wz4];exact hz,_,vb8 _ rfl,rfl⟩,_,r1.append r2,IsTup.new _ _⟩
end
def ixN(n:Nat)(i:Int):Option Nat:=if 0<=i then(if i<n then some i.toNat else none) else if -(n:Int)<=i then some (i+n).toNat else none
def atI{α:Type}(xs:List α)(i:Int):Option α:=(ixN ↑xs i).bind fun j=>xs[j]?
def xr0(h:ixN n i=some j):seqIndex? i n=some j/\j<n/\-(n:Int)<=i/\i<n:=by
 unfold ixN at h
 by_cases h0:0<=i
 .rw[vd3 h0]at h
  by_cases h1:i<n
  .rw[vd3 h1]at h;have e:i.toNat=j:=vf7 h;exact⟨by rw[seqIndex_of h0 h1,e],by lia,by lia,h1⟩
  .rw[vd0 h1]at h;cases h
 .rw[vd0 h0]at h
  by_cases h1:-(n:Int)<=i
  .rw[vd3 h1]at h;have e:(i+n).toNat=j:=vf7 h;exact⟨by rw[seqIndex_neg (by lia) h1,e],by lia,h1,by lia⟩
  .rw[vd0 h1]at h;cases h
def yt9{α:Type}{xs:List α}{i:Int}{v:α}(h:atI xs i=some v):∃j,seqIndex? i ↑xs=some j/\xs[j]?=some v/\j<↑xs/\-(↑xs:Int)<=i/\i<↑xs:=by
 unfold atI at h;cases e:ixN ↑xs i with
 | none=>rw[e]at h;cases h
 | some j=>
  rw[e]at h;obtain⟨h1,h2,h3,h4⟩:=xr0 e;exact⟨j,h1,h,h2,h3,h4⟩
def zr3{α:Type}{xs:List α}{j:Nat}{v:α}(h:xs[j]?=some v):atI xs (j:Int)=some v:=by
 have hj:j<↑xs:=(wz2.mp h).1;have e:ixN ↑xs (j:Int)=some j:=by
  unfold ixN;rw[vd3 (by lia),vd3 (by lia)];simp
 unfold atI;rw[e];exact h
def yw6(b:Expr):Prop:=∀o i,subscripted b false o i=operate [o,i] (getItem o i)
def IxR(X:Cx)(r:R2):Prop:=
 ∀(value slice:Expr)(pins:List (Addr×Obj))(s:Shared)(σ:St)(H:Hp)(x y:V)(v u:Value)(Q:VK),Inv X pins σ H s->RelV x v->RelV y u->r x y H Q->
  subscripted slice false v u=operate [v,u] (getItem v u)->wpAny (model X.prog X.w) X.A (subscriptTail value slice v u) (EP X pins σ Q) X.xe s
def MtR(X:Cx)(id:String)(r:V->List V->Hp->VK->Prop):Prop:=
 ∀(pins:List (Addr×Obj))(s:Shared)(σ:St)(H:Hp)(x:V)(xs:List V)(v:Value)(us:List Value)(Q:VK),Inv X pins σ H s->RelV x v->Vals xs us->r x xs H Q->
  wpAny (model X.prog X.w) X.A (call (.builtin id) (v::us)) (EP X pins σ Q) X.xe s
section
variable{a b:Expr}{ta tb:TE}{pos:Pos}
def yp4(hr:IxR X r)(ha:PE X a ta)(hb:PE X b tb)(hs:yw6 b):PE X (.Subscript a b pos) (tOp r ta tb):=by
 intro a0 s σ H Q I h;exact Subscript_ (binT ha hb I h fun v u s2 x y H2 I2 rx ry q=>hr a b a0 s2 σ H2 x y v u Q I2 rx ry q (hs _ _))
inductive BIxL(K:Fg)(x y:V)(H:Hp)(Q:VK):Prop
 | mk(p:Addr)(xs:List V)(i:Int)(v:V)(h1:x=.ref p)(h2:y=.int i)(h3:SqL K H p xs)(h4:atI xs i=some v)(q:Q v H):BIxL K x y H Q
def rIxL(K:Fg):R2:=fun x y H Q=>BIxL K x y H Q
inductive BIxT(K:Fg)(x y:V)(H:Hp)(Q:VK):Prop
 | mk(p:Addr)(xs:List V)(i:Int)(v:V)(h1:x=.ref p)(h2:y=.int i)(h3:SqT K H p xs)(h4:atI xs i=some v)(q:Q v H):BIxT K x y H Q
def rIxT(K:Fg):R2:=fun x y H Q=>BIxT K x y H Q
def rIxS:R2:=fun x y H Q=>∃z i c,x=.str z/\y=.int i/\↑z<=sizeLine/\atI z.cps.toList i=some c/\Q (.str ⟨#[c]⟩) H
def wx3:IxR X (rIxL X.K):=by
 intro value slice a0 s σ H x y v u Q I rx ry h hs;obtain⟨p,xs,i,z,rfl,rfl,hq,he,q⟩:=h;cases rx;obtain⟨t,rfl⟩:=ry;obtain⟨its,r,pl,hz⟩:=I.list hq;obtain⟨j,h1,h2,h3,h4,h5⟩:=yt9 he;obtain⟨w,ew,a2⟩:=r.get h2;have hl:=↑r;have hn:=zx5;have a1:EP X a0 σ Q w s:=⟨z,H,I,a2,q⟩
 by_cases h0:0<=i
 .have hj:i.toNat=j:=by
   rw[seqIndex_of h0 h5]at h1;exact vf7 h1
  exact item_listR pl.isList h0 (by lia) (by rw[hj];simpa using ew) a1 hs
 .have hj:(i+(its.toArray.size:Int)).toNat=j:=by
   rw[seqIndex_neg (by lia) h4]at h1;rw[vc0,<-hl];exact vf7 h1
  exact subscriptTail_builtinR (x:=w) pl.isList.typeIs slot_list_getitem.lookup
   (wpAny_getItem_list_neg (Q:=fun r s'=>r=w/\EP X a0 σ Q r s') pl.isList (by lia) (by rw[vc0] <;> lia) (by lia) (by rw[hj];simpa using ew) ⟨rfl,a1⟩) hs
def yr8:IxR X (rIxT X.K):=by
 intro value slice a0 s σ H x y v u Q I rx ry h hs;obtain⟨p,xs,i,z,rfl,rfl,hq,he,q⟩:=h;cases rx;obtain⟨t,rfl⟩:=ry;obtain⟨its,r,pl,hz⟩:=I.tuple hq;obtain⟨j,h1,h2,h3,h4,h5⟩:=yt9 he;obtain⟨w,ew,a1⟩:=r.get h2;have hl:=↑r;have hn:=zx5;have a2:EP X a0 σ Q w s:=⟨z,H,I,a1,q⟩;exact subscriptTail_builtinR (x:=w) pl.typeIs slot_tuple_getitem.lookup
  (getItem_tuple (j:=j) (Q:=fun r s'=>r=w/\EP X a0 σ Q r s') pl (by lia) (by lia) (by rw[vc0,<-hl];exact h1) (by simpa using ew) ⟨rfl,a2⟩) hs
def wg5:IxR X rIxS:=by
 intro value slice a0 s σ H x y v u Q I rx ry h hs;obtain⟨z,i,c,rfl,rfl,hz,he,q⟩:=h;obtain⟨t,rfl⟩:=rx;obtain⟨t',rfl⟩:=ry;obtain⟨j,h1,h2,h3,h4,h5⟩:=yt9 he;have hl:↑z.cps.toList=↑z:=by simp[Str.length]
 rw[hl]at h1 h4 h5;have hn:=zx5;exact tail_any (typeIs_str s z t) slot_str_getitem.lookup (getItem_str (c:=c) (by
  have e1:decide (i < -(2 ^ 63:Int))=false:=vf4 (by lia);have e2:decide (i≥2 ^ 63)=false:=vf4 (by lia);rw[e1,e2,Bool.or_false]) (by rw[h1];simpa using h2) ⟨.str ⟨#[c]⟩,H,I.tok _,⟨_,rfl⟩,q⟩) hs
def xh8(its:List Value)(n j:Nat)(u:Value):Obj.mapSeq (·.setIfInBounds j u) {cls:=.type "list",data:=.seq its.toArray n}={cls:=.type "list",data:=.seq (its.set j u).toArray n}:=by
 simp[Obj.mapSeq]
def Inv.lst(I:Inv X pins σ H s)(h:H p=some (.lst xs)):
  ∃(its:List Value)(n:Nat),Vals xs its/\s.heap.get? p=some {cls:=.type "list",data:=.seq its.toArray n}/\↑xs<=sizeLine:=by
 obtain⟨z,its,n,r,e⟩:=I.hok p _ h;exact⟨its,n,r,e,z⟩
def Inv.lstUpd{a0:List (Addr×Obj)}{σ:St}{H:Hp}{s:Shared}{p:Addr}{xs ys:List V}{its its':List Value}{n n':Nat}{f:Obj->Obj}(I:Inv X a0 σ H s)(h:H p=some (.lst xs))
  (ho:s.heap.get? p=some {cls:=.type "list",data:=.seq its.toArray n}) (hf:f {cls:=.type "list",data:=.seq its.toArray n}={cls:=.type "list",data:=.seq its'.toArray n'}) (r:Vals ys its') (hz:↑ys<=sizeLine) (t:Nat):
  Inv X a0 σ (upd H p (.lst ys)) {s with heap:=s.heap.update p f,toks:=t}:=by
 have e:(s.heap.update p f).get? p=some {cls:=.type "list",data:=.seq its'.toArray n'}:=by
  rw[vj7 f ho (by rw[hf] <;> rfl),hf]
 refine I.write (x:=p) (e:=p) (by rw[h];trivial) (.inl rfl) (fun b u hb q=>(vh9 _ _ (vj3 hb)).trans q) ⟨_,e⟩ ?_;exact⟨hz,its',n',r,e⟩
def rSetL:V->V->V->Hp->(Hp->Prop)->Prop:=fun o i v H Q=>∃p xs k j,o=.ref p/\i=.int k/\H p=some (.lst xs)/\ixN ↑xs k=some j/\Q (upd H p (.lst (xs.set j v)))
def zq1:PSet X rSetL:=by
 intro a0 s σ H o i v ov iv u Q I ro ri rv h;obtain⟨p,xs,k,j,rfl,rfl,hp,hj,q⟩:=h;cases ro;obtain⟨t,rfl⟩:=ri;obtain⟨its,n,r,ho,hz⟩:=I.lst hp;obtain⟨h1,h2,h3,h4⟩:=xr0 hj;have hl:=↑r;have hn:=zx5;have I':Inv X a0 σ (upd H p (.lst (xs.set j v))) {s with heap:=s.heap.update p (Obj.mapSeq (·.setIfInBounds j u))}:=
  I.lstUpd hp ho (xh8 its n j u) (r.set rv j) (by rw[List.length_set];exact hz) s.toks
 by_cases h0:0<=k
 .have hk:k.toNat=j:=by
   rw[seqIndex_of h0 h4]at h1;exact vf7 h1
  exact PySem.W.ki_setAt ho h0 (by lia) (by rw[vc0,<-hl];exact h4) (by rw[hk];exact⟨_,I',q⟩)
 .have hk:(k+(its.toArray.size:Int)).toNat=j:=by
   rw[seqIndex_neg (by lia) h3]at h1;rw[vc0,<-hl];exact vf7 h1
  exact PySem.W.ki_setBack ho (by lia) (by rw[vc0,<-hl];exact h3) (by lia) (by rw[hk];exact⟨_,I',q⟩)
def yq2(lo hi:Option Int)(n:Nat):(sliceBounds lo hi none n).1=((HT.sIx n 0 lo:Nat):Int)/\(sliceBounds lo hi none n).2.1=((HT.sIx n n hi:Nat):Int)/\(sliceBounds lo hi none n).2.2=1:=by
 refine⟨?_,?_,rfl⟩
 .cases lo with
  | none=>simp[sliceBounds,HT.sIx]
  | some i=>
   simp only[sliceBounds,HT.sIx,Option.getD_none,show(1:Int) > 0 by decide,if_true]
   by_cases h:i<0
   .simp only[h,if_true] <;> lia
   .simp only[h,vp8] <;> lia
 .cases hi with
  | none=>simp[sliceBounds,HT.sIx]
  | some i=>
   simp only[sliceBounds,HT.sIx,Option.getD_none,show(1:Int) > 0 by decide,if_true]
   by_cases h:i<0
   .simp only[h,if_true] <;> lia
   .simp only[h,vp8] <;> lia
def ym7(its:List Value)(lo hi:Option Int):slicePick its.toArray lo hi none=((its.drop (HT.sIx ↑its 0 lo)).take (HT.sIx ↑its ↑its hi-HT.sIx ↑its 0 lo)).toArray:=by
 obtain⟨h1,h2,h3⟩:=yq2 lo hi its.toArray.size;unfold slicePick;rw[h1,h2,h3];simp only[sliceRange_one,pick_run,vc0] <;> rfl
def rSlL(K:Fg):V->Option Int->Option Int->Hp->VK->Prop:=fun x lo hi H Q=>∃a xs,x=.ref a/\SqL K H a xs/\∀p,H p=none->Q (.ref p) (upd H p (.lst (cutV xs lo hi)))
def zv4:SlR X (rSlL X.K):=by
 intro a1 s σ H x v vl vu lo hi sl Q I rx hs pl pu h;obtain⟨a,xs,rfl,hx,q⟩:=h;cases rx;obtain⟨its,r,ht,hz⟩:=I.list hx;have a0:=↑r;exists "list",_,slot_list_getitem.lookup,ht.isList.typeIs;refine wpAny_getItem_list_slice ht.isList hs pl pu .none (by simp) ?_ (by rw[vc0] <;> lia);rw[ym7,<-a0];refine⟨.ref s⁻¹,_,I.laid (t':=s.toks) (o:=.lst (cutV xs lo hi)) (fun b ob q=>wz3 _ q) (wz6 _) ?_,rfl,q _ (I.hok.fresh (wz6 _))⟩;exact⟨vh1 (yc5 xs lo hi) hz,_,0,(r.drop (HT.sIx ↑xs 0 lo)).take (HT.sIx ↑xs ↑xs hi-HT.sIx ↑xs 0 lo),vb8 _ rfl⟩
def yc9:V->Bool
 | .non=>true
 | .bl _=>true
 | .int _=>true
 | .str _=>true
 | _=>false
def eqV:V->V->Bool
 | .non,.non=>true
 | .bl a,.bl b=>a == b
 | .bl a,.int b=>(if a then 1 else 0) == b
 | .int a,.bl b=>a == (if b then 1 else 0)
 | .int a,.int b=>a == b
 | .str a,.str b=>a == b
 | _,_=>false
def eqAt_V(ry:RelV y u)(rx:RelV x v)(fy:yc9 y=true)(fx:yc9 x=true):SeqAt.EqAt A s u v (eqV y x):=by
 cases y with
 | non=>
  cases ry;cases x with
  | non=>cases rx;exact SeqAt.EqAt.same _
  | bl b=>cases rx;exact SeqAt.EqAt.none_bool b
  | int b=>obtain⟨t,rfl⟩:=rx;exact SeqAt.EqAt.none_int b t
  | str b=>obtain⟨t,rfl⟩:=rx;exact SeqAt.EqAt.none_str b t
  | _=>exact absurd (show false=true from fx) vb6
 | bl a=>
  cases ry;cases x with
  | non=>cases rx;exact SeqAt.EqAt.bool_none a
  | bl b=>cases rx;exact SeqAt.EqAt.bool_bool a b
  | int b=>obtain⟨t,rfl⟩:=rx;exact SeqAt.EqAt.bool_int a b t
  | str b=>obtain⟨t,rfl⟩:=rx;exact SeqAt.EqAt.bool_str a b t
  | _=>exact absurd (show false=true from fx) vb6
 | int a=>
  obtain⟨t',rfl⟩:=ry;cases x with
  | non=>cases rx;exact SeqAt.EqAt.int_none a t'
  | bl b=>cases rx;exact SeqAt.EqAt.int_bool a t' b
  | int b=>obtain⟨t,rfl⟩:=rx;exact SeqAt.EqAt.int_int a t' b t
  | str b=>obtain⟨t,rfl⟩:=rx;exact SeqAt.EqAt.int_str a t' b t
  | _=>exact absurd (show false=true from fx) vb6
 | str a=>
  obtain⟨t',rfl⟩:=ry;cases x with
  | non=>cases rx;exact SeqAt.EqAt.str_none a t'
  | bl b=>cases rx;exact SeqAt.EqAt.str_bool a t' b
  | int b=>obtain⟨t,rfl⟩:=rx;exact SeqAt.EqAt.str_int a t' b t
  | str b=>obtain⟨t,rfl⟩:=rx;exact SeqAt.EqAt.str_str a t' b t
  | _=>exact absurd (show false=true from fx) vb6
 | _=>exact absurd (show false=true from fy) vb6
def eqU(x:V)(u:Value):Bool:=match u with
 | .none=>eqV .non x
 | .bool b=>eqV (.bl b) x
 | .int i _=>eqV (.int i) x
 | .str z _=>eqV (.str z) x
 | _=>false
def wh2(r:RelV y u)(f:yc9 y=true):eqU x u=eqV y x:=by
 cases y with
 | non=>cases r;rfl
 | bl b=>cases r;rfl
 | int i=>obtain⟨t,rfl⟩:=r;rfl
 | str z=>obtain⟨t,rfl⟩:=r;rfl
 | _=>exact absurd (show false=true from f) vb6
def yg3:∀{xs:List V}{us:List Value},Vals xs us->xs.all yc9=true->us.any (eqU x)=xs.any fun y=>eqV y x
 | _,_,.nil,_=>rfl
 | y::xs,u::us,.cons r t,f=>by
  rw[List.all_cons,vp4]at f;rw[vz5,vz5,wh2 r f.1,yg3 t f.2]
def zs0(rx:RelV x v)(fx:yc9 x=true):∀{xs:List V}{us:List Value},Vals xs us->xs.all yc9=true->∀u∈us,SeqAt.EqAt A s u v (eqU x u)
 | _,_,.nil,_=>fun u hu=>by cases hu
 | y::xs,u::us,.cons r t,f=>fun u' hu=>by
  rw[List.all_cons,vp4]at f;rcases vb4.mp hu with rfl | hu
  .rw[wh2 r f.1];exact eqAt_V r rx f.1 fx
  .exact zs0 rx fx t f.2 u' hu
def inV(x:V)(xs:List V):Bool:=xs.any fun y=>eqV y x
inductive BIn(K:Fg)(neg:Bool)(x y:V)(H:Hp)(Q:VK):Prop
 | mk(p:Addr)(xs:List V)(h1:y=.ref p)(h2:SqL K H p xs\/SqT K H p xs)(h3:yc9 x=true)(h4:xs.all yc9=true)(q:Q (.bl (if neg then !inV x xs else inV x xs)) H):BIn K neg x y H Q
def rIn(K:Fg)(neg:Bool):R2:=fun x y H Q=>BIn K neg x y H Q
def zg4:OpR X (compareOp .In) (rIn X.K false):=by
 intro a0 s σ H x y v u Q I rx ry h;obtain⟨p,xs,rfl,hq,fx,fs,q⟩:=h;cases ry;rcases hq with hq | hq
 .obtain⟨its,r,pl,hz⟩:=I.list hq;refine SeqAt.in_listAt (eqU x) pl.isList (fun w hw=>zs0 rx fx r fs w (by simpa using hw)) ⟨.bl _,H,I,rfl,?_⟩;rw[show its.toArray.any (eqU x)=its.any (eqU x) by simp,yg3 r fs];exact q
 .obtain⟨its,r,pl,hz⟩:=I.tuple hq;refine SeqAt.in_tupleAt (eqU x) pl (fun w hw=>zs0 rx fx r fs w (by simpa using hw)) ⟨.bl _,H,I,rfl,?_⟩;rw[show its.toArray.any (eqU x)=its.any (eqU x) by simp,yg3 r fs];exact q
def zp3:OpR X (compareOp .NotIn) (rIn X.K true):=by
 intro a0 s σ H x y v u Q I rx ry h;obtain⟨p,xs,rfl,hq,fx,fs,q⟩:=h;cases ry;rcases hq with hq | hq
 .obtain⟨its,r,pl,hz⟩:=I.list hq;refine SeqAt.notIn_listAt (eqU x) pl.isList (fun w hw=>zs0 rx fx r fs w (by simpa using hw)) ⟨.bl _,H,I,rfl,?_⟩;rw[show its.toArray.any (eqU x)=its.any (eqU x) by simp,yg3 r fs];exact q
 .obtain⟨its,r,pl,hz⟩:=I.tuple hq;refine SeqAt.notIn_tupleAt (eqU x) pl (fun w hw=>zs0 rx fx r fs w (by simpa using hw)) ⟨.bl _,H,I,rfl,?_⟩;rw[show its.toArray.any (eqU x)=its.any (eqU x) by simp,yg3 r fs];exact q
def zd5:CallR X (.builtin "len") (fun xs H Q=>∃p ys,xs=[.ref p]/\(SqL X.K H p ys\/SqT X.K H p ys)/\Q (.int ↑ys) H):=by
 intro a1 s σ H xs us Q I r h;obtain⟨p,ys,rfl,hq,q⟩:=h;obtain⟨u,rfl,rx⟩:=zp8 r;cases rx;have hn:=zx5;rcases hq with hq | hq
 .obtain⟨its,r',pl,hz⟩:=I.list hq;have a0:=↑r';exact Calls.call_len_list pl.isList (by simp only[vc0] <;> lia) ⟨.int ↑ys,H,I.tok _,⟨s.toks+1,by rw[vc0,a0]⟩,q⟩
 .obtain⟨its,r',pl,hz⟩:=I.tuple hq;have a0:=↑r';exact len_tuple pl (by simp only[vc0] <;> lia) ⟨.int ↑ys,H,I.tok _,⟨s.toks+1,by rw[vc0,a0]⟩,q⟩
def yr0:CallR X (.builtin "len") (fun xs H Q=>∃z,xs=[.str z]/\↑z<=sizeLine/\Q (.int ↑z) H):=by
 intro a0 s σ H xs us Q I r h;obtain⟨z,rfl,hz,q⟩:=h;obtain⟨u,rfl,t,rfl⟩:=zp8 r;have hn:=zx5;exact len_str (by lia) ⟨.int ↑z,H,I.tok _,⟨_,rfl⟩,q⟩
def yq7:CallR X (.type "list") (fun xs H Q=>∃p ys,xs=[.ref p]/\(SqL X.K H p ys\/SqT X.K H p ys)/\∀l,H l=none->Q (.ref l) (upd H l (.lst ys))):=by
 intro a1 s σ H xs us Q I r h;obtain⟨p,ys,rfl,hq,q⟩:=h;obtain⟨u,rfl,rx⟩:=zp8 r;cases rx;have a2:∀(its:List Value),Vals ys its->↑ys<=sizeLine->∀(h':Heap)(c':Nat),(∀b o',s.heap.get? b=some o'->h'.get? b=some o')->
   h'.get? s⁻¹=some {cls:=.type "list",dict:=none,data:=.seq its.toArray c',slots:=#[]}->EP X a1 σ Q (.ref s⁻¹) {s with heap:=h'}:=fun its r' hz h' c' kp e=>
  ⟨.ref s⁻¹,_,I.laid (t':=s.toks) kp (wz6 _) (show ObjOk X.prog X.w _ h' _ (.lst ys) from ⟨hz,its,c',r',e⟩),rfl,q _ (I.hok.fresh (wz6 _))⟩
 rcases hq with hq | hq
 .obtain⟨its,r',pl,hz⟩:=I.list hq;have a0:=↑r';obtain⟨o,ho,hc,n,hd⟩:=pl.isList;exact call_list_seq p (.inl rfl) ho hc hd (fun h' c' kp e=>a2 its r' hz h' c' kp e) (by simp only[vc0] <;> lia)
 .obtain⟨its,r',pl,hz⟩:=I.tuple hq;have a0:=↑r';obtain⟨o,ho,hc,n,hd⟩:=pl;exact call_list_seq p (.inr rfl) ho hc hd (fun h' c' kp e=>a2 its r' hz h' c' kp e) (by simp only[vc0] <;> lia)
def zc8:CallR X (.type "tuple") (fun xs H Q=>∃p ys,xs=[.ref p]/\((SqL X.K H p ys/\∀l,H l=none->Q (.ref l) (upd H l (.tup ys)))\/(SqT X.K H p ys/\Q (.ref p) H))):=by
 intro a0 s σ H xs us Q I r h;obtain⟨p,ys,rfl,h⟩:=h;obtain⟨u,rfl,rx⟩:=zp8 r;cases rx;rcases h with ⟨hq,q⟩ | ⟨hq,q⟩
 .obtain⟨its,r',pl,hz⟩:=I.list hq;have a1:=↑r';refine call_tuple_list pl.isList (fun h' kp=>?_) (by simp only[vc0] <;> lia);have I1:Inv X a0 σ H {s with heap:=h'}:=I.kept (t':=s.toks) kp;have I2:Inv X a0 σ (upd H h'.objs.size (.tup ys)) {s with heap:=h'.push {cls:=.type "tuple",data:=.seq its.toArray}}:=
   I1.laid (t':=s.toks) (fun b o e=>wz3 _ e) (wz6 _) (show ObjOk X.prog X.w _ _ _ (.tup ys) from ⟨⟨hz,_,vb8 _ rfl,rfl⟩,its,r',IsTup.new _ _⟩)
  exact⟨.ref h'.objs.size,_,I2,rfl,q _ (I1.hok.fresh (wz6 _))⟩
 .obtain⟨its,r',pl,hz⟩:=I.tuple hq;exact call_tuple_same pl ⟨.ref p,H,I,rfl,q⟩
def tyV(K:Fg)(T:String)(x:V)(H:Hp):Prop:=match x with
 | .str _=>T="str"
 | .int _=>T="int"
 | .ref p=>(T="list"/\∃xs,SqL K H p xs)\/(T="tuple"/\∃o,K.lookup p=some o/\o.cls=.type "tuple"/\o.dict=none)\/
   (T="dict"/\((∃kvs,H p=some (.dK kvs))\/∃kvs,H p=some (.dT kvs)))\/(T="set"/\∃S n,H p=some (.set S n))
 | _=>False
def tyV_is(I:Inv X pins σ H s)(r:RelV x v)(ty:tyV X.K T x H):
  s.TypeIs v T/\∀a,v=.ref a->∃ob,s.heap.get? a=some ob/\ob.dict=none:=by
 cases x with
 | str z=>
  obtain⟨t,rfl⟩:=r;cases (show T="str" from ty);exact⟨typeIs_str s z t,fun _ e=>nomatch e⟩
 | int i=>
  obtain⟨t,rfl⟩:=r;cases (show T="int" from ty);exact⟨typeIs_int s i t,fun _ e=>nomatch e⟩
 | ref p=>
  cases r;rcases ty with ⟨rfl,xs,hq⟩ | ⟨rfl,o,hk,hc,hd⟩ | ⟨rfl,hk⟩ | ⟨rfl,S,n,hk⟩
  .obtain⟨its,_,pl,_⟩:=I.list hq;refine⟨pl.isList.typeIs,fun a e=>?_⟩;cases e;obtain⟨o,n,e,c,hd,_⟩:=pl;exact⟨o,e,hd⟩
  .refine⟨⟨o,I.kIn p o hk,hc⟩,fun a e=>?_⟩;cases e;exact⟨o,I.kIn _ o hk,hd⟩
  .have z:∃o,s.heap.get? p=some o/\o.ExactDict:=by
    rcases hk with ⟨kvs,hk⟩ | ⟨kvs,hk⟩
    .obtain⟨_,_,_,_,o,_,_,e,ex,_⟩:=I.hok p _ hk;exact⟨o,e,ex⟩
    .obtain⟨_,_,_,_,o,_,_,e,ex,_⟩:=I.hok p _ hk;exact⟨o,e,ex⟩
   obtain⟨o,e,ex⟩:=z;refine⟨⟨o,e,ex.1⟩,fun a e2=>?_⟩;cases e2;exact⟨o,e,ex.2.1⟩
  .obtain⟨o,_,_,_,e,ex,_⟩:=I.hok p _ hk;refine⟨⟨o,e,ex.1⟩,fun a e2=>?_⟩;cases e2;exact⟨o,e,ex.2.1⟩
 | _=>exact False.elim ty
inductive BBm(K:Fg)(T:String)(r:V->List V->Hp->VK->Prop)(t:TA)(x:V)(σ:List (Option V))(H:Hp)(Q:VK):Prop
 | mk(h:tyV K T x H)(q:t σ H fun xs H2=>r x xs H2 Q):BBm K T r t x σ H Q
def tBM(K:Fg)(T:String)(r:V->List V->Hp->VK->Prop)(to:TE)(t:TA):TE:=fun σ H Q=>to σ H fun x H1=>BBm K T r t x σ H1 Q
variable{o e:Expr}{es:List Expr}{to:TE}{t:TA}{name:Str}{apos cpos:Pos}{T id:String}{r:V->List V->Hp->VK->Prop}
def zk8(pa:PlainAttrs T)(slot:Slot T name id)(a5:typeOf (.builtin id)=pure (.type "method_descriptor"))(hm:MtR X id r)(ho:PE X o to)(ha:PA X (e::es) t)
  (a3:attributeBase o name X.env (eval o X.env)=eval o X.env:=by rfl)
  (a4:((backTo cpos (starEach (e::es) X.env)).all (fun x=>!x.1) && (backToKw cpos (keywordEach [] X.env)).all (fun x=>x.1.isSome)
   && decide (↑(e::es)+↑([]:List Keyword)+(if ([]:List Keyword).isEmpty then 0 else 1)<30))=true:=by rfl)
  (a2:(apos.endLine == cpos.line)=true:=by rfl) (hs:starEach (e::es) X.env=(false,eval e X.env)::starEach es X.env:=by rfl) (a1:(backTo cpos (starEach es X.env)).any (·.1)=false:=by rfl):
  PE X (.Call (.Attribute o name apos) (e::es) [] cpos) (tBM X.K T r to t):=by
 intro a0 s σ H Q I h;refine wpAny_Call_method_late a3 a4 a2 rfl (thn (ho a0 s σ H _ I h) fun v s1 ⟨x,H1,I1,r1,ty,q1⟩=>?_);obtain⟨h1,h2⟩:=tyV_is I1 r1 ty;exists T,id,pa,slot,a5,h1,h2;have hA:=ha cpos a0 s1 σ H1 _ I1 q1;rw[hs]at hA ⊢;refine vk5 (by show(false || (backTo cpos (starEach es X.env)).any (·.1))=false;rw[a1] <;> rfl) (vm8 ?_);exact thn hA fun us s2 ⟨vs,H2,I2,r2,q2⟩=>hm a0 s2 σ H2 x vs v us Q I2 r1 r2 q2
end
def MtM(X:Cx)(id:String)(r:V->List V->Hp->VK->Prop):Prop:=
 ∀(pins:List (Addr×Obj))(s:Shared)(σ:St)(H:Hp)(x:V)(xs:List V)(v:Value)(us:List Value)(Q:VK),Inv X pins σ H s->RelV x v->Vals xs us->r x xs H Q->
  wpAny (model X.prog X.w) X.A (call (.builtin id) (v::us)) (EP X pins σ Q) X.xe s
def Vals.one:∀{x:V}{us:List Value},Vals [x] us->∃u,us=[u]/\RelV x u
 | _,_,.cons r .nil=>⟨_,rfl,r⟩
def Vals.eraseIdx:∀{xs:List V}{us:List Value}(i:Nat),Vals xs us->Vals (xs.eraseIdx i) (us.eraseIdx i)
 | _,_,_,.nil=>.nil
 | _,_,0,.cons _ t=>t
 | _,_,i+1,.cons r t=>.cons r (Vals.eraseIdx i t)
def Vals.reverse(h:Vals xs us):Vals xs.reverse us.reverse:=by
 induction h with
 | nil=>exact .nil
 | cons r t ih=>rw[List.reverse_cons,List.reverse_cons];exact Vals.append ih (.cons r .nil)
def Vals.rep(h:Vals xs us):∀k:Nat,Vals (List.replicate k xs).flatten (List.replicate k us).flatten
 | 0=>.nil
 | k+1=>by
  rw[vs8,vs8,ub5,ub5];exact Vals.append h (Vals.rep h k)
def ys2{α:Type}:∀(l:List α)(i:Nat),↑(l.eraseIdx i)<=↑l
 | [],_=>wz6 _
 | _::_,0=>Nat.le_succ _
 | _::r,i+1=>Nat.succ_le_succ (ys2 r i)
def ys3(its:List Value):∀(k:Nat)(a0:List Value),
  List.foldl (fun x1 x2=>x1++x2) a0.toArray (List.replicate k its.toArray)=(a0++(List.replicate k its).flatten).toArray
 | 0,a0=>by simp
 | k+1,a0=>by
  have e:a0.toArray++its.toArray=(a0++its).toArray:=by simp
  have e2:(a0++its)++(List.replicate k its).flatten=a0++(List.replicate (k+1) its).flatten:=by
   rw[vs8,ub5,vd8]
  rw[<-e2,<-ys3 its k (a0++its),<-e,vs8,List.foldl_cons]
section
variable{pins:List (Addr×Obj)}{σ:St}{H:Hp}{s:Shared}{l b:Addr}{xs ys zs:List V}
def Inv.lset{its its':List Value}{n:Nat}{f:Array Value->Array Value}{t':Nat}(I:Inv X pins σ H s)(hH:H l=some (.lst xs))
  (e:s.heap.get? l=some {cls:=.type "list",data:=.seq its.toArray n}) (hf:f its.toArray=its'.toArray) (hv:Vals ys its') (hz:↑ys<=sizeLine):
  Inv X pins σ (upd H l (.lst ys)) {s with heap:=s.heap.update l (Obj.mapSeq f),toks:=t'}:=by
 have q:=PySem.IsL.update e f;rw[hf]at q;refine I.write (x:=l) (e:=l) (by rw[hH];exact trivial) (.inl rfl) (fun b' u hb hu=>(vh9 s.heap (Obj.mapSeq f) (vj3 hb)).trans hu) ⟨_,q⟩ ?_;exact⟨hz,its',_,hv,q⟩
def Inv.lnew(I:Inv X pins σ H s)(hv:Vals ys its)(hz:↑ys<=sizeLine):
  Inv X pins σ (upd H s⁻¹ (.lst ys)) {s with heap:=s.heap.push {cls:=.type "list",data:=.seq its.toArray},toks:=t'}:=
 I.laid (fun _ _ q=>wz3 _ q) (wz6 _) ⟨hz,its,0,hv,vb8 _ rfl⟩
def Inv.fresh(I:Inv X pins σ H s):H s⁻¹=none:=I.hok.fresh (wz6 _)
def Inv.lstM(I:Inv X pins σ H s)(hH:H l=some (.lst xs)):↑xs<=sizeLine/\∃(its:List Value)(n:Nat),Vals xs its/\↑xs=↑its/\s.heap.get? l=some {cls:=.type "list",data:=.seq its.toArray n}:=by
 obtain⟨z,its,n,r,e⟩:=I.hok l _ hH;exact⟨z,its,n,r,↑r,e⟩
def yz4(h:n<=sizeLine):Builtin.List.listTooLong n=false:=by
 unfold Builtin.List.listTooLong;exact vf4 (by lia)
end
inductive BApp(x:V)(vs:List V)(H:Hp)(Q:VK):Prop
 | mk(l:Addr)(xs:List V)(y:V)(h1:x=.ref l)(h2:vs=[y])(h3:H l=some (.lst xs))(h4:↑xs<sizeLine)(q:Q .non (upd H l (.lst (xs++[y])))):BApp x vs H Q
def zw0:V->List V->Hp->VK->Prop:=fun x vs H Q=>BApp x vs H Q
def zd8:MtM X "list.append" zw0:=by
 intro a0 s σ H x vs v us Q I rx rv h;obtain⟨l,xs,y,rfl,rfl,hH,hz,q⟩:=h;cases rx;obtain⟨u,rfl,ru⟩:=rv.one;obtain⟨z,its,n,r,hl,e⟩:=I.lstM hH;refine call_meets F.slot_list_append ⟨_,e,rfl⟩ F.entry_list_append (F.args_list_append_2 _ _) (PySem.list_append l its.toArray n u (by rw[vc0];lia)) ⟨e,?_⟩;refine⟨.non,_,I.lset (its':=its++[u]) hH e (by simp) (r.append (.cons ru .nil)) ?_,rfl,q⟩;rw[wz4,vc1];lia
def wv2:V->List V->Hp->VK->Prop:=fun x vs H Q=>∃l b xs zs,x=.ref l/\vs=[.ref b]/\H l=some (.lst xs)/\H b=some (.lst zs)/\↑xs+↑zs<=sizeLine/\Q .non (upd H l (.lst (xs++zs)))
def yb9:MtM X "list.extend" wv2:=by
 intro a2 s σ H x vs v us Q I rx rv h;obtain⟨l,b,xs,zs,rfl,rfl,hH,hB,hz,q⟩:=h;cases rx;obtain⟨u,rfl,ru⟩:=rv.one;cases ru;obtain⟨z,its,n,r,hl,e⟩:=I.lstM hH;obtain⟨z2,a0,n2,r2,a3,e2⟩:=I.lstM hB;have hsz:its.toArray.size+a0.toArray.size<=sizeLine:=by rw[vc0,vc0];lia
 have a1:¬(!its.toArray.isEmpty && Builtin.List.listTooLong (its.toArray.size+a0.toArray.size))=true:=by
  rw[yz4 hsz,Bool.and_false];exact vb6
 refine call_meets F.slot_list_extend ⟨_,e,rfl⟩ F.entry_list_extend (F.args_list_extend_2 _ _)
  (AutoSeq1.list_extend_list_list_0 l its.toArray n b a0.toArray n2 a1 (by rw[vc0];lia) (by lia)) ⟨e,e2,?_⟩
 refine⟨.non,_,I.lset (its':=its++a0) hH e (by simp) (r.append r2) ?_,rfl,q⟩;rw[wz4];lia
def wk8:V->List V->Hp->VK->Prop:=fun x vs H Q=>∃l xs i k y,x=.ref l/\vs=[.int i]/\H l=some (.lst xs)/\-(2 ^ 63)<=i/\i<2 ^ 63/\seqIndex? i ↑xs=some k/\xs[k]?=some y/\Q y (upd H l (.lst (xs.eraseIdx k)))
def wd7:MtM X "list.pop" wk8:=by
 intro a1 s σ H x vs v us Q I rx rv h;obtain⟨l,xs,i,k,y,rfl,rfl,hH,h1,h2,hk,hy,q⟩:=h;cases rx;obtain⟨u,rfl,ru⟩:=rv.one;obtain⟨t,rfl⟩:=ru;obtain⟨z,its,n,r,hl,e⟩:=I.lstM hH;obtain⟨w,hw,a0⟩:=r.get hy;refine call_meets F.slot_list_pop ⟨_,e,rfl⟩ F.entry_list_pop (F.args_list_pop_2 _ _)
  (MeetsSeq.list_pop_at l its.toArray n i t k w (fitsIndex_both h1 h2) (by rw[vc0,<-hl];exact hk) (by rw[<-vn7];exact hw) (by rw[vc0];lia)) ⟨e,?_⟩
 refine⟨y,_,I.lset (its':=its.eraseIdx k) hH e ?_ (r.eraseIdx k) ?_,a0,q⟩
 .show its.toArray.eraseIdxIfInBounds k=(its.eraseIdx k).toArray;rw[List.eraseIdxIfInBounds_toArray]
 .have:=ys2 xs k;lia
def rCat:R2:=fun x y H Q=>∃l b xs zs,x=.ref l/\y=.ref b/\H l=some (.lst xs)/\H b=some (.lst zs)/\↑xs+↑zs<=sizeLine/\∀p,H p=none->Q (.ref p) (upd H p (.lst (xs++zs)))
def yh2:OpR X (binaryOp .Add) rCat:=by
 intro a1 s σ H x y v u Q I rx ry h;obtain⟨l,b,xs,zs,rfl,rfl,hH,hB,hz,q⟩:=h;cases rx;cases ry;obtain⟨z,its,n,r,hl,e⟩:=I.lstM hH;obtain⟨z2,a0,n2,r2,a2,e2⟩:=I.lstM hB;refine PySem.P.add_list e e2 ?_ (by rw[vc0,vc0];lia);have ea:its.toArray++a0.toArray=(its++a0).toArray:=by simp
 rw[ea];exact⟨.ref _,_,I.lnew (t':=s.toks) (r.append r2) (by rw[wz4];lia),rfl,q _ I.fresh⟩
def rRep:R2:=fun x y H Q=>∃l k xs,x=.ref l/\y=.int k/\H l=some (.lst xs)/\-(2 ^ 63)<=k/\k<2 ^ 63/\↑xs*k.toNat<=sizeLine/\
 ∀p,H p=none->Q (.ref p) (upd H p (.lst (List.replicate k.toNat xs).flatten))
def wp3{α:Type}(xs:List α)(k:Nat):(List.replicate k xs).flatten.length=k*↑xs:=by
 induction k with
 | zero=>simp
 | succ k ih=>rw[vs8,ub5,wz4,ih,Nat.succ_mul,Nat.add_comm]
def op_rep:OpR X (binaryOp .Mult) rRep:=by
 intro a5 s σ H x y v u Q I rx ry h;obtain⟨l,k,xs,rfl,rfl,hH,h1,h2,hz,q⟩:=h;cases rx;obtain⟨t,rfl⟩:=ry;obtain⟨z,its,n,r,hl,e⟩:=I.lstM hH;have a1:its.toArray.size*k.toNat<=sizeLine:=by rw[vc0,<-hl];exact hz
 have a3:¬its.toArray.size*k.toNat > (2 ^ 63-1) / 8:=by
  have:(sizeLine:Nat)<=(2 ^ 63-1) / 8:=by decide
  lia
 have a4:¬(!Builtin.List.listFitsIndex k)=true:=by
  rw[fitsIndex_both h1 h2];exact vb6
 have a0:¬Builtin.List.listTooLong (its.toArray.size*k.toNat)=true:=by
  rw[yz4 a1];exact vb6
 have a2:List.foldl (fun x1 x2=>x1++x2) #[] (List.replicate (if its.toArray.isEmpty=true then 0 else k.toNat) its.toArray)=(List.replicate k.toNat its).flatten.toArray:=by
  have f0:∀m:Nat,List.foldl (fun x1 x2=>x1++x2) #[] (List.replicate m its.toArray)=(List.replicate m its).flatten.toArray:=fun m=>by
   have:=ys3 its m [];rw[List.nil_append]at this;exact this
  rw[f0];cases its with
  | nil=>simp
  | cons a r'=>rw[vd0 (by simp)]
 refine wpAny_binaryOp_repeat_ref (T:="list") (U:="int") (by decide) ⟨_,e,rfl⟩ (fun s'=>typeIs_int s' k t) noFill_list_mul F.fills_int_mul F.slot_int_rmul repeat_list F.slot_int_index.lookup
  (call_meets F.slot_int_rmul (typeIs_int s k t) F.entry_int_rmul (F.args_int_rmul_2 _ _) (int___rmul___int_list k t l its.toArray n)
   ⟨e,rfl,⟨_,e,rfl⟩,call_meets F.slot_list_mul ⟨_,e,rfl⟩ F.entry_list_mul (F.args_list_mul_2 _ _) (AutoListH.list___mul___list_int_3 l its.toArray n k t a4 a3 a0) ⟨e,?_⟩⟩)
 rw[a2];exact⟨.ref _,_,I.lnew (t':=s.toks) (r.rep k.toNat) (by rw[wp3,Nat.mul_comm];exact hz),rfl,q _ I.fresh⟩
section
variable{κ:Type}[DecidableEq κ]
def valV(kvs:List (κ×V))(k:κ):Option V:=(kvs.find? fun kv=>decide (kv.1=k)).map (·.2)
def putK(kvs:List (κ×V))(k:κ)(v:V):List (κ×V):=
 if (kvs.any fun kv=>decide (kv.1=k))=true then kvs.map (fun kv=>if kv.1=k then(kv.1,v) else kv) else kvs++[(k,v)]
def zh8{p:κ×V}{r:List (κ×V)}{k:κ}(e:p.1=k):valV (p::r) k=some p.2:=by simp[valV,vv4,e]
def zh7{p:κ×V}{r:List (κ×V)}{k:κ}(e:¬p.1=k):valV (p::r) k=valV r k:=by simp[valV,vv4,e]
def zm6(k:κ):∀kvs:List (κ×V),(kvs.any fun kv=>decide (kv.1=k))=(valV kvs k).isSome
 | []=>rfl
 | p::r=>by
  rw[vz5]
  by_cases e:p.1=k
  .simp only[zh8 e,vd1 e,Bool.true_or,Option.isSome_some]
  .rw[zh7 e,vf4 e,Bool.false_or];exact zm6 k r
def xf0(k j:κ)(y:V):∀kvs:List (κ×V),valV (kvs.map fun kv=>if kv.1=k then(kv.1,y) else kv) j=(valV kvs j).map fun x=>if j=k then y else x
 | []=>rfl
 | p::r=>by
  have ih:=xf0 k j y r;rw[vf5]
  by_cases h:p.1=k
  .rw[vd3 h]
   by_cases e:p.1=j
   .rw[zh8 (p:=(p.1,y)) e,zh8 e,Option.map_some,vd3 (e.symm.trans h)]
   .rw[zh7 (p:=(p.1,y)) e,zh7 e,ih]
  .rw[vd0 h]
   by_cases e:p.1=j
   .rw[zh8 (p:=p) e,zh8 e,Option.map_some,vd0 (fun z=>h (e.trans z))]
   .rw[zh7 (p:=p) e,zh7 e,ih]
def yn9(k j:κ)(y:V):∀kvs:List (κ×V),valV kvs k=none->valV (kvs++[(k,y)]) j=if j=k then some y else valV kvs j
 | [],_=>by
  by_cases e:k=j
  .rw[vd3 e.symm];exact zh8 (p:=(k,y)) e
  .rw[vd0 (fun z=>e z.symm)];exact zh7 (p:=(k,y)) e
 | p::r,hn=>by
  rw[List.cons_append];have hk:¬p.1=k:=fun z=>by rw[zh8 z]at hn;cases hn
  rw[zh7 hk]at hn;have ih:=yn9 k j y r hn
  by_cases e:p.1=j
  .rw[zh8 e,zh8 e,vd0 (fun z=>hk (e.trans z))]
  .rw[zh7 e,zh7 e,ih]
def zm4(kvs:List (κ×V))(k j:κ)(y:V):valV (putK kvs k y) j=if j=k then some y else valV kvs j:=by
 unfold putK
 by_cases a:(kvs.any fun kv=>decide (kv.1=k))=true
 .rw[vd3 a,xf0];rw[zm6]at a
  by_cases e:j=k
  .obtain⟨x,hx⟩:=Option.isSome_iff_exists.mp a;rw[vd3 e,e,hx,Option.map_some,vd3 rfl]
  .rw[vd0 e];cases valV kvs j with
   | none=>rfl
   | some x=>rw[Option.map_some,vd0 e]
 .rw[vd0 a];refine yn9 k j y kvs ?_;rw[zm6]at a;cases q:valV kvs k with
  | none=>rfl
  | some x=>rw[q]at a;exact(a rfl).elim
def zg5(kvs:List (κ×V))(k:κ)(v:V):↑(putK kvs k v)<=↑kvs+1:=by
 unfold putK
 split
 .rw[lqm];lia
 .rw[wz4,vc6,vk8];lia
def zz3{kvs:List (κ×V)}{k:κ}(v:V)(h:valV kvs k=none):putK kvs k v=kvs++[(k,v)]:=by
 unfold putK;rw[zm6,h];exact vd0 (by decide)
def RelO.isSome_eq(r:RelO o u):o.isSome=u.isSome:=by
 cases o with
 | none=>cases u with
  | none=>rfl
  | some _=>exact(show False from r).elim
 | some _=>cases u with
  | none=>exact(show False from r).elim
  | some _=>rfl
def RelO.getD(r:RelO o u)(rd:RelV d d'):RelV (o.getD d) (u.getD d'):=by
 cases o with
 | none=>cases u with
  | none=>exact rd
  | some _=>exact(show False from r).elim
 | some _=>cases u with
  | none=>exact(show False from r).elim
  | some _=>exact r
def KV.val(r:KV kvs vs)(k:κ):RelO (valV kvs k) (valueAt vs k):=by
 unfold KV at r
 induction r with
 | nil=>exact vm7
 | @cons p q ps qs h t ih=>
  obtain⟨h1,h2⟩:=h
  by_cases e:p.1=k
  .have e':q.1=k:=h1.symm.trans e;have b:valueAt (q::qs) k=some q.2:=by simp[valueAt,vv4,e']
   rw[zh8 e,b];exact h2
  .have e':¬q.1=k:=fun z=>e (h1.trans z);have b:valueAt (q::qs) k=valueAt qs k:=by simp[valueAt,vv4,e']
   rw[zh7 e,b];exact ih
def KV.any(r:KV kvs vs)(k:κ):(kvs.any fun kv=>decide (kv.1=k))=vs.any fun kv=>decide (kv.1=k):=by
 unfold KV at r
 induction r with
 | nil=>rfl
 | cons h t ih=>rw[vz5,vz5,ih,h.1]
def KV.repl(r:KV kvs vs)(k:κ)(ry:RelV y u):
  KV (kvs.map fun kv=>if kv.1=k then(kv.1,y) else kv) (vs.map fun kv=>if kv.1=k then(kv.1,u) else kv):=by
 unfold KV at r ⊢
 induction r with
 | nil=>exact .nil
 | @cons p q ps qs h t ih=>
  rw[vf5,vf5];refine .cons ?_ ih;obtain⟨h1,h2⟩:=h
  by_cases e:p.1=k
  .rw[vd3 e,vd3 (h1.symm.trans e)];exact⟨h1,ry⟩
  .rw[vd0 e,vd0 (fun z=>e (h1.trans z))];exact⟨h1,h2⟩
def KV.put(r:KV kvs vs)(k:κ)(ry:RelV y u):KV (putK kvs k y) (stored vs k u):=by
 unfold putK stored;rw[r.any k]
 by_cases e:(vs.any fun kv=>decide (kv.1=k))=true
 .rw[vd3 e,vd3 e];exact r.repl k ry
 .rw[vd0 e,vd0 e];exact Paired.snoc r ⟨rfl,ry⟩
def KV.length(r:KV kvs vs):↑kvs=↑vs:=uc2 r
end
def yn1(r:RelV (kV k) u):(zc4 P w).is k u=true:=by
 cases k with
 | inl i=>obtain⟨t,e⟩:=(show ∃t,u=Value.int i t from r);subst e;exact yv5 P w i t
 | inr x=>obtain⟨t,e⟩:=(show ∃t,u=Value.str x t from r);subst e;exact yt8 P w x t
def yd5:∀{ks:List Key}{us:List Value},Vals (ks.map kV) us->ItemsAre (zc4 P w) ks us
 | [],_,r=>by rw[List.map_nil]at r;cases r;exact .nil
 | k::ks,_,r=>by
  rw[vf5]at r;cases r with
  | cons h t=>exact .cons (yn1 h) (yd5 t)
abbrev KT(H:Hp):List (List Key×V)->List (List Key×Addr×Value)->Prop:=Paired fun p q=>p.1=q.1/\H q.2.1=some (.tup (p.1.map kV))/\RelV p.2 q.2.2
def KT.val(r:KT H kvs xs)(k:List Key):RelO (valV kvs k) ((atKey xs k).map (·.2)):=by
 induction r with
 | nil=>exact vm7
 | @cons p q ps qs h t ih=>
  obtain⟨h1,_,h2⟩:=h
  by_cases e:p.1=k
  .have e':q.1=k:=h1.symm.trans e;have b:atKey (q::qs) k=some q.2:=by simp[atKey,vv4,e']
   rw[zh8 e,b];exact h2
  .have e':¬q.1=k:=fun z=>e (h1.trans z);have b:atKey (q::qs) k=atKey qs k:=by simp[atKey,vv4,e']
   rw[zh7 e,b];exact ih
def KT.repl(r:KT H kvs xs)(k:List Key)(ry:RelV y u):
  KT H (kvs.map fun kv=>if kv.1=k then(kv.1,y) else kv) (xs.map (putAt k u)):=by
 induction r with
 | nil=>exact .nil
 | @cons p q ps qs h t ih=>
  rw[vf5,vf5];refine .cons ?_ ih;obtain⟨h1,h2,h3⟩:=h;unfold putAt
  by_cases e:p.1=k
  .rw[vd3 e,vd3 (h1.symm.trans e)];exact⟨h1,h2,ry⟩
  .rw[vd0 e,vd0 (fun z=>e (h1.trans z))];exact⟨h1,h2,h3⟩
def KT.put(r:KT H kvs xs)(k:List Key)(hb:H b=some (.tup (k.map kV)))(ry:RelV y u):
  KT H (putK kvs k y) (storedH xs k b u):=by
 have e:(kvs.any fun kv=>decide (kv.1=k))=(atKey xs k).isSome:=by
  rw[zm6,(r.val k).isSome_eq,Option.isSome_map]
 unfold putK storedH;rw[e]
 by_cases q:(atKey xs k).isSome=true
 .rw[vd3 q,vd3 q];exact r.repl k ry
 .rw[vd0 q,vd0 q];exact Paired.snoc r ⟨rfl,hb,ry⟩
def KT.keeps(r:KT H kvs xs)(ht:∀b ys,H b=some (.tup ys)->H' b=some (.tup ys)):KT H' kvs xs:=
 Paired.mapP r fun _ _ z=>⟨z.1,ht _ _ z.2.1,z.2.2⟩
section
variable{P:Program}{w:World}{H:Hp}{h:Heap}{a:Addr}
def rd_of(ok:HOk P w H h)(e:Rd H a u):ObjOk P w H h a u:=e.ok ok
def yg4(ok:HOk P w H h)(e:Rd H a (.dK kvs)):↑kvs<=sizeLine/\(a == sysModules)=false/\∃vs,KV kvs vs/\h.DictOf (zc4 P w) a vs:=
 show ObjOk P w H h a (.dK kvs) from rd_of ok e
def yk1(ok:HOk P w H h)(e:H a=some (.dK kvs)):↑kvs<=sizeLine/\(a == sysModules)=false/\∃vs,KV kvs vs/\h.DictOf (zc4 P w) a vs:=yg4 ok (.inl e)
def yj1(ok:HOk P w H h)(e:H a=some (.tup (ks.map kV))):(tupleKind (zc4 P w)).is h ks a:=by
 obtain⟨_,its,r,o,h1,h2,n,h3⟩:=(show ObjOk P w H h a (.tup (ks.map kV)) from ok a _ e);exact⟨o,its.toArray,n,h1,h2,h3,by simpa using yd5 r⟩
def xg0(ok:HOk P w H h)(e:Rd H a (.dT kvs)):↑kvs<=sizeLine/\(a == sysModules)=false/\
  ∃xs,KT H kvs xs/\h.DictOfH (tupleKind (zc4 P w)) a xs:=by
 obtain⟨z,y,xs,r,o,es,ep,h1,h2,h3,h4,h5⟩:=(show ObjOk P w H h a (.dT kvs) from rd_of ok e);refine⟨z,y,xs,r,o,es,ep,h1,h2,h3,h4,fun x hx=>?_,h5⟩;have all:∀{l:List (List Key×V)}{m:List (List Key×Addr×Value)},KT H l m->∀x∈m,(tupleKind (zc4 P w)).is h x.1 x.2.1:=by
  intro l m q
  induction q with
  | nil=>intro x hx;exact nomatch hx
  | @cons p q ps qs hq t ih=>
   intro x hx;rcases vb4.mp hx with e | hx
   .subst e;exact yj1 ok (by rw[<-hq.1];exact hq.2.1)
   .exact ih x hx
 exact all r x hx
def wx9(ok:HOk P w H h)(e:H a=some (.dT kvs)):↑kvs<=sizeLine/\(a == sysModules)=false/\
  ∃xs,KT H kvs xs/\h.DictOfH (tupleKind (zc4 P w)) a xs:=xg0 ok (.inl e)
end
def DGet(H:Hp)(a:Addr)(y:V)(r:Option V):Prop:=
 (∃kvs k,Rd H a (.dK kvs)/\y=kV k/\r=valV kvs k)\/∃kvs k b,Rd H a (.dT kvs)/\y=.ref b/\H b=some (.tup (k.map kV))/\r=valV kvs k
def DPut(H:Hp)(a:Addr)(y v:V)(H':Hp):Prop:=
 (∃kvs k,H a=some (.dK kvs)/\y=kV k/\↑kvs<sizeLine/\H'=upd H a (.dK (putK kvs k v)))\/
 ∃kvs k b,H a=some (.dT kvs)/\y=.ref b/\H b=some (.tup (k.map kV))/\↑kvs<sizeLine/\H'=upd H a (.dT (putK kvs k v))
def DGet.k{H:Hp}{a:Addr}{kvs:List (Key×V)}{k:Key}(e:H a=some (.dK kvs)):DGet H a (kV k) (valV kvs k):=.inl ⟨kvs,k,.inl e,rfl,rfl⟩
def DPut.k{H:Hp}{a:Addr}{kvs:List (Key×V)}{k:Key}{v:V}(e:H a=some (.dK kvs))(hl:↑kvs<sizeLine):DPut H a (kV k) v (upd H a (.dK (putK kvs k v))):=.inl ⟨kvs,k,e,rfl,hl,rfl⟩
def DPut.t{H:Hp}{a b:Addr}{kvs:List (List Key×V)}{k:List Key}{v:V}(e:H a=some (.dT kvs))(eb:H b=some (.tup (k.map kV)))(hl:↑kvs<sizeLine):
  DPut H a (.ref b) v (upd H a (.dT (putK kvs k v))):=.inr ⟨kvs,k,b,e,rfl,eb,hl,rfl⟩
section
variable{pins:List (Addr×Obj)}{σ:St}{H:Hp}{s:Shared}{a:Addr}{y v:V}{u r:Value}{o:Option V}{A:Around}{E:Vp}
def Inv.big(I:Inv X pins σ H s):sysModules<s⁻¹:=by
 have h:mainGlobals<s⁻¹:=(I.mod.glob.keeps I.bk).lt;exact vj0 (by decide) h
def xk1(hu:A.units+1<cLine)(I:Inv X pins σ H s)(g:DGet H a y (some v))(ry:RelV y u)(h:∀w' s',Inv X pins σ H s'->RelV v w'->Q w' s'):
  wpAny (model X.prog X.w) A (getItem (.ref a) u) Q E s:=by
 rcases g with ⟨kvs,k,e,ey,l⟩ | ⟨kvs,k,b,e,ey,eb,l⟩
 .subst ey;obtain⟨z,hd,vs,a0,dd⟩:=yg4 I.hok e;obtain⟨w',hw,a1⟩:=RelO.some_of (v:=v) (o:=valueAt vs k) (by rw[l];exact a0.val k);exact wpAny_getItem_of (yn1 ry) dd.mapOf hw (h w' _ (I.tok _) a1)
 .subst ey;cases (show u=Value.ref b from ry);obtain⟨z,hd,xs,a0,dd⟩:=xg0 I.hok e;obtain⟨w',hw,a1⟩:=RelO.some_of (v:=v) (o:=(atKey xs k).map (·.2)) (by rw[l];exact a0.val k);obtain⟨p,hp,a2⟩:=wz8.mp hw;refine wpAny_getItem_heap (vr5 hu) (yj1 I.hok eb) dd hp ?_;rw[a2];exact h w' _ (I.tok _) a1
def zn4(I:Inv X pins σ H s)(mu:Mut (H a))(hs:Heap.SameBut a s.heap h')(he:∃q,h'.get? a=some q)(new:ObjOk X.prog X.w (upd H a ob) h' a ob):
  Inv X pins σ (upd H a ob) {s with heap:=h',toks:=t'}:=
 I.write (x:=a) (e:=a) mu (.inl rfl) (fun b q hb z=>(hs.2 b hb).trans z) he new
def yp5(z:↑kvs<=sizeLine)(hd:(a == sysModules)=false)(a0:KV kvs vs)(dd:h'.DictOf (zc4 P w) a vs):
  ObjOk P w H' h' a (.dK kvs):=⟨z,hd,vs,a0,dd⟩
def xs4(hu:A.units+1<cLine)(I:Inv X pins σ H s)(g:DPut H a y v H')(ry:RelV y u)(rv:RelV v r)(h:∀s',Inv X pins σ H' s'->Q () s'):
  wpAny (model X.prog X.w) A (setItem (.ref a) u r) Q E s:=by
 rcases g with ⟨kvs,k,e,ey,l,eH⟩ | ⟨kvs,k,b,e,ey,eb,l,eH⟩
 .subst ey eH;obtain⟨z,hd,vs,a0,dd⟩:=yk1 I.hok e;have hz:↑vs<=sizeLine:=by rw[<-↑a0];exact z
  have hl:↑(putK kvs k v)<=sizeLine:=by have:=zg5 kvs k v;lia
  refine wpAny_setItem_pairs (hsz:=hz) (yn1 ry) dd fun h' a1 hs=>h _ ?_;have he:∃q,h'.get? a=some q:=let ⟨q,_,_,hq,_⟩:=a1;⟨q,hq⟩
  exact zn4 I (by rw[e];exact vm7) hs he (yp5 hl hd (a0.put k rv) a1)
 .subst ey eH;cases (show u=Value.ref b from ry);obtain⟨z,hd,xs,a0,dd⟩:=wx9 I.hok e;have hz:↑xs<=sizeLine:=by rw[<-uc2 a0];exact z
  have hl:↑(putK kvs k v)<=sizeLine:=by have:=zg5 kvs k v;lia
  refine wpAny_setItem_heap (hsz:=hz) (vr5 hu) (yj1 I.hok eb) dd fun h' a1 hs=>h _ ?_;obtain⟨q,es,ep,hq,h2,h3,h4,_,h5⟩:=a1;refine zn4 I (by rw[e];exact vm7) hs ⟨q,hq⟩ ⟨hl,hd,_,(a0.put k eb rv).keeps fun c ys ec=>?_,q,es,ep,hq,h2,h3,h4,h5⟩;rw[zb5 (wr1 ec e (fun z=>nomatch z))];exact ec
end
section
variable{pins:List (Addr×Obj)}{σ:St}{H:Hp}{s:Shared}{a:Addr}{kvs:List (Key×V)}{k:Key}{u:Value}{A:Around}{E:Vp}
def d_len(I:Inv X pins σ H s)(e:Rd H a (.dK kvs))(h:∀t s',Inv X pins σ H s'->Q (.int ↑kvs t) s'):wpAny (model X.prog X.w) A (call (.builtin "len") [.ref a]) Q E s:=by
 obtain⟨z,hd,vs,a0,dd⟩:=yg4 I.hok e;refine call_len_dict hd dd (by rw[<-↑a0];rw[vs7]at z;lia) ?_;rw[<-↑a0];exact h _ _ (I.tok _)
end
def NoSl(i:Expr):Prop:=∀ov iv,subscripted i false ov iv=operate [ov,iv] (getItem ov iv)
def wq5{prog:Program}{w:World}{A:Around}{E:Vp}{s:Shared}{env:Env}{value slice:Expr}{pos:Pos}{T id:String}{Q:Vp}
  (hl:typeLookup (.type T) "__getitem__"=pure (some (.builtin id))) (hs:NoSl slice)
  (h:wpAny (model prog w) A (eval value env) (fun o s₁=>wpAny (model prog w) A (eval slice env) (fun i s₂=>s₂.TypeIs o T/\wpAny (model prog w) A (getItem o i) Q E s₂) E s₁) E s):
  wpAny (model prog w) A (eval (.Subscript value slice pos) env) Q E s:=by
 refine Subscript_ (vj4 h (fun o s₁ h₁=>vj4 h₁ (fun i s₂ h₂=>?_) fun _ _ x=>x) fun _ _ x=>x);obtain⟨hT,h₂⟩:=h₂;unfold subscriptTail;refine zz1 ?_;rw[getitemInPython_of_ne hT.not_modules];refine zz1 (vn8 hT hl ?_);have a0:wpAny (model prog w) A (subscripted slice false o i) (fun r s₃=>wpAny (model prog w) A (letTemporaryGo value o r >>= fun _=>pure r) Q E s₃) E s₂:=by
  rw[hs o i];exact wpAny_operating (vj4 h₂ (fun r s₃ h₃=>zz1 (wpAny_letTemporaryGo (wz7 h₃))) fun _ _ x=>x)
 first
  | exact wz7 (zz1 a0)
  | exact zz1 (wz7 (zz1 a0))
  | exact zz1 a0
def yw3(I:Inv X pins σ H s)(g:DGet H a y o):s.TypeIs (.ref a) "dict":=by
 rcases g with ⟨kvs,k,e,_,_⟩ | ⟨kvs,k,b,e,_,_,_⟩
 .obtain⟨_,_,vs,_,dd⟩:=yg4 I.hok e;exact dd.typeIs
 .obtain⟨_,_,xs,_,dd⟩:=xg0 I.hok e;exact dd.typeIs
inductive BDg(x y:V)(H:Hp)(Q:VK):Prop
 | mk(a:Addr)(v:V)(h1:x=.ref a)(h2:DGet H a y (some v))(q:Q v H):BDg x y H Q
def yx2(td ty:TE):TE:=fun σ H Q=>td σ H fun x H1=>ty σ H1 fun y H2=>BDg x y H2 Q
def sDPut(td ty tv:TE):TS:=fun D σ H=>tv σ H fun v H1=>td σ H1 fun x H2=>ty σ H2 fun y H3=>∃a H4,x=.ref a/\DPut H3 a y v H4/\D.nx σ H4
section
variable{o i e value:Expr}{pos pos' tpos:Pos}{td ty tv:TE}
def zc6(hu:X.A.units+1<cLine)(ho:PE X o td)(hi:PE X i ty)(hs:NoSl i):PE X (.Subscript o i pos) (yx2 td ty):=by
 intro a0 s σ H Q I h;refine wq5 PySem.F.slot_dict_getitem.lookup hs (thn (ho a0 s σ H _ I h) fun u s1 ⟨x,H1,I1,rx,q1⟩=>thn (hi a0 s1 σ H1 _ I1 q1) fun iv s2 ⟨y,H2,I2,ry,a,v,ex,g,q2⟩=>?_);subst ex;obtain rfl:u=Value.ref a:=rx;exact⟨yw3 I2 g,xk1 hu I2 g ry fun w' s3 I3 a1=>⟨v,H2,I3,a1,q2⟩⟩
def zn7(hu:X.A.units+1<cLine)(ho:PE X o td)(hi:PE X i ty)(hv:PE X value tv)(hs:swapsWith value (some (.Subscript o i pos')) pos.line X.env=pure false):
  PS X (.Assign [.Subscript o i pos'] value pos) (sDPut td ty tv):=by
 intro a0 s σ H D I h;refine wpAny_Assign_Subscript (thn (hv a0 s σ H _ I h) fun r s1 ⟨v,H1,I1,rv,q1⟩=>thn (ho a0 s1 σ H1 _ I1 q1) fun u s2 ⟨x,H2,I2,rx,q2⟩=>thn (hi a0 s2 σ H2 _ I2 q2) fun iv s3 ⟨y,H3,I3,ry,a,H4,ex,g,q3⟩=>?_) hs;subst ex;obtain rfl:u=Value.ref a:=rx;exact xs4 hu I3 g ry rv fun s4 I4=>⟨σ,H4,I4,q3⟩
end
def yj3(h:Heap)(hb:sysModules<h.objs.size):ObjOk P w H (h.push {cls:=.type "dict",data:=.dict #[]}) h.objs.size (.dK []):=
 ⟨vc9 _,vx7.mpr (vj3 (vb7 hb)),[],.nil,Heap.DictOf.new h⟩
def xd7(h:Heap)(hb:sysModules<h.objs.size):ObjOk P w H (h.push {cls:=.type "dict",data:=.dict #[]}) h.objs.size (.dT []):=
 ⟨vc9 _,vx7.mpr (vj3 (vb7 hb)),[],.nil,_,#[],0,vb8 _ rfl,⟨rfl,rfl,rfl⟩,rfl,rfl,vn6⟩
def wj8:TE:=fun _ H Q=>∀p,H p=none->Q (.ref p) (upd H p (.dK []))
def tDNewT:TE:=fun _ H Q=>∀p,H p=none->Q (.ref p) (upd H p (.dT []))
section
variable{pos:Pos}
def zq5:PE X (.Dict [] [] pos) wj8:=fun a0 s σ H Q I h=>
 wpAny_Dict_empty ⟨.ref s⁻¹,_,I.laid (a:=s⁻¹) (o:=.dK []) (t':=s.toks) (fun _ _ q=>wz3 _ q) (wz6 _) (yj3 s.heap I.big),rfl,h _ (I.hok.fresh (wz6 _))⟩
def wc5:PE X (.Dict [] [] pos) tDNewT:=fun a0 s σ H Q I h=>
 wpAny_Dict_empty ⟨.ref s⁻¹,_,I.laid (a:=s⁻¹) (o:=.dT []) (t':=s.toks) (fun _ _ q=>wz3 _ q) (wz6 _) (xd7 s.heap I.big),rfl,h _ (I.hok.fresh (wz6 _))⟩
end
def xw6:List (TE×TE)->St->Hp->(List (V×V)->Hp->Prop)->Prop
 | [],_,H,Q=>Q [] H
 | (tk,tv)::r,σ,H,Q=>tk σ H fun x H1=>tv σ H1 fun y H2=>xw6 r σ H2 fun ps H3=>Q ((x,y)::ps) H3
abbrev VV:List (V×V)->List (Value×Value)->Prop:=Paired fun p q=>RelV p.1 q.1/\RelV p.2 q.2
def PPs(X:Cx)(pos:Pos)(keys:List (Option Expr))(values:List Expr)(trs:List (TE×TE)):Prop:=
 ∀(pins:List (Addr×Obj))(s:Shared)(σ:St)(H:Hp)(Q:List (V×V)->Hp->Prop),Inv X pins σ H s->xw6 trs σ H Q->
  wpAny (model X.prog X.w) X.A (evalPairs (pairTrees keys values X.env pos)) (fun vs s'=>∃ps H',Inv X pins σ H' s'/\VV ps vs/\Q ps H') X.xe s
def xp0:PPs X pos [] [] []:=fun a0 s σ H Q I h=>pairTrees_nil_walk ⟨[],H,I,.nil,h⟩
def xf5(hk:PE X k tk)(hv:PE X v tv)(hr:PPs X pos ks vs trs):
  PPs X pos (some k::ks) (v::vs) ((tk,tv)::trs):=fun a0 s σ H Q I h=>
 pairTrees_cons_walk (thn (hk a0 s σ H _ I h) fun u s1 ⟨x,H1,I1,rx,q1⟩=>thn (hv a0 s1 σ H1 _ I1 q1) fun w2 s2 ⟨y,H2,I2,ry,q2⟩=>
  thn (hr a0 s2 σ H2 _ I2 q2) fun ws s3 ⟨ps,H3,I3,a1,q3⟩=>⟨(x,y)::ps,H3,I3,.cons ⟨rx,ry⟩ a1,q3⟩)
def zf4(kvs more:List (Key×V)):List (Key×V):=more.foldl (fun acc kv=>putK acc kv.1 kv.2) kvs
def KV.merge:∀{more:List (Key×V)}{rs:List (Key×Value)}{kvs:List (Key×V)}{vs:List (Key×Value)},KV more rs->KV kvs vs->KV (zf4 kvs more) (merged vs rs):=by
 intro more rs kvs vs r;unfold KV at r
 induction r generalizing kvs vs with
 | nil=>intro q;exact q
 | @cons p q ps qs h t ih=>
  intro r0;have e:KV (putK kvs p.1 p.2) (stored vs q.1 q.2):=by
   have:=r0.put p.1 h.2;rw[<-h.1];exact this
  exact ih e
def zh2:∀(more kvs:List (Key×V)),↑(zf4 kvs more)<=↑kvs+↑more
 | [],kvs=>by show ↑kvs<=↑kvs+0;lia
 | p::r,kvs=>by
  have h1:=zh2 r (putK kvs p.1 p.2);have h2:=zg5 kvs p.1 p.2;show(zf4 (putK kvs p.1 p.2) r).length<=_;rw[vc6];lia
def yh8{P:Program}{w:World}:∀{kvs:List (Key×V)}{ws:List (Value×Value)},VV (kvs.map fun kv=>(kV kv.1,kv.2)) ws->∃rs,Carries (zc4 P w) ws rs/\KV kvs rs
 | [],_,r=>by rw[List.map_nil]at r;cases r;exact⟨[],vm7,.nil⟩
 | p::kvs,_,r=>by
  rw[vf5]at r;cases r with
  | @cons a b as bs h t=>
   obtain⟨rs,c,q⟩:=yh8 (P:=P) (w:=w) t;obtain⟨b1,b2⟩:=b;exact⟨(p.1,b2)::rs,⟨yn1 h.1,rfl,c⟩,.cons ⟨rfl,h.2⟩ q⟩
def tDisp(trs:List (TE×TE)):TE:=fun σ H Q=>∀p,H p=none->xw6 trs σ (upd H p (.dK [])) fun ps H2=>H2 p=some (.dK [])/\∃kvs:List (Key×V),ps=kvs.map (fun kv=>(kV kv.1,kv.2))/\↑kvs<=15/\Q (.ref p) (upd H2 p (.dK (zf4 [] kvs)))
def wp2(h:PPs X pos keys values trs)(a1:keys.all (·.isSome)=true)(hl:↑keys=↑values)(h0:keys≠[])(a3:↑keys<=15):PE X (.Dict keys values pos) (tDisp trs):=by
 intro a0 s σ H Q I q;have hn:=I.hok.fresh (wz6 s⁻¹);have I1:=I.laid (a:=s⁻¹) (o:=.dK []) (h':=s.heap.push {cls:=.type "dict",data:=.dict #[]}) (t':=s.toks) (fun _ _ q=>wz3 _ q) (wz6 _) (yj3 s.heap I.big);refine wpAny_Dict_walk (knd:=zc4 X.prog X.w) a1 hl h0 a3 (thn (h a0 _ σ _ _ I1 (q _ hn)) fun ws s2 ⟨ps,H2,I2,a4,e,kvs,ep,lk,q2⟩=>?_);subst ep;obtain⟨rs,c,rk⟩:=yh8 (P:=X.prog) (w:=X.w) a4;obtain⟨z,hd,a5,r0,dd⟩:=yk1 I2.hok e;cases r0;refine⟨rs,c,dd,fun h' a2 hs=>⟨.ref s⁻¹,_,?_,rfl,q2⟩⟩;have hz:↑(zf4 [] kvs)<=sizeLine:=by
  have h1:=zh2 kvs [];rw[vk8]at h1;rw[vs7];lia
 have he:∃q,h'.get? s⁻¹=some q:=let ⟨q,_,_,hq,_⟩:=a2;⟨q,hq⟩
 exact zn4 I2 (by rw[e];exact vm7) hs he (yp5 hz hd (rk.merge .nil) a2)
structure M1(X:Cx)(o:Expr)(m:Str)(apos:Pos)(e:Expr)(cpos:Pos):Prop where
 base:attributeBase o m X.env (eval o X.env)=eval o X.env
 few:((backTo cpos (starEach [e] X.env)).all (fun x=>!x.1) && (backToKw cpos (keywordEach [] X.env)).all (fun x=>x.1.isSome)
  && decide (↑([e]:List Expr)+↑([]:List Keyword)+(if ([]:List Keyword).isEmpty then 0 else 1)<30))=true
 line:(apos.endLine == cpos.line)=true
 trees:backTo cpos (starEach [e] X.env)=[(false,eval e X.env)]
structure M2(X:Cx)(o:Expr)(m:Str)(apos:Pos)(e f:Expr)(cpos:Pos):Prop where
 base:attributeBase o m X.env (eval o X.env)=eval o X.env
 few:((backTo cpos (starEach [e,f] X.env)).all (fun x=>!x.1) && (backToKw cpos (keywordEach [] X.env)).all (fun x=>x.1.isSome)
  && decide (↑([e,f]:List Expr)+↑([]:List Keyword)+(if ([]:List Keyword).isEmpty then 0 else 1)<30))=true
 line:(apos.endLine == cpos.line)=true
 trees:backTo cpos (starEach [e,f] X.env)=[(false,eval e X.env),(false,eval f X.env)]
def IsD(H:Hp)(a:Addr):Prop:=(∃kvs,Rd H a (.dK kvs))\/∃kvs,Rd H a (.dT kvs)
def yh9(I:Inv X pins σ H s)(d:IsD H a):
  s.TypeIs (.ref a) "dict"/\(∀b,Value.ref a=.ref b->∃ob,s.heap.get? b=some ob/\ob.dict=none)/\(a == sysModules)=false:=by
 rcases d with ⟨kvs,e⟩ | ⟨kvs,e⟩
 .obtain⟨_,hd,vs,_,dd⟩:=yg4 I.hok e;refine⟨dd.typeIs,fun b q=>?_,hd⟩;cases q;obtain⟨ob,_,_,h1,h2,_⟩:=dd;exact⟨ob,h1,h2.2.1⟩
 .obtain⟨_,hd,xs,_,dd⟩:=xg0 I.hok e;refine⟨dd.typeIs,fun b q=>?_,hd⟩;cases q;obtain⟨ob,_,_,h1,h2,_⟩:=dd;exact⟨ob,h1,h2.2.1⟩
section
variable{pins:List (Addr×Obj)}{σ:St}{H:Hp}{s:Shared}{a:Addr}{y d:V}{u r:Value}{o:Option V}{A:Around}{E:Vp}
def wg6(hu:A.units+1<cLine)(I:Inv X pins σ H s)(g:DGet H a y o)(ry:RelV y u)(h:∀w' s',Inv X pins σ H s'->RelV (o.getD .non) w'->Q w' s'):
  wpAny (model X.prog X.w) A (call (.builtin "dict.get") [.ref a,u]) Q E s:=by
 rcases g with ⟨kvs,k,e,ey,l⟩ | ⟨kvs,k,b,e,ey,eb,l⟩
 .subst ey;obtain⟨z,hd,vs,a0,dd⟩:=yg4 I.hok e;refine vs5 vh7 dd.typeIs vn0 (vz6 _ _) (meets_dict_get (zc4 X.prog X.w) a (yn1 ry) hd) ⟨_,dd.mapOf,h _ _ (I.tok _) ?_⟩;rw[l];exact(a0.val k).getD rfl
 .subst ey;cases (show u=Value.ref b from ry);obtain⟨z,hd,xs,a0,dd⟩:=xg0 I.hok e;refine vs5 vh7 dd.typeIs vn0 (vz6 _ _) (meetsH_dict_get (tupleKind (zc4 X.prog X.w)) a b hd) ⟨vr5 hu,k,xs,yj1 I.hok eb,dd,h _ _ (I.tok _) ?_⟩;rw[l];exact(a0.val k).getD rfl
def wj9(hu:A.units+1<cLine)(I:Inv X pins σ H s)(g:DGet H a y o)(ry:RelV y u)(rd:RelV d r)(h:∀w' s',Inv X pins σ H s'->RelV (o.getD d) w'->Q w' s'):
  wpAny (model X.prog X.w) A (call (.builtin "dict.get") [.ref a,u,r]) Q E s:=by
 rcases g with ⟨kvs,k,e,ey,l⟩ | ⟨kvs,k,b,e,ey,eb,l⟩
 .subst ey;obtain⟨z,hd,vs,a0,dd⟩:=yg4 I.hok e;refine vs5 vh7 dd.typeIs vn0 (vz7 _ _ _) (meets_dict_get_default (zc4 X.prog X.w) a (yn1 ry) hd r) ⟨_,dd.mapOf,h _ _ (I.tok _) ?_⟩;rw[l];exact(a0.val k).getD rd
 .subst ey;cases (show u=Value.ref b from ry);obtain⟨z,hd,xs,a0,dd⟩:=xg0 I.hok e;refine vs5 vh7 dd.typeIs vn0 (vz7 _ _ _) (meetsH_dict_get_default (tupleKind (zc4 X.prog X.w)) a b hd r) ⟨vr5 hu,k,xs,yj1 I.hok eb,dd,h _ _ (I.tok _) ?_⟩;rw[l];exact(a0.val k).getD rd
end
def tDGet1(td ty:TE):TE:=fun σ H Q=>td σ H fun x H1=>∃a,x=.ref a/\IsD H1 a/\ty σ H1 fun y H2=>∃o,DGet H2 a y o/\Q (o.getD .non) H2
def wg9(td ty tx:TE):TE:=fun σ H Q=>td σ H fun x H1=>∃a,x=.ref a/\IsD H1 a/\ty σ H1 fun y H2=>tx σ H2 fun z H3=>∃o,DGet H3 a y o/\Q (o.getD z) H3
section
variable{o e f:Expr}{apos cpos:Pos}{td ty tx:TE}
def zt7(hu:X.A.units+1<cLine)(ho:PE X o td)(he:PE X e ty)(m:M1 X o "get" apos e cpos):PE X (.Call (.Attribute o "get" apos) [e] [] cpos) (tDGet1 td ty):=by
 intro a0 s σ H Q I h;refine vq4 m.base m.few m.line vk2 vh7 vv5 (thn (ho a0 s σ H _ I h) fun u s1 ⟨x,H1,I1,rx,a,ex,d,q1⟩=>?_);subst ex;obtain rfl:u=Value.ref a:=rx;obtain⟨t1,t2,_⟩:=yh9 I1 d;exists t1,t2;rw[m.trees];refine vk5 rfl (vm8 (vj5 (thn (he a0 s1 σ H1 _ I1 q1) fun iv s2 ⟨y,H2,I2,ry,ov,g,q2⟩=>vn1 ?_)));exact wg6 hu I2 g ry fun w' s3 I3 a1=>⟨_,H2,I3,a1,q2⟩
def wd2(hu:X.A.units+1<cLine)(ho:PE X o td)(he:PE X e ty)(hf:PE X f tx)(m:M2 X o "get" apos e f cpos):PE X (.Call (.Attribute o "get" apos) [e,f] [] cpos) (wg9 td ty tx):=by
 intro a0 s σ H Q I h;refine vq4 m.base m.few m.line vk2 vh7 vv5 (thn (ho a0 s σ H _ I h) fun u s1 ⟨x,H1,I1,rx,a,ex,d,q1⟩=>?_);subst ex;obtain rfl:u=Value.ref a:=rx;obtain⟨t1,t2,_⟩:=yh9 I1 d;exists t1,t2;rw[m.trees];refine vk5 rfl (vm8 (vj5 (thn (he a0 s1 σ H1 _ I1 q1) fun iv s2 ⟨y,H2,I2,ry,q2⟩=>
  vj5 (thn (hf a0 s2 σ H2 _ I2 q2) fun fv s3 ⟨z,H3,I3,rz,ov,g,q3⟩=>vn1 ?_))))
 exact wj9 hu I3 g ry rz fun w' s4 I4 a1=>⟨_,H3,I4,a1,q3⟩
end
section
variable{pins:List (Addr×Obj)}{σ:St}{H:Hp}{s:Shared}{a:Addr}{kvs:List (Key×V)}{A:Around}{E:Vp}
end
section
variable{pins:List (Addr×Obj)}{σ:St}{H:Hp}{s:Shared}{a:Addr}{y:V}{u:Value}{A:Around}{E:Vp}
end
end L2
namespace Att
open PySem PySem.W PySem.Calls PyProof.Rows
def yf8{P:Params}:∀(ns:List Int)(vs:List Value),WellAll P h vs (ns.map WData.int)->IntsAre vs ns:=by
 intro ns
 induction ns with
 | nil=>
  intro vs w;rw[List.map_nil]at w;cases w;exact .nil
 | cons n ns ih=>
  intro vs w;rw[vf5]at w;cases w with
  | cons a b=>
   cases a;exact .cons _ _ (ih _ b)
def xj7{l:OpenLaw}{n:Nat}(hn:l.most=some n){P:Params}{h:Heap}{args:List WData}{a1:List Value}
  (a0:l.row.toRowW.claim.pre args=true) (a4:WellAll P h a1 args):
  ∃a vs ns,a1=[Value.ref a]/\args=[WData.list (ns.map WData.int)]/\h.get? a=some {cls:=.type "list",data:=.seq vs.toArray}/\IntsAre vs ns/\↑ns<=n:=by
 have a3:WShape.hasAll [] args [.list .int]=true:=(pre_splitW a0).1;have hc:l.pre.holds [] {args:=args}=true:=(pre_splitW a0).2;obtain⟨d,r,rfl,h1,h2⟩:=hasAllW_cons a3;obtain rfl:=hasAllW_nil h2;obtain⟨xs,rfl,h3⟩:=hasW_list h1;obtain⟨ns,rfl⟩:=items_int h3;have a2:↑ns<=n:=by
  unfold OpenLaw.pre at hc;have h4:(WTm.not (.lt (.lit (.int (n:Int))) (.len (.arg 0)))).holds [] {args:=[.list (ns.map .int)]}=true:=by
   have h4:=(holds_andW hc).1;rw[hn]at h4;exact h4
  have h5:=condW_of h4 (w_not (w_lt w_lit (w_len_list (w_arg rfl))));rw[lqm]at h5;refine Nat.le_of_not_lt fun q=>?_;have q':(n:Int)<((↑ns:Nat):Int):=by lia
  first
   | (rw[vd1 q']at h5;exact absurd h5 (by decide))
   | (simp at h5;lia)
 cases a4 with
 | cons w1 w2=>
  cases w2;cases w1 with
  | list ho hall=>exact⟨_,_,ns,rfl,rfl,ho,yf8 ns _ hall,a2⟩
def xn5(l:OpenLaw)(args:List WData):l.row.toRowW.claim.post args (.bool true) args=true:=
 postW_of (r:=l.row.toRowW) (X:=(true == true))
  (show WShape.has [] (.bool true) .bool=true by first | rfl | decide | simp[WShape.has,WShape.arms,WShape.armsAll])
  (show(WTm.eq .res (.lit (.bool true))).value [] {args:=args,res:=some (.bool true),after:=args}=some (.bool (true == true)) from w_eq_bool (w_res rfl) w_lit) rfl
def attach_call{l:OpenLaw}{n:Nat}{q:Program}{a0:List Str}{XP:(Str->Option Value)->Heap->Prop}{YP:World->Heap->Prop}{d:DefRec}
  (hn:l.most=some n) (a9:d.params.defaults=[])
  (call:∀(w:World)(s₀ s₁:Shared)(mg mb:Str->Option Value)(fa:Addr)(o:Obj)(pm cd a4:Value)(a:Addr)(vs:List Value)(ns:List Int),
   Ground q a0 [] XP w s₀ mg mb s₁.heap->YP w s₁.heap->
   s₁.heap.get? fa=some o->o.data=.func (docDef d.name d.params d.body d.scope pm cd a4)->s₁.heap.CodeRec cd d.name->mg d.name=some (.ref fa)->
   s₁.heap.get? a=some {cls:=.type "list",data:=.seq vs.toArray}->IntsAre vs ns->↑ns<=n->s₁.gens=#[]->
   codeAny (model l.prog w) callerA (.call (.ref fa) ⟨[.ref a],[]⟩) (fun r s'=>r=.ok (.ret (.bool true))/\OldK s₁.heap s'.heap/\s'.os=s₁.os/\AllBare s'.gens) s₁):
  WalkO q a0 XP YP l.row.toRowW d [] (fun f vs=>PySem.call f vs):=by
 intro w s₀ s₁ mg mb G Y fa o pm cd a4 dV kV ho hd a8 hD a7 hg args a6 as a2 ab ac aa ad;obtain rfl:dV=.none:=Dflts.none hD a9;obtain rfl:kV=.none:=Dflts.noKw hD;obtain⟨a,vs,ns,rfl,rfl,a5,a1,a3⟩:=xj7 hn a2 aa;refine enter_call (codeAny_mono (call w s₀ s₁ mg mb fa o pm cd a4 a vs ns G Y ho (fd_plain hd) a8 a7 a5 a1 a3 hg) fun r s' hq=>?_);obtain⟨rfl,h2,h3,h4⟩:=hq;exact⟨.inl ⟨.bool true,.bool true,[],rfl,fun _=>rfl,.bool true,xn5 l _,fun _=>⟨List.Pairwise.nil,fun _ hm=>(nomatch hm)⟩⟩,h2,h3,h4⟩
section
variable{prog:Program}{w:World}{A:Around}{E:Vp}{s:Shared}{K:Frag}
end
end Att
namespace L2
open PySem PySem.Spec PyProof.Rows
variable{prog:Program}{w:World}{A:Around}{E:Vp}{s:Shared}
variable{X:Cx}
def yr9:∀{vs:List Value}{ns:List Int},IntsAre vs ns->Vals (ns.map V.int) vs
 | _,_,.nil=>.nil
 | _,_,.cons n t h=>.cons ⟨t,rfl⟩ (yr9 h)
def Only(H:Hp):Prop:=∀b,H b=none\/∃o xs,H b=some (.frz o (.lst xs))
def wb7{P:Program}{w:World}{K:Fg}{mg mb:Str->Option Value}{CX:CXT}{k:Nat}{fa a:Addr}{fd:FuncData}{x:Str}{sp:Sp}{s₁:Shared}{vs:List Value}{ns:List Int}
  (KX:K.In s₁.heap) (a8:s₁.heap.Ns mainGlobals mg) (hb:s₁.heap.Ns builtinsNs mb) (aa:∀x:Str,x≠"__name__"->mb x=bootBuiltins x) (a4:s₁.heap.NoLimit) (hg:s₁.gens=#[])
  (ha:s₁.heap.get? a=some {cls:=.type "list",data:=.seq vs.toArray}) (hi:IntsAre vs ns) (hl:↑ns<=sizeLine) (hr:Room k callerA)
  (F:∀base:Heap,K.In base->base.Ns mainGlobals mg->FnOk P w K mg base CX k fa fd [x] sp) (a2:∀(s:Shared)(u:Value),BindsTo s fd ⟨[u],[]⟩ [(x,u)])
  (ab:∀H:Hp,Only H->SqL K H a (ns.map V.int)->sp [.ref a] H (fun v _=>v=.bl true) fun _ _ _=>False)
  (ac:∀H e s',CX [] H s₁ (fun _ _ _=>False) e s'->False):
  codeAny (model P w) callerA (.call (.ref fa) ⟨[.ref a],[]⟩) (fun r s'=>r=.ok (.ret (.bool true))/\OldK s₁.heap s'.heap/\s'.os=s₁.os/\AllBare s'.gens) s₁:=by
 have rv:=yr9 hi;have a5:=↑hi;have a1:∀H:Hp,Only H->SqL K H a (ns.map V.int)->HOk P w H s₁.heap->(∀b,H b≠none->b=a)->(H a≠none->K.lookup a=none)->
   codeAny (model P w) callerA (.call (.ref fa) ⟨[.ref a],[]⟩) (fun r s'=>r=.ok (.ret (.bool true))/\OldK s₁.heap s'.heap/\s'.os=s₁.os/\AllBare s'.gens) s₁:=by
  intro H hO hS hok hA hK;have a0:∀{b:Addr}{o:Obj},s₁.heap.get? b=some o->H b=none->(hidT s₁.heap H).get? b=some o:=fun e n=>wb9 e n;have a9:∀{b:Addr}{o:Obj}{es:Array DictEntry}{ep:Nat},s₁.heap.get? b=some o->o.data=.dict es ep->H b=none:=fun {b o es ep} e d=>by
   cases q:H b with
   | none=>rfl
   | some u=>
    have e':b=a:=hA b (by rw[q];simp);subst e';rw[ha]at e;cases e;have d':Data.seq vs.toArray _=Data.dict es ep:=d;cases d'
  have a3:∀{b:Addr}{m:Str->Option Value},s₁.heap.Ns b m->(hidT s₁.heap H).Ns b m:=fun {b m} ⟨o,es,ep,e,d,r⟩=>⟨o,es,ep,a0 e (a9 e d),d,r⟩;have a7:K.In (hidT s₁.heap H):=fun b o e=>a0 (KX b o e) (by
   cases q:H b with
   | none=>rfl
   | some u=>
    have e':b=a:=hA b (by rw[q];simp);subst e';rw[hK (by rw[q];simp)]at e;cases e)
  have hM:Mod K mg (hidT s₁.heap H):=⟨a7,a3 a8,⟨mb,a3 hb,aa⟩,let ⟨mc,h1,h2⟩:=a4;⟨mc,a3 h1,h2⟩⟩;have e0:Env0 P w K mg (hidT s₁.heap H) callerA [] s₁ H:=⟨rfl,hM,fun b o e=>wq9 e,Nat.le_of_eq (xv4 _ _),trivial,fun b hb=>absurd (show b∈([]:List Addr) from hb) (by simp),hok,.of_eq hg⟩;refine codeAny_mono ((F _ a7 (a3 a8)).run callerA [] s₁ H ⟨[.ref a],[]⟩ [.ref a] [.ref a] _ _ hr e0 (a2 s₁ (.ref a)) (.cons rfl .nil) (ab H hO hS)) fun r s' h=>?_;cases r with
  | error e=>exact(ac H e s' h).elim
  | ok fl=>
   cases fl with
   | next=>exact False.elim h
   | brk=>exact False.elim h
   | cont=>exact False.elim h
   | ret u=>
    obtain⟨v,H',os,bare,un,a6,r',q⟩:=h;have q':v=.bl true:=q;subst q';obtain rfl:u=Value.bool true:=r';refine⟨rfl,OldK.of_keep fun b o e=>?_,os,bare⟩;cases q:H b with
    | none=>exact un.keep b o e q (by intro z;exact absurd (show b∈([]:List Addr) from z) (by simp)) (by simp)
    | some u=>
     rcases hO b with z | ⟨ob,xs,z⟩
     .rw[q]at z;cases z
     .have z2:=un.frzs b ob _ z;obtain⟨e1,_⟩:=hok b _ z;obtain⟨e2,_⟩:=a6 b _ z2;rw[e]at e1;cases e1;exact e2
 cases hk:K.lookup a with
 | some o=>
  have e:=KX a o hk;rw[ha]at e;cases e;refine a1 (fun _=>none) (fun _=>.inl rfl) (.inr ⟨_,vs.toArray,_,hk,rfl,rfl,rfl,by rw[vc0,a5];exact hl,by simpa using rv⟩) (fun b u z=>by have z':(none:Option HO)=some u:=z;cases z') (fun b z=>absurd rfl z) fun z=>absurd rfl z
 | none=>
  refine a1 (fun b=>if b=a then some (.frz {cls:=.type "list",data:=.seq vs.toArray} (.lst (ns.map V.int))) else none) (fun b=>?_) (.inl (.inr ⟨{cls:=.type "list",data:=.seq vs.toArray},vd3 rfl⟩)) (fun b u z=>?_) (fun b z=>?_) fun _=>hk
  .by_cases hb:b=a
   .exact .inr ⟨_,_,vd3 hb⟩
   .exact .inl (vd0 hb)
  .by_cases hb:b=a
   .have z':=(vd3 hb).symm.trans z;cases z';subst hb;exact⟨ha,by rw[lqm];exact hl,vs,_,rv,ha⟩
   .have z':=(vd0 hb).symm.trans z;cases z'
  .by_cases hb:b=a
   .exact hb
   .exact absurd (vd0 hb) z
def wv0{l:PySem.W.OpenLaw}{n k:Nat}{q:Program}{a1:List Str}{XP:(Str->Option Value)->Heap->Prop}{YP:World->Heap->Prop}{d:DefRec}{K:Params->Fg}{CX:World->CXT}{sp:World->Sp}{x:Str}
  (hn:l.most=some n) (a4:n<=sizeLine) (a8:d.params.defaults=[]) (hr:Room k callerA)
  (hY:∀(w:World)(h:Heap),YP w h->(K w.params).In h)
  (F:∀(w:World)(mg:Str->Option Value)(fa:Addr)(h:Heap),(K w.params).In h->h.Ns mainGlobals mg->mg d.name=some (.ref fa)->
   ∃fd:FuncData,(∀(s:Shared)(u:Value),BindsTo s fd ⟨[u],[]⟩ [(x,u)])/\
    ∀base:Heap,(K w.params).In base->base.Ns mainGlobals mg->FnOk l.prog w (K w.params) mg base (CX w) k fa fd [x] (sp w))
  (a6:∀(w:World)(H:Hp)(a:Addr)(ns:List Int),↑ns<=n->Only H->SqL (K w.params) H a (ns.map V.int)->sp w [.ref a] H (fun v _=>v=.bl true) fun _ _ _=>False)
  (a7:∀(w:World)(H:Hp)(s:Shared)(e:Value)(s':Shared),CX w [] H s (fun _ _ _=>False) e s'->False):
  PySem.W.WalkO q a1 XP YP l.row.toRowW d [] (fun f vs=>PySem.call f vs):=by
 refine Att.attach_call hn a8 fun w s₀ s₁ mg mb fa o pm cd a9 a vs ns G Y ho hd aa a5 a3 a2 a0 hg=>?_;have KX:=hY w _ Y;obtain⟨fd,hb,hF⟩:=F w mg fa _ KX G.T.g a5;exact wb7 KX G.T.g G.T.b G.T.builtins G.T.nolimit hg a3 a2 (vh1 a0 a4) hr hF hb (fun H hO hS=>a6 w H a ns a0 hO hS) fun H e s'=>a7 w H s₁ e s'
def zr5(s:Stmt):Arguments:=match s with
 | .FunctionDef _ a _ _ _ _ _ _ _ _=>a
 | _=>{posonlyargs:=[],args:=[],vararg:=none,kwonlyargs:=[],kw_defaults:=[],kwarg:=none,defaults:=[]}
def zg6(s:Stmt):List Stmt:=match s with
 | .FunctionDef _ _ b _ _ _ _ _ _ _=>b
 | _=>[]
def zc1(s:Stmt):Scope:=match s with
 | .FunctionDef _ _ _ _ _ _ sc _ _ _=>sc
 | _=>{kind:=.function,names:=[],isGenerator:=false,isCoroutine:=false}
abbrev CX0:CXT:=fun _ _ _ _ _ _=>False
abbrev E0:XK:=fun _ _ _=>False
def pass0:xv1 CX0 X E0:=fun _ _ _ _ _ _ _ h=>h.elim
structure Fun(K:Fg)(x qual:Str)(st:Stmt)(f:Addr)(fd:FuncData):Prop where
 ex:∃(oc:Value)(od:Option Addr)(kV doc pm:Value)(an:Option Addr)(cdv ct:Value)(osl:Array (Option Value)),
  fd=PySem.W.fnOf x qual (zr5 st) (zg6 st) (zc1 st) .none kV doc pm an cdv ct/\K.lookup f=some ⟨oc,od,.func fd,osl⟩/\PySem.W.codeIn K cdv qual=true
 kp:PySem.W.keepIn K (.ref f)=true
section
variable{P:Program}{w:World}{K:Fg}{mg:Str->Option Value}{base:Heap}
def Fun.ok{x qual:Str}{st:Stmt}{f:Addr}{fd:FuncData}{N ps:List Str}{k:Nat}{sp:Sp}(F:Fun K x qual st f fd)(S:zd0 N ps (zc1 st))(len:∀vs H Q E,sp vs H Q E->↑vs=↑ps)
  (a0:∀(a1:Value)(A:Around)(outer:List Env)(s:Shared)(H:Hp)(vs:List V)(Q:VK)(E:XK),Room k (A.deeper (envOfC qual (zc1 st) s⁻¹ f a1))->sp vs H Q E->
   ∃t,PSs (cxOf CX0 P w K mg base N qual (zc1 st) f a1 A outer s H E).nox (zg6 st) t/\t {nx:=fun _ H'=>Q .non H',rt:=Q} (start N vs) H):FnOk P w K mg base CX0 (k+1) f fd ps sp:=by
 obtain⟨oc,od,kV,a4,pm,an,a1,ct,a5,rfl,lk,a2⟩:=F.ex;refine fn_of lk a2 S len fun A outer s H vs Q E hr a3=>?_;obtain⟨t,h,q⟩:=a0 a1 A outer s H vs Q E hr a3;exact⟨t,h.nox,q⟩
def Fun.binds{x qual:Str}{st:Stmt}{f:Addr}{fd:FuncData}{ps:List Str}(F:Fun K x qual st f fd)
  (h:∀(kV a1 pm:Value)(an:Option Addr)(a0 ct:Value)(us:List Value),↑us=↑ps->bindArgs (PySem.W.fnOf x qual (zr5 st) (zg6 st) (zc1 st) .none kV a1 pm an a0 ct) ⟨us,[]⟩=pure (ps.zip us)):Binds K fd ps []:=by
 obtain⟨oc,od,kV,a1,pm,an,a0,ct,a3,rfl,lk,a2⟩:=F.ex;exact .all (h kV a1 pm an a0 ct)
def wj2{x qual:Str}{st:Stmt}{f:Addr}{oc:Value}{od an:Option Addr}{a2:Array (Option Value)}{kV a1 pm a0 ct:Value}(l:K.lookup f=some ⟨oc,od,.func (PySem.W.fnOf x qual (zr5 st) (zg6 st) (zc1 st) .none kV a1 pm an a0 ct),a2⟩)
  (c:PySem.W.codeIn K a0 qual=true) (k:PySem.W.keepIn K (.ref f)=true):Fun K x qual st f (PySem.W.fnOf x qual (zr5 st) (zg6 st) (zc1 st) .none kV a1 pm an a0 ct):=⟨⟨oc,od,kV,a1,pm,an,a0,ct,a2,rfl,l,c⟩,k⟩
end
def zn5(hr:Room k A):A.units+1<cLine:=Nat.lt_of_le_of_lt (Nat.add_le_add_left (by decide:1<=64) _) hr.units
def zb8(h:n<=1000):n<sizeLine:=Nat.lt_of_le_of_lt h (by decide)
def sz9{n:Nat}(h:Nat.ble n 1000=true):n<=sizeLine:=vb5 (zb8 (Nat.le_of_ble_eq_true h))
def pv(i:Nat)(hN:X.N[i]?=some x:=by rfl)(hv:Vis X.env.scope x:=by first | exact vt9 rfl | exact Or.inr (vt9 rfl) | exact Or.inr (Or.inr rfl))(hd:(x == ("__debug__":Str))=false:=by decide)(a0:(x == ("__classdict__":Str))=false:=by decide):PE X (.Name x pos) (tVar i):=xr1 hN hv hd a0
def yt0:CallR X (.builtin "len") (fun xs H Q=>∃a kvs,xs=[V.ref a]/\H a=some (.dK kvs)/\Q (.int ↑kvs) H):=by
 intro a0 s σ H xs us Q I r h;obtain⟨a,kvs,rfl,ha,q⟩:=h;obtain⟨u,rfl,ru⟩:=zp8 r;cases ru;exact d_len I (.inl ha) fun t s' I'=>⟨.int ↑kvs,H,I',⟨t,rfl⟩,q⟩
def iteF{A B:Prop}(h:B):if false=true then A else B:=by
 rw[vd0 vb6];exact h
def iteT{A B:Prop}(h:A):if true=true then A else B:=by
 rw[vd3 rfl];exact h
def ite2{c A B:Prop}[Decidable c](h1:c->A)(h2:¬c->B):if c then A else B:=by
 by_cases h:c
 .rw[vd3 h];exact h1 h
 .rw[vd0 h];exact h2 h
section
variable{κ:Type}[DecidableEq κ]
def zz5{kvs:List (κ×V)}{k:κ}(h:valV kvs k=none):¬k∈kvs.map (·.1):=by
 intro m;obtain⟨p,hp,e⟩:=vb9.mp m;have q:(kvs.any fun kv=>decide (kv.1=k))=true:=vt4.mpr ⟨p,hp,vd1 e⟩;rw[zm6,h]at q;exact absurd q (by simp)
def yn8{kvs:List (κ×V)}{k:κ}{v:V}(h:valV kvs k=some v):k∈kvs.map (·.1):=by
 have q:(kvs.any fun kv=>decide (kv.1=k))=true:=by
  rw[zm6,h]
  all_goals rfl
 obtain⟨p,hp,e⟩:=vt4.mp q;exact vb9.mpr ⟨p,hp,vb3 e⟩
def yf7:∀{l:List κ}{k:κ},l.Nodup->¬k∈l->(l++[k]).Nodup
 | [],k,_,_=>by simp
 | a::r,k,h,hk=>by
  obtain⟨h1,h2⟩:=vh6.mp h;show(a::(r++[k])).Nodup;refine vh6.mpr ⟨fun m=>?_,yf7 h2 fun m=>hk (vb4.mpr (Or.inr m))⟩;rcases vc4.mp m with q | q
  .exact h1 q
  .exact hk (vb4.mpr (vt9 (vc7.mp q).symm))
end
def clOf(env:Env):List (Str×NameKind)->List (Str×Addr)
 | []=>[]
 | (n,k)::r=>clOf env r++(if k=.free then [(n,(env.cells.lookup n).getD 0)] else [])
def zv8:∀(l:List (Str×NameKind))(cs:List (Str×Addr)),(∀y∈l,y.2=.free->∃c,env.cells.lookup y.1=some c)->
  (forIn l cs fun(x:Str×NameKind) (r:List (Str×Addr))=>if (x.2 == .free)=true then(do let c <-cellOf env x.1;pure (ForInStep.yield ((x.1,c)::r)):Sem (ForInStep (List (Str×Addr)))) else pure (ForInStep.yield r))=pure (clOf env l++cs)
 | [],cs,_=>by simp[clOf]
 | (n,k)::r,cs,h=>by
  rw[vv6]
  by_cases hk:k=.free
  .subst hk;obtain⟨c,hc⟩:=h (n,.free) (by simp) rfl;have e:cellOf env n=pure c:=by unfold cellOf;rw[hc]
   simp only[vr3,if_true,e,pure_bind];rw[zv8 r ((n,c)::cs) fun y hy=>h y (vf6 _ hy)];simp[clOf,hc]
  .have hb:(k == NameKind.free)=false:=by simpa using hk
   simp only[hb,vj6,vp8,pure_bind];rw[zv8 r cs fun y hy=>h y (vf6 _ hy)];simp[clOf,hk]
def zj2(h:∀y∈scope.names,y.2=.free->∃c,env.cells.lookup y.1=some c):closureFor scope env=pure (clOf env scope.names):=by
 have e:=zv8 (env:=env) scope.names [] h;rw[vh4]at e;unfold closureFor;refine Eq.trans ?_ (vg1 (fun z=>z >>= pure) e);rfl
def yk6:∀{l:List (Str×NameKind)},(x,c)∈clOf env l->(x,NameKind.free)∈l/\c=(env.cells.lookup x).getD 0
 | [],h=>by simp[clOf]at h
 | (n,k)::r,h=>by
  unfold clOf at h;rcases vc4.mp h with h | h
  .obtain⟨h1,h2⟩:=yk6 h;exact⟨vf6 _ h1,h2⟩
  .by_cases hk:k=.free
   .rw[vd3 hk]at h;have e:=vc7.mp h;cases e;subst hk;exact⟨by simp,rfl⟩
   .rw[vd0 hk]at h;simp at h
def xb0:∀{l:List (Str×NameKind)},(x,NameKind.free)∈l->(x,(env.cells.lookup x).getD 0)∈clOf env l
 | [],h=>by simp at h
 | (n,k)::r,h=>by
  unfold clOf;rcases vb4.mp h with h | h
  .cases h;exact vd4 _ (by simp)
  .exact vp6 _ (xb0 h)
def zn9:∀{l:List (Str×Addr)},(x,v)∈l->(∀w,(x,w)∈l->w=v)->l.lookup x=some v
 | [],h,_=>by simp at h
 | (n,w)::r,h,u=>by
  rw[vx4]
  by_cases e:x=n
  .subst e;simp[u w (by simp)]
  .have hb:(x == n)=false:=by simpa using e
   rw[hb];rcases vb4.mp h with h | h
   .cases h;exact absurd rfl e
   .exact zn9 h fun w' hw=>u w' (vf6 _ hw)
def yx5(h:(x,NameKind.free)∈l):(clOf env l).lookup x=some ((env.cells.lookup x).getD 0):=
 zn9 (xb0 h) fun w hw=>(yk6 hw).2
def blk(X:Cx)(scope:Scope)(N':List Str)(s3:Shared)(H3:Hp)(C:Addr)(fp:List Addr):Cx:=
 {X with N:=N',s₀:=s3,H₀:=H3,env:=compEnvC scope (clOf X.env scope.names) C X.env,outer:=X.stack,stack:=X.stack,ex:=fp,fn:=fun x=>((clOf X.env scope.names).lookup x).isNone,pn:=[],xe:=fun _ _=>False}
structure BlkN(X:Cx)(scope:Scope)(N':List Str)(src:List (Option Nat)):Prop where
 kind:scope.kind=.function
 nocell:(scope.names.all fun y=>decide (y.2≠.cell))=true
 locs:(scope.names.all fun y=>decide (y.2=.local->scope.names.lookup y.1=some .local))=true
 frees:(scope.names.all fun y=>decide (y.2=.free->X.env.kindOf y.1=some .cell\/X.env.kindOf y.1=some .free))=true
 slen:↑src=N'.length
 cap:((N'.zip src).all fun p=>match p.2 with | some j=>decide (X.N[j]?=some p.1) && decide ((p.1,NameKind.free)∈scope.names) | none=>true)=true
def sub(src:List (Option Nat))(σ:St):St:=src.map fun o=>o.bind fun j=>(σ[j]?).join
def zr8(h:(relabel scope env).names.lookup x=some k):(x,k)∈scope.names\/(k=.cell/\(x,NameKind.free)∈scope.names):=by
 have m:=vn2 h;obtain⟨⟨n,k'⟩,hm,e⟩:=vb9.mp m;dsimp only at e
 split at e
 .rename_i hc
  cases e;have:k'=.free:=by
   simp only[vp4,vd6]at hc;exact hc.1.1
  subst this;exact .inr ⟨rfl,hm⟩
 .cases e;exact .inl hm
def zx8{env:Env}:∀{names:List (Str×NameKind)},(x,NameKind.free)∈names->(∀k,(x,k)∈names->k≠.local/\k≠.globalExplicit/\k≠.globalImplicit/\k≠.cell)->
  let q:=(names.map fun(n,k)=>if (k == NameKind.free && env.scope.kind == .function && env.kindOf n == some .cell) then(n,NameKind.cell) else(n,k)).lookup x
  q=some .cell\/q=some .free
 | [],h,_=>by simp at h
 | (n,k)::r,h,u=>by
  intro q;show List.lookup x ((if (k == NameKind.free && env.scope.kind == .function && env.kindOf n == some .cell)=true then(n,NameKind.cell) else(n,k))::_)=_\/List.lookup x ((if (k == NameKind.free && env.scope.kind == .function && env.kindOf n == some .cell)=true then(n,NameKind.cell) else(n,k))::_)=_
  by_cases e:x=n
  .subst e;obtain⟨u1,u2,u3,u4⟩:=u k (by simp);have hk:k=.free:=by cases k <;> simp_all
   subst hk
   by_cases hc:(NameKind.free == NameKind.free && env.scope.kind == .function && env.kindOf x == some .cell)=true
   .rw[vd3 hc];left;simp[vx4]
   .rw[vd0 hc];right;simp[vx4]
  .have hb:(x == n)=false:=by simpa using e
   have ih:=zx8 (env:=env) (names:=r) (x:=x) ((vb4.mp h).resolve_left fun z=>e (by cases z;rfl)) fun k' a0=>u k' (vf6 _ a0)
   split
   .simp only[vx4,hb];exact ih
   .simp only[vx4,hb];exact ih
section
def BlkN.cells(B:BlkN X scope N' src)(ok:X.Ok)(h:(x,NameKind.free)∈scope.names):∃c,X.env.cells.lookup x=some c/\(clOf X.env scope.names).lookup x=some c:=by
 have q:=vb3 (vf2.mp B.frees (x,.free) h);obtain⟨c,hc⟩:=ok.has x (q rfl);exact⟨c,hc,by rw[yx5 h,hc];rfl⟩
def BlkN.back(B:BlkN X scope N' src)(ok:X.Ok)(h:(clOf X.env scope.names).lookup x=some c):X.env.cells.lookup x=some c/\(x,NameKind.free)∈scope.names:=by
 obtain⟨h1,h2⟩:=yk6 (vn2 h);obtain⟨c',e1,e2⟩:=B.cells ok h1;rw[h]at e2;cases e2;exact⟨e1,h1⟩
def BlkN.captured(B:BlkN X scope N' src){i j:Nat}{x:Str}(h1:N'[i]?=some x)(h2:src[i]?=some (some j)):X.N[j]?=some x/\(x,NameKind.free)∈scope.names:=by
 have hz:(N'.zip src)[i]?=some (x,some j):=by
  rw[vr7];exact⟨h1,h2⟩
 have q:=vf2.mp B.cap (x,some j) (vb0 hz);have q':(decide (X.N[j]?=some x) && decide ((x,NameKind.free)∈scope.names))=true:=q;rw[vp4]at q';exact⟨vb3 q'.1,vb3 q'.2⟩
def yf6(B:BlkN X scope N' src)(I:Inv X pins σ H3 s3)(hf:∀b∈fp,FpOk X pins H3 b)(a4:∀b∈fp,b<s3⁻¹)(a3:∀x k,(x,k)∈scope.names->k=.free->∀k',(x,k')∈scope.names->k'=.free)
  (hC:C=s3⁻¹) (hn:s4.heap.Ns C (fun _=>none)) (hk:∀b o,s3.heap.get? b=some o->s4.heap.get? b=some o) (ho:s4.os=s3.os) (hg:s4.gens=s3.gens):
  Inv (blk X scope N' s3 H3 C fp) [] (sub src σ) H3 s4:=by
 subst hC;have ok:=I.ok;exists ⟨ok.mod,B.kind,ok.glob,ok.blt,wz6 _,fun x y c h1 h2=>?_,fun x h=>?_,fun x c h1 h2=>?_,ok.hd,ok.frames,.inl rfl,fun b hb=>⟨vb7 (a4 b hb),fun x c h=>?_⟩,I.bs,vh1 ok.bsz I.sz,fun b o e hb=>?_,fun b hb hs=>?_,I.stack,I.stkFree⟩,
  ho,?_,Un.kept hk,⟨_,hn,fun i x v h1 h2 h3=>?_⟩,fun x c h=>?_,I.hok.fresh (wz6 _),fun x c h=>I.freeC x c (B.back ok h).1,fun p hp=>absurd (show p∈([]:List (Addr×Obj)) from hp) (by simp),I.hok.kept hk
 .exact ok.inj x y c (B.back ok h1).1 (B.back ok h2).1
 .have h:(relabel scope X.env).names.lookup x=some .cell\/(relabel scope X.env).names.lookup x=some .free:=h;have hm:(x,NameKind.free)∈scope.names:=by
   rcases h with h | h
   .rcases zr8 h with q | ⟨_,q⟩
    .exact absurd rfl (vb3 (vf2.mp B.nocell _ q))
    .exact q
   .rcases zr8 h with q | ⟨z,_⟩
    .exact q
    .cases z
  obtain⟨c,_,e⟩:=B.cells ok hm;exact⟨c,e⟩
 .have h1:((clOf X.env scope.names).lookup x).isNone=true:=h1;have h2:(clOf X.env scope.names).lookup x=some c:=h2;rw[h2]at h1;simp at h1
 .exact(hf b hb).2.2.2.2.1 x c (B.back ok h).1
 .rcases(hf b hb).2.2.2.1 with z | z
  .exact ok.noex b o e z
  .exact absurd (vf3 (vb1 e) (vh1 ok.bsz z)) (vj1 _)
 .rcases vb4.mp (I.stkSub b hs)with z | z
  .exact(hf b hb).2.1 z
  .exact(hf b hb).2.2.1 z
 .rw[hg];exact I.bare
 .have a5:∃j,src[i]?=some (some j)/\σ[j]?=some (some v):=by
   have h2:(src.map fun o=>o.bind fun j=>(σ[j]?).join)[i]?=some (some v):=h2;rw[wz5]at h2;cases e:src[i]? with
   | none=>rw[e]at h2;cases h2
   | some o=>
    rw[e]at h2;cases o with
    | none=>cases h2
    | some j=>
     exists j,rfl;have h2:some ((σ[j]?).join)=some (some v):=h2;cases e2:σ[j]? with
     | none=>rw[e2]at h2;cases h2
     | some z=>rw[e2]at h2;cases z with
      | none=>cases h2
      | some z=>cases h2;rfl
  obtain⟨j,hj,hv⟩:=a5;obtain⟨hN,hm⟩:=B.captured h1 hj;obtain⟨c,hc,a1⟩:=B.cells ok hm;have kk:=vb3 (vf2.mp B.frees _ hm) rfl;obtain⟨m,_,hl⟩:=I.loc;have a0:Vis X.env.scope x:=by
   rcases kk with z | z
   .exact .inr (.inl z)
   .exact .inr (.inr z)
  obtain⟨u,ru,lk⟩:=hl j x v hN hv a0;refine⟨u,ru,.inr ⟨?_,c,a1,?_⟩⟩
  .exact zx8 hm fun k a2=>by
    have:=a3 x .free hm rfl k a2;subst this;exact⟨by decide,by decide,by decide,by decide⟩
  .rcases lk with ⟨z,_⟩ | ⟨_,c',e',⟨o,eo,ed⟩⟩
   .rcases kk with y | y <;> (rw[z]at y;cases y)
   .rw[hc]at e';cases e';exact⟨o,hk _ _ eo,ed⟩
 .obtain⟨v,o,e,d⟩:=I.cell x c (B.back ok h).1;exact⟨v,o,hk _ _ e,d⟩
 .show(sub src σ).length=N'.length;unfold sub;rw[lqm];exact B.slen
end
def yr7(I:Nat->Shared->Prop) (turn:∀n s,I n s->wpAny (model prog w) A (pyNext it) (fun r s₁=>match r with
   | none=>R (.ok .next) s₁
   | some v=>wpAny (model prog w) A (letOwnedTupleGo target it v) (fun _ s₁=>wpAny (model prog w) A (assign target env v) (fun _ s₂=>
     wpAny (model prog w) A (forIn ifs true fun c r=>if r=true then do let ok <-isTrue c env (eval c env);pure (ForInStep.yield ok) else pure (ForInStep.yield r)) (fun ok s₃=>
      if ok=true then wpAny (model prog w) A (eval elt env) (fun x s₄=>
       wpAny (model prog w) A (call (.builtin "list.append") [acc,x]) (fun _ s₅=>∃m,m<n/\I m s₅) (fun _ _=>False) s₄) (fun _ _=>False) s₃
      else ∃m,m<n/\I m s₃) (fun _ _=>False) s₂) (fun _ _=>False) s₁) (fun _ _=>False) s₁) (fun _ _=>False) s) (n:Nat) (h:I n s):
  codeAny (model prog w) A (.compLoop (.ListComp elt [⟨target,iter,ifs,0⟩] scope pos) 0 it acc env) R s:=by
 refine codeAny_loop rfl I (fun n s hI=>?_) n h;show wpAny _ A ((compTurn (.ListComp elt [⟨target,iter,ifs,0⟩] scope pos) 0 it acc env).onRaise (fun x=>do noteFrame x env;theTreesLotGoes x)) _ _ s;refine wpAny_noted ?_;rw[compTurn_list];refine zz1 (vs6 (zz1 (vj4 (turn n s hI) (fun r s₁ h₁=>?_) fun _ _ h'=>h'.elim)));cases r with
 | none=>exact wz7 h₁
 | some v=>
  refine zz1 (vj4 h₁ (fun _ s₁ h₁=>?_) fun _ _ h'=>h'.elim);refine zz1 (vj4 h₁ (fun _ s₂ h₂=>zz1 (vj4 h₂ (fun ok s₃ h₃=>?_) fun _ _ h'=>h'.elim)) fun _ _ h'=>h'.elim);cases ok with
  | false=>exact wz7 ⟨rfl,h₃⟩
  | true=>
   exact zz1 (zz1 (vj4 h₃ (fun x s₄ h₄=>zz1 (vj4 h₄ (fun _ s₅ h₅=>wz7 (wz7 ⟨rfl,h₅⟩)) fun _ _ h'=>h'.elim)) fun _ _ h'=>h'.elim))
def PTs(X:Cx)(ifs:List Expr)(t:TT):Prop:=
 ∀(pins:List (Addr×Obj))(s:Shared)(σ:St)(H:Hp)(Q:Bool->Hp->Prop),Inv X pins σ H s->t σ H Q->
  wpAny (model X.prog X.w) X.A (forIn ifs true fun c r=>if r=true then do let ok <-isTrue c X.env (eval c X.env);pure (ForInStep.yield ok) else pure (ForInStep.yield r)) (TP X pins σ Q) X.xe s
def tAll:TT:=fun _ H Q=>Q true H
def zg2:PTs X [] tAll:=fun _ _ _ H _ I h=>wpAny_tests_nil ⟨H,I,h⟩
def zr6(h:PT X c t):PTs X [c] t:=fun a0 s σ H Q I q=>wpAny_tests_one (h a0 s σ H Q I q)
def yg5(J:It)(g:TG)(tt:TT)(te:TE)(D:Addr)(σ0:St)(H0:Hp)(Q:Hp->Prop):Prop:=
 ∃W:Nat->Nat->St->Hp->Prop,(∃m,W 0 m σ0 H0)/\∀i m σ H,W i m σ H->
 (J.stop i H/\Q H)\/(J.go i H/\∃N:St->Hp->Prop,(∀σ' H',N σ' H'->∃m',m'<m/\W (i+1) m' σ' H')/\∀x H',J.yld i H x H'->g x σ H' fun σ2 H2=>tt σ2 H2 fun b H3=>
  if b=true then te σ2 H3 fun v H4=>∃xs,H4 D=some (.lst xs)/\↑xs<sizeLine/\N σ2 (upd H4 D (.lst (xs++[v]))) else N σ2 H3)
section
def yh5{ab tg a8:Expr}{af:List Expr}{pos:Pos}{it:Addr}{fp:List Addr}{tn:Nat->Heap->Prop}{J:It}{g:TG}{tt:TT}{te:TE}{Q:Addr->Hp->Prop}
  {RR:Value->Addr->Result->Shared->Prop} {E:Vp} (hc:X.calm=true)
  (B:BlkN X scope N' src) (az:∀x k,(x,k)∈scope.names->k=.free->∀k',(x,k')∈scope.names->k'=.free) (T:Turn X.prog X.w X.K tg J fp it tn) (I:Inv X pins σ H2 s2) (h0:tn 0 s2.heap) (hf:∀b∈fp,FpOk X pins H2 b)
  (hg:∀s3 H3 C,PG (blk X scope N' s3 H3 C fp) tg g) (ht:∀s3 H3 C,PTs (blk X scope N' s3 H3 C fp) af tt) (he:∀s3 H3 C,PE (blk X scope N' s3 H3 C fp) ab te)
  (hw:∀D,H2 D=none->yg5 J g tt te D (sub src σ) (upd H2 D (.lst [])) (Q D))
  (hQ:∀D C H' s',C≠D->(∃m,s'.heap.Ns C m)->(∀ad ,Heap.SameBut C s'.heap ad->Inv X pins σ H' {s' with heap:=ad})->Inv X pins σ H' s'->H' C=none->C≠X.env.locals->(∀x c,X.env.cells.lookup x=some c->c≠C)->X.s₀⁻¹<=C->(∀p∈X.pn++pins,p.1≠C)->Q D H'->RR (.ref D) C (.ok .next) s'):
  wpAny (model X.prog X.w) X.A (newList []) (fun ai s₃=>wpAny (model X.prog X.w) X.A (newFunctionEnv scope X.env.globals (clOf X.env scope.names) [] X.env.qual none .none (some X.env)) (fun a7 s₄=>
   codeAny (model X.prog X.w) X.A (.compStart (.ListComp ab [⟨tg,a8,af,0⟩] scope pos) 0 (.ref it) ai {a7 with scope:=relabel scope X.env}) (RR ai a7.locals) s₄) E s₃) E s2:=by
 have a9:∀y∈scope.names,y.2≠.cell:=fun y hy=>vb3 (vf2.mp B.nocell y hy);refine vg5 (wpAny_newFunctionEnv a9 (by intro y hy;simp at hy) (fun h₁ a5 a2=>?_) B.kind);dsimp only at a5 a2 ⊢;have aw:H2 s2⁻¹=none:=I.hok.fresh (wz6 _);have I3:Inv X pins σ (upd H2 s2⁻¹ (.lst [])) {s2 with heap:=s2.heap.push {cls:=.type "list",dict:=none,data:=.seq ([]:List Value).toArray}}:=
  I.laid (t':=s2.toks) (fun b o e=>wz3 _ e) (wz6 _) ⟨vc9 _,[],_,.nil,vb8 _ rfl⟩
 generalize hH3:(s2.heap.push {cls:=.type "list",dict:=none,data:=.seq ([]:List Value).toArray})=a0 at a5 a2 I3 ⊢;have ag:a0.objs.size=s2⁻¹+1:=by rw[<-hH3,vt6]
 have a3:∀b o,s2.heap.get? b=some o->a0.get? b=some o:=fun b o e=>by rw[<-hH3];exact wz3 _ e
 have a1:∀b o,a0.get? b=some o->h₁.get? b=some o:=fun b o e=>a2.extBut b o (vb7 (vb1 e)) (wz3 _ e);have a4:s2⁻¹<a0.objs.size:=by rw[ag];exact Nat.lt_succ_self _
 have ao:∀b∈fp,FpOk X pins (upd H2 s2⁻¹ (.lst [])) b:=fun b hb=>by
  obtain⟨o,e,_⟩:=T.obj _ _ h0 b hb;refine⟨?_,(hf b hb).2⟩;rw[zb5 (vb7 (vb1 e))];exact(hf b hb).1
 have a6:∀b∈fp,b<a0.objs.size:=fun b hb=>by
  obtain⟨o,e,_⟩:=T.obj _ _ h0 b hb;exact vj0 (vb1 e) a4
 have b1:=yf6 (fp:=fp) (C:=a0.objs.size) (s4:={s2 with heap:=h₁,toks:=s2.toks+↑([]:List (Str×Value))}) B I3 ao a6 az rfl a5 a1 rfl rfl;have al:tn 0 h₁:=T.keep _ _ _ h0 fun b hb o e=>a1 b o (a3 b o e);obtain⟨W,⟨m0,w0⟩,turn⟩:=hw s2⁻¹ aw;have ac:∀{H':Hp},(∀b∈fp,H' b=none)->∀b∈fp,FpOk (blk X scope N' {s2 with heap:=a0} (upd H2 s2⁻¹ (.lst [])) a0.objs.size fp) [] H' b:=fun hn b hb=>by
  refine⟨hn b hb,vb7 (a6 b hb),?_,.inl hb,fun x c h=>(hf b hb).2.2.2.2.1 x c (B.back I.ok h).1,fun p hp=>absurd (show p∈([]:List (Addr×Obj)) from hp) (by simp)⟩;intro z;rcases vb4.mp (I3.stkSub b z)with y | y
  .exact(hf b hb).2.1 y
  .exact(hf b hb).2.2.1 y
 have ar:∀(s':Shared)(σ':St)(H':Hp),Inv (blk X scope N' {s2 with heap:=a0} (upd H2 s2⁻¹ (.lst [])) a0.objs.size fp) [] σ' H' s'->Q s2⁻¹ H'->RR (.ref s2⁻¹) a0.objs.size (.ok .next) s':=fun s' σ' H' J' q=>by
  obtain⟨hh,gg,dd,aa,aq⟩:=s';have b2:aq=s2.os:=J'.os;subst b2;have IX:Inv X pins σ H' {({s2 with heap:=a0}:Shared)with heap:=hh,gens:=gg,drawn:=dd,toks:=aa}:=Inv.call (s:={s2 with heap:=a0}) I3 (h':=hh) (g':=gg) (d':=dd) (t':=aa) (ch:=fp) J'.base J'.hok J'.bare fun b hb=>⟨(hf b hb).2.2.2.1,(hf b hb).2.1,(hf b hb).2.2.2.2.1,(hf b hb).2.2.2.2.2⟩;have b6:s2⁻¹<=a0.objs.size:=vb5 a4;have ak:a0.objs.size≠X.env.locals:=vf1 I3.lt;have aj:∀x c,X.env.cells.lookup x=some c->c≠a0.objs.size:=fun x c e z=>by
   obtain⟨v,q⟩:=I3.cell x c e;exact absurd (show c<a0.objs.size from q.lt) (by rw[z];exact vj1 _)
  have ah:∀p∈X.pn++pins,p.1≠a0.objs.size:=fun p hp z=>by
   have:=vb1 (I3.pin p hp).1;exact absurd (show p.1<a0.objs.size from this) (by rw[z];exact vj1 _)
  have an:H' a0.objs.size=none:=J'.free;obtain⟨m,hm,_⟩:=J'.loc;refine hQ _ _ H' _ (vf1 a4) ⟨m,hm⟩ (fun ad sb=>?_) IX an ak aj (vh1 I3.sz (wz6 _)) ah q;exact IX.turned (t':=aa) (fun b o hb e=>(sb.2 b hb).trans e) an ak (.inr (vh1 I3.sz (wz6 _))) aj ah
 have loop:∀s₃:Shared,s₃={s2 with heap:=h₁,toks:=s2.toks+↑([]:List (Str×Value))}->
   codeAny (model X.prog X.w) X.A (.compLoop (.ListComp ab [⟨tg,a8,af,0⟩] scope pos) 0 (.ref it) (.ref s2⁻¹) (compEnvC scope (clOf X.env scope.names) a0.objs.size X.env))
    (RR (.ref s2⁻¹) a0.objs.size) s₃:=by
  rintro s₃ rfl;refine yr7 (fun n s'=>∃i σ' H',Inv (blk X scope N' {s2 with heap:=a0} (upd H2 s2⁻¹ (.lst [])) a0.objs.size fp) [] σ' H' s'/\tn i s'.heap/\(∀b∈fp,H' b=none)/\W i n σ' H') ?_ m0 ⟨0,_,_,b1,al,fun b hb=>(ao b hb).1,w0⟩;rintro n s5 ⟨i,σ5,H5,I5,ap,am,w5⟩;rcases turn i n σ5 H5 w5 with ⟨stop,qn⟩ | ⟨go,Nx,hN,step⟩
  .refine thn (T.done (blk X scope N' {s2 with heap:=a0} (upd H2 s2⁻¹ (.lst [])) a0.objs.size fp) rfl rfl rfl hc i [] s5 σ5 H5 _ I5 (ac am) ap stop) fun r s6 ⟨hr,I6⟩=>?_;subst hr;exact ar s6 σ5 H5 I6 qn
  .refine thn (T.item (blk X scope N' {s2 with heap:=a0} (upd H2 s2⁻¹ (.lst [])) a0.objs.size fp) rfl rfl rfl hc i [] s5 σ5 H5 _ I5 (ac am) ap go) fun r s6 ⟨u,hr,h6⟩=>?_;subst hr;refine thn h6 fun _ s7 ⟨x,H7,I7,r7,y7,ae,as⟩=>?_;have b5:=I7.pinned (ac as) (T.obj _ _ ae);refine thn (hg _ _ _ _ s7 σ5 H7 x u _ b5 r7 (step x H7 y7)) fun _ s8 ⟨σ8,H8,I8,q8⟩=>?_;refine thn (ht _ _ _ _ s8 σ8 H8 _ I8 q8) fun ok s9 ⟨H9,I9,q9⟩=>?_;have again:∀{σa:St}{Ha:Hp}{sa:Shared},Inv (blk X scope N' {s2 with heap:=a0} (upd H2 s2⁻¹ (.lst [])) a0.objs.size fp) ([]++yf5 fp s7.heap) σa Ha sa->Nx σa Ha->
     ∃m,m<n/\∃i σ' H',Inv (blk X scope N' {s2 with heap:=a0} (upd H2 s2⁻¹ (.lst [])) a0.objs.size fp) [] σ' H' sa/\tn i sa.heap/\(∀b∈fp,H' b=none)/\W i m σ' H':=fun {σa Ha sa} Ia na=>by
    obtain⟨m',hm,wa⟩:=hN σa Ha na;refine⟨m',hm,i+1,σa,Ha,Ia.unpinned,T.keep _ _ _ ae fun b hb o e=>(Ia.pin (b,o) (vd4 _ (vd4 _ (zj1 hb e)))).1,fun b hb=>?_,wa⟩;obtain⟨o,e,d⟩:=T.obj _ _ ae b hb;exact(Ia.pin (b,o) (vd4 _ (vd4 _ (zj1 hb e)))).2.1
   cases ok with
   | false=>exact again I9 q9
   | true=>
    refine thn (he _ _ _ _ s9 σ8 H9 _ I9 q9) fun y ay ⟨v,au,ax,b0,xs,hx,hl,av⟩=>?_;refine thn (zd8 (X:=blk X scope N' {s2 with heap:=a0} (upd H2 s2⁻¹ (.lst [])) a0.objs.size fp) _ ay σ8 au (.ref s2⁻¹) [v] (.ref s2⁻¹) [y] (fun _ H'=>Nx σ8 H') ax rfl (.cons b0 .nil) ⟨_,xs,v,rfl,rfl,hx,hl,av⟩) fun _ b7 ⟨_,b8,b3,_,b4⟩=>?_;exact again b3 b4
 exact codeAny_compStart_list (loop _ rfl) (T.self _ 0 _ _ _ al (loop _ rfl))
def xg7(wi:TI)(src:List (Option Nat))(g:TG)(tt:TT)(te:TE):TE:=fun σ H Q=>wi σ H fun J H2=>∀D,H2 D=none->yg5 J g tt te D (sub src σ) (upd H2 D (.lst [])) fun H'=>Q (.ref D) H'
def zh0(hc:X.calm=true)(B:BlkN X scope N' src)(hi:PI X tg iter wi)(hg:∀s3 H3 C fp,PG (blk X scope N' s3 H3 C fp) tg g)(ht:∀s3 H3 C fp,PTs (blk X scope N' s3 H3 C fp) ifs tt)(he:∀s3 H3 C fp,PE (blk X scope N' s3 H3 C fp) elt te)(a5:(scope.names.all fun y=>decide (y.2=.free->∀z∈scope.names,z.1=y.1->z.2=.free))=true:=by rfl')(hs:∀x,foldedSetIterable iter X.env x=pure x:=by intro _;rfl):
  PE X (.ListComp elt [⟨tg,iter,ifs,0⟩] scope pos) (xg7 wi src g tt te):=by
 intro a2 s σ H Q I h;have a3:∀x k,(x,k)∈scope.names->k=.free->∀k',(x,k')∈scope.names->k'=.free:=fun x k hm hk k' a4=>vb3 (vf2.mp a5 (x,k) hm) hk (x,k') a4 rfl;have a1:closureFor scope X.env=pure (clOf X.env scope.names):=zj2 fun y hy hf=>I.ok.has y.1 (vb3 (vf2.mp B.frees y hy) hf);have a0:∀y∈scope.names,y.2=.local->scope.names.lookup y.1=some .local:=fun y hy=>vb3 (vf2.mp B.locs y hy);rw[eval_ListComp];refine vp3 (use:=none) rfl hs a1 B.kind a0 (thn (hi a2 s σ H _ I h) fun xv s₁ h₁=>thn h₁ fun aa s2 h2=>?_);obtain⟨it,fp,tn,J,H2,rfl,I2,T,h0,hf,hw⟩:=h2;refine yh5 (RR:=fun a6 C=>compPost (model X.prog X.w) X.A X.xe none (EP X a2 σ Q) a6 C) (Q:=fun D H'=>Q (.ref D) H') hc B a3 T I2 h0 hf (fun a b c=>hg a b c fp) (fun a b c=>ht a b c fp) (fun a b c=>he a b c fp) hw ?_;intro D C H' s' ab hm a7 IX ad a9 af ae ac q;obtain⟨m,hm⟩:=hm;exact⟨m,hm,fun a8 sb=>⟨.ref D,H',a7 a8 sb,rfl,q⟩⟩
def zj0(hc:X.calm=true)(hN:X.N.Nodup)(af:X.N[i]?=some y)(hy:X.env.scope.names.lookup y=some .local)(B:BlkN X scope N' src)(hi:PI X tg iter wi)(hg:∀s3 H3 C fp,PG (blk X scope N' s3 H3 C fp) tg g)(ht:∀s3 H3 C fp,PTs (blk X scope N' s3 H3 C fp) ifs tt)(he:∀s3 H3 C fp,PE (blk X scope N' s3 H3 C fp) elt te)(ac:swapsWith (.ListComp elt [⟨tg,iter,ifs,0⟩] scope pos) (some (.Name y py)) spos.line X.env=pure true:=by rfl)(ag:(scope.names.all fun y=>decide (y.2=.free->∀z∈scope.names,z.1=y.1->z.2=.free))=true:=by rfl')(hs:∀x,foldedSetIterable iter X.env x=pure x:=by intro _;rfl):
  PS X (.Assign [.Name y py] (.ListComp elt [⟨tg,iter,ifs,0⟩] scope pos) spos) (tAsg (xg7 wi src g tt te) (zf0 i)):=by
 intro a1 s σ H D I h;have a4:∀x k,(x,k)∈scope.names->k=.free->∀k',(x,k')∈scope.names->k'=.free:=fun x k hm hk k' a7=>vb3 (vf2.mp ag (x,k) hm) hk (x,k') a7 rfl;have a3:closureFor scope X.env=pure (clOf X.env scope.names):=zj2 fun y hy hf=>I.ok.has y.1 (vb3 (vf2.mp B.frees y hy) hf);have a0:∀y∈scope.names,y.2=.local->scope.names.lookup y.1=some .local:=fun y hy=>vb3 (vf2.mp B.locs y hy);rw[exec_Assign_Name_used _ _ _ _ ac];refine zz1 (vs6 (zz1 ?_));show wpAny _ X.A (do let _ <-comprehension (.ListComp elt [⟨tg,iter,ifs,0⟩] scope pos) scope X.env _ (newList []) false (eval iter X.env) (some (assign (.Name y py) X.env))) _ _ s;have h':wi σ H fun J H2=>∀D',H2 D'=none->yg5 J g tt te D' (sub src σ) (upd H2 D' (.lst [])) fun H'=>D.nx (σ.set i (some (.ref D'))) H':=h;refine zz1 (vj4 (vp3 (use:=some (assign (.Name y py) X.env)) (Q:=fun _ s'=>SP X a1 D .next s') rfl hs a3 B.kind a0
  (thn (hi a1 s σ H _ I h') fun xv s₁ h₁=>thn h₁ fun aj s2 h2=>?_)) (fun _ s' hq=>wz7 (wz7 hq)) fun _ _ e=>e)
 obtain⟨it,fp,tn,J,H2,rfl,I2,T,h0,hf,hw⟩:=h2;refine yh5 (RR:=fun ab C=>compPost (model X.prog X.w) X.A X.xe (some (assign (.Name y py) X.env)) (fun _ s'=>SP X a1 D .next s') ab C) (Q:=fun D' H'=>D.nx (σ.set i (some (.ref D'))) H') hc B a4 T I2 h0 hf (fun a b c=>hg a b c fp) (fun a b c=>ht a b c fp) (fun a b c=>he a b c fp) hw ?_;intro D' C H' s' am hm ak IX ah a6 a5 ad aa q;obtain⟨m,hm⟩:=hm;show wpAny _ X.A (assign (.Name y py) X.env (.ref D')) _ _ _;refine wpAny_assign_Name ?_;refine yd1 (v:=.ref D') IX hN af (.inl hy) rfl (fun a9 ae a2=>?_) (.inr hy);obtain⟨a,a8,ha⟩:=a2;have ai:C≠a:=by
  rintro rfl;rcases ha with z | z
  .exact a6 z
  .exact a5 _ _ z rfl
 refine⟨m,hm.sameBut a8 ai,fun al sb=>⟨_,H',?_,q⟩⟩;exact ae.turned (t':=a9.toks) (fun b o hb e=>(sb.2 b hb).trans e) ah a6 (.inr ad) a5 aa
end
section
def xx9(ok:HOk P w H h)(e:H a=some u)(nt:∀xs,u≠.tup xs)(no:∀y,u≠.own y)(new:ObjOk P w (upd H a v) h a v):HOk P w (upd H a v) h:=fun b z q=>by
 by_cases hb:b=a
 .subst hb;rw[zb1]at q;cases q;exact new
 .rw[zb5 hb]at q;refine(ok b z q).stay (fun c w' _ r=>r) (fun c r=>?_) fun c xs r=>?_
  .rw[zb5];exact r;rintro rfl;rw[e]at r;cases r;exact no _ rfl
  .rw[zb5];exact r;rintro rfl;rw[e]at r;cases r;exact nt _ rfl
def Inv.swap(I:Inv X pins σ H s)(e:H a=some u)(nt:∀xs,u≠.tup xs)(no:∀y,u≠.own y)(nb:∀ps,u≠.tbl ps)(hz:∀ob y,X.H₀ a≠some (.frz ob y))(new:ObjOk X.prog X.w (upd H a v) s.heap a v):Inv X pins σ (upd H a v) s:=by
 have ne:∀b,H b=none->b≠a:=fun b n z=>by subst z;rw[e]at n;cases n
 refine⟨I.ok,I.os,I.bare,⟨I.base.keep,I.base.slot,fun b ob q n hx=>?_,I.base.there,fun b xs q=>?_,fun b ob y q=>?_,fun b ps q=>?_⟩,I.loc,I.cell,?_,fun x c h=>?_,fun p hp=>?_,xx9 I.hok e nt no new,I.len⟩
 .have:=I.base.free b ob q n hx;rw[zb5 (ne b this)];exact this
 .have:=I.base.tups b xs q;rw[zb5];exact this;rintro rfl;rw[e]at this;cases this;exact nt _ rfl
 .have:=I.base.frzs b ob y q;rw[zb5];exact this;rintro rfl;exact hz _ _ q
 .obtain⟨m,this⟩:=I.base.tbls b ps q;exists m;rw[zb5];exact this;rintro rfl;rw[e]at this;cases this;exact nb _ rfl
 .rw[zb5 (ne _ I.free)];exact I.free
 .rw[zb5 (ne _ (I.freeC x c h))];exact I.freeC x c h
 .obtain⟨h1,h2,h3⟩:=I.pin p hp;exact⟨h1,by rw[zb5 (ne _ h2)];exact h2,h3⟩
def Inv.unfrozen(I:Inv X pins σ H s)(e:H a=some (.dK kvs)):∀ob y,X.H₀ a≠some (.frz ob y):=fun ob y q=>by
 have:=I.base.frzs a ob y q;rw[e]at this;cases this
def Inv.freeze(I:Inv X pins σ H s)(e:H a=some (.dK kvs))(ho:s.heap.get? a=some o):Inv X pins σ (upd H a (.frz o (.dK kvs))) s:=
 I.swap e (fun _ h=>nomatch h) (fun _ h=>nomatch h) (fun _ h=>nomatch h) (I.unfrozen e) ⟨ho,I.hok a _ e⟩
def Inv.thaw(I:Inv X pins σ H s)(e:H a=some (.frz o (.dK kvs)))(hz:∀ob y,X.H₀ a≠some (.frz ob y)):Inv X pins σ (upd H a (.dK kvs)) s:=
 I.swap e (fun _ h=>nomatch h) (fun _ h=>nomatch h) (fun _ h=>nomatch h) hz (I.hok a _ e).2
end
def Itx(ok:Hp->Prop)(xs:List V):It:=⟨fun i H=>ok H/\i<↑xs,fun i H x H'=>H'=H/\xs[i]?=some x,fun i H=>ok H/\↑xs<=i⟩
def Frz(a:Addr)(o:Obj)(kvs:List (Key×V))(H:Hp):Prop:=H a=some (.frz o (.dK kvs))
def KV.get(r:KV kvs vs):∀{i:Nat}{k:Key}{x:Value},vs[i]?=some (k,x)->∃v,kvs[i]?=some (k,v)/\RelV v x:=by
 unfold KV at r
 induction r with
 | nil=>intro i k x h;simp at h
 | @cons p q ps qs h t ih=>
  intro i k x hx;cases i with
  | zero=>
   simp at hx;subst hx;obtain⟨p1,p2⟩:=p;obtain⟨h1,h2⟩:=h;have h1:p1=k:=h1;subst h1;exact⟨p2,by simp,h2⟩
  | succ i=>simpa using ih (by simpa using hx)
def zs8{P:Program}{w:World}{h:Heap}{a:Addr}{o:Obj}{kvs:List (Key×V)}(ho:h.get? a=some o)(d:∃vs,KV kvs vs/\h.DictOf (zc4 P w) a vs):
  ∃vs ep,KV kvs vs/\∀h':Heap,h'.get? a=some o->h'.DictAt (zc4 P w) a vs ep:=by
 obtain⟨vs,r,o',es,ep,e,q⟩:=d;rw[ho]at e;cases e;exact⟨vs,ep,r,fun h' e'=>⟨o,es,e',q⟩⟩
def xr6{P:Program}{w:World}{K:Fg}{tg:Expr}{o:Obj}{kvs:List (Key×V)}{vs:List (Key×Value)}{ep:Nat}(a it:Addr)(a3:a≠it)(r:KV kvs vs)(hd:∀h':Heap,h'.get? a=some o->h'.DictAt (zc4 P w) a vs ep):
  Turn P w K tg (Itx (Frz a o kvs) (kvs.map fun kv=>kV kv.1)) [it] it (fun i h=>h.IsKeyIter it a i ↑vs ep) where
 mem:=by simp
 obj:=fun i h st b hb=>by
  have e:b=it:=by simpa using hb
  subst e;obtain⟨o,e,c,d⟩:=st;exact⟨o,e,fun v z=>by rw[d]at z;cases z⟩
 keep:=fun i h h' st k=>st.at fun o e=>k it (by simp) o e
 item:=by
  intro X hP hw hK hc i a0 s σ H E I hf st hg;subst hP hw hK;obtain⟨hz,hi⟩:=hg;have ho:=(I.hok a _ hz).1;obtain⟨f0,f1,f2,f3,f4,f5⟩:=hf it (by simp);have hl:i<↑vs:=by rw[<-↑r];simpa using hi
  have W:=Walks.dictKeys (prog:=X.prog) (w:=X.w) (knd:=zc4 X.prog X.w) (A:=X.A) (I.ok.hd hc) it a a3 vs ep;refine W.item i s _ _ hl ⟨st,hd _ ho⟩ fun v h' tk hv a1 kk=>?_;obtain⟨k,x,hx,hk⟩:=hv;have I1:Inv X a0 σ H {s with heap:=h',toks:=tk}:=I.turned (fun b o hb e=>kk b o (by simpa using hb) e) f0 f1 f3 f4 f5;obtain⟨o',e',c',d'⟩:=id a1.1;obtain⟨v',a2,_⟩:=r.get hx;refine⟨_,rfl,yv8 (s:={s with heap:=h',toks:=tk}) e' c' d' (by decide) ⟨kV k,H,I1,?_,⟨rfl,by rw[wz5,a2];rfl⟩,a1.1,fun b hb=>(hf b hb).1⟩⟩;rcases zd9 hk with ⟨n,t,rfl,rfl⟩ | ⟨n,t,rfl,rfl⟩
  .exact⟨t,rfl⟩
  .exact⟨t,rfl⟩
 done:=by
  intro X hP hw hK hc i a0 s σ H E I hf st hg;subst hP hw hK;obtain⟨hz,hi⟩:=hg;have ho:=(I.hok a _ hz).1;obtain⟨f0,f1,f2,f3,f4,f5⟩:=hf it (by simp);have hl:↑vs<=i:=by rw[<-↑r];simpa using hi
  exact wpAny_pyNext_dict_end (I.ok.hd hc) st (hd _ ho) (by simpa using hl) fun h' a4=>⟨rfl,I.turned (t':=s.toks) (fun b o hb e=>a4 b o hb e) f0 f1 f3 f4 f5⟩
 self:=fun _ _ _ _ _ st h=>wpAny_pyIter_keyiter st h
def xq7{P:Program}{w:World}{K:Fg}{tg:Expr}{o:Obj}{kvs:List (Key×V)}{vs:List (Key×Value)}{ep:Nat}(a it:Addr)(a3:a≠it)(r:KV kvs vs)(hd:∀h':Heap,h'.get? a=some o->h'.DictAt (zc4 P w) a vs ep):
  Turn P w K tg (Itx (Frz a o kvs) (kvs.map fun kv=>kv.2)) [it] it (fun i h=>h.IsValIter it a i ↑vs ep) where
 mem:=by simp
 obj:=fun i h st b hb=>by
  have e:b=it:=by simpa using hb
  subst e;obtain⟨o,e,c,d⟩:=st;exact⟨o,e,fun v z=>by rw[d]at z;cases z⟩
 keep:=fun i h h' st k=>st.at fun o e=>k it (by simp) o e
 item:=by
  intro X hP hw hK hc i a0 s σ H E I hf st hg;subst hP hw hK;obtain⟨hz,hi⟩:=hg;have ho:=(I.hok a _ hz).1;obtain⟨f0,f1,f2,f3,f4,f5⟩:=hf it (by simp);have hl:i<↑vs:=by rw[<-↑r];simpa using hi
  have W:=Walks.dictValues (prog:=X.prog) (w:=X.w) (knd:=zc4 X.prog X.w) (A:=X.A) (I.ok.hd hc) it a a3 vs ep;refine W.item i s _ _ hl ⟨st,hd _ ho⟩ fun v h' tk hv a1 kk=>?_;obtain⟨k,hx⟩:=hv;have I1:Inv X a0 σ H {s with heap:=h',toks:=tk}:=I.turned (fun b o hb e=>kk b o (by simpa using hb) e) f0 f1 f3 f4 f5;obtain⟨o',e',c',d'⟩:=id a1.1;obtain⟨v',a2,rv⟩:=r.get hx;exact⟨_,rfl,yv8 (s:={s with heap:=h',toks:=tk}) e' c' d' (by decide) ⟨v',H,I1,rv,⟨rfl,by rw[wz5,a2];rfl⟩,a1.1,fun b hb=>(hf b hb).1⟩⟩
 done:=by
  intro X hP hw hK hc i a0 s σ H E I hf st hg;subst hP hw hK;obtain⟨hz,hi⟩:=hg;have ho:=(I.hok a _ hz).1;obtain⟨f0,f1,f2,f3,f4,f5⟩:=hf it (by simp);have hl:↑vs<=i:=by rw[<-↑r];simpa using hi
  exact wpAny_pyNext_values_end (I.ok.hd hc) st (hd _ ho) (by simpa using hl) fun h' a4=>⟨rfl,I.turned (t':=s.toks) (fun b o hb e=>a4 b o hb e) f0 f1 f3 f4 f5⟩
 self:=fun _ _ _ _ _ st h=>wpAny_pyIter_valiter st h
section
def iDict(te:TE):TI:=fun σ H R=>te σ H fun x H1=>∃a kvs,x=.ref a/\H1 a=some (.dK kvs)/\∀o,R (Itx (Frz a o kvs) (kvs.map fun kv=>kV kv.1)) (upd H1 a (.frz o (.dK kvs)))
def yj4(hl:PE X l te):PI X tg l (iDict te):=by
 intro a0 s σ H R I h;refine thn (hl a0 s σ H _ I h) fun v s1 ⟨x,H1,I1,r1,q1⟩=>?_;obtain⟨a,kvs,e,hq,q⟩:=q1;subst e;cases r1;obtain⟨hz,a1,hd⟩:=yk1 I1.hok hq;obtain⟨o,ho⟩:∃o,s1.heap.get? a=some o:=by obtain⟨vs,_,o,_,_,e,_⟩:=hd;exact⟨o,e⟩
 obtain⟨vs,ep,r,a2⟩:=zs8 ho hd;refine wpAny_pyIter_dict a1 (a2 _ ho) ?_;have I2:=I1.freeze hq ho;refine⟨s1⁻¹,[s1⁻¹],_,_,_,rfl,I2.kept (t':=s1.toks) fun b o e=>wz3 _ e,xr6 a _ (vb7 (vb1 ho)) r a2,⟨_,vb8 _ rfl,rfl,rfl⟩,fun b hb=>?_,q o⟩;have e:b=s1⁻¹:=by simpa using hb
 subst e;exact I2.fpOk (wz6 _) (I2.hok.fresh (wz6 _))
def iVals(te:TE):TI:=fun σ H R=>te σ H fun x H1=>∃a kvs,x=.ref a/\H1 a=some (.dK kvs)/\∀o,R (Itx (Frz a o kvs) (kvs.map fun kv=>kv.2)) (upd H1 a (.frz o (.dK kvs)))
def wn9(hl:PE X l te)(base:attributeBase l "values" X.env (eval l X.env)=eval l X.env:=by rfl)(few:((backTo cpos (starEach [] X.env)).all (fun x=>!x.1) && (backToKw cpos (keywordEach [] X.env)).all (fun x=>x.1.isSome) && decide (↑([]:List Expr)+↑([]:List Keyword)+(if ([]:List Keyword).isEmpty then 0 else 1)<30))=true:=by rfl)(line:(apos.endLine == cpos.line)=true:=by rfl)(trees:backTo cpos (starEach [] X.env)=[]:=by rfl):PI X tg (.Call (.Attribute l "values" apos) [] [] cpos) (iVals te):=by
 intro a0 s σ H R I h;refine vq4 base few line vk2 PySem.F.slot_dict_values PySem.F.type_dict_values (thn (hl a0 s σ H _ I h) fun u s1 ⟨x,H1,I1,rx,a,kvs,ex,hq,q⟩=>?_);subst ex;obtain rfl:u=Value.ref a:=rx;obtain⟨t1,t2,a2⟩:=yh9 I1 (.inl ⟨kvs,.inl hq⟩);exists t1,t2;rw[trees];refine vk5 rfl (PySem.evalArgs_none ?_);obtain⟨hz,_,hd⟩:=yk1 I1.hok hq;obtain⟨o,ho⟩:∃o,s1.heap.get? a=some o:=by obtain⟨vs,_,o,_,_,e,_⟩:=hd;exact⟨o,e⟩
 obtain⟨vs,ep,r,a1⟩:=zs8 ho hd;refine vs5 PySem.F.slot_dict_values t1 PySem.F.entry_dict_values (PySem.F.args_dict_values_1 _) (meets_dict_values (zc4 X.prog X.w) a a2) ⟨⟨vs,(a1 _ ho).dictOf⟩,?_⟩;have a3:(s1.heap.push {cls:=.type "dict_values",data:=.fields #[.ref a]}).get? a=some o:=wz3 _ ho;have I2:Inv X a0 σ H1 {s1 with heap:=s1.heap.push {cls:=.type "dict_values",data:=.fields #[.ref a]}}:=I1.kept (t':=s1.toks) fun b o e=>wz3 _ e;refine wpAny_pyIter_values (s:={s1 with heap:=s1.heap.push {cls:=.type "dict_values",data:=.fields #[.ref a]}}) ⟨_,vb8 _ rfl,rfl,rfl⟩ (a1 _ a3) ?_;have I3:=I2.freeze hq a3;refine⟨_,[_],_,_,_,rfl,I3.kept (t':=s1.toks) fun b o e=>wz3 _ e,xq7 a _ (vb7 (vb1 a3)) r a1,⟨_,vb8 _ rfl,rfl,rfl⟩,fun b hb=>?_,q o⟩;rw[vc7.mp hb];exact I3.fpOk (wz6 _) (I3.hok.fresh (wz6 _))
def thawE(t:TE):TE:=fun σ H Q=>∃a kvs,H a=some (.dK kvs)/\t σ H fun v H'=>∃o,H' a=some (.frz o (.dK kvs))/\Q v (upd H' a (.dK kvs))
def xs9(h:PE X e t):PE X e (thawE t):=by
 intro a0 s σ H Q I ⟨a,kvs,ha,q⟩;have hz:=I.unfrozen ha;refine thn (h a0 s σ H _ I q) fun u s1 ⟨x,H1,I1,r1,o,h1,q1⟩=>⟨x,_,I1.thaw h1 hz,r1,q1⟩
def thawD(D:Ends)(a:Addr)(kvs:List (Key×V)):Ends where
 nx:=fun σ H=>∃o,H a=some (.frz o (.dK kvs))/\D.nx σ (upd H a (.dK kvs))
 rt:=fun v H=>∃o,H a=some (.frz o (.dK kvs))/\D.rt v (upd H a (.dK kvs))
 bk:=fun σ H=>∃o,H a=some (.frz o (.dK kvs))/\D.bk σ (upd H a (.dK kvs))
 ct:=fun σ H=>∃o,H a=some (.frz o (.dK kvs))/\D.ct σ (upd H a (.dK kvs))
def thawS(t:TS):TS:=fun D σ H=>∃a kvs,H a=some (.dK kvs)/\t (thawD D a kvs) σ H
def xq8{st:Stmt}{t:TS}(h:PS X st t):PS X st (thawS t):=by
 intro a0 s σ H D I ⟨a,kvs,ha,q⟩;have hz:=I.unfrozen ha;refine thn (h a0 s σ H _ I q) fun f s1 hf=>?_;cases f with
 | next=>obtain⟨σ',H',I1,o,h1,q1⟩:=hf;exact⟨σ',_,I1.thaw h1 hz,q1⟩
 | brk=>obtain⟨σ',H',I1,o,h1,q1⟩:=hf;exact⟨σ',_,I1.thaw h1 hz,q1⟩
 | cont=>obtain⟨σ',H',I1,o,h1,q1⟩:=hf;exact⟨σ',_,I1.thaw h1 hz,q1⟩
 | ret u=>obtain⟨v,σ',H',I1,r,o,h1,q1⟩:=hf;exact⟨v,σ',_,I1.thaw h1 hz,r,q1⟩
end
def Ite(K:Fg)(a:Addr):It:=
 ⟨fun i H=>∃xs x,SqL K H a xs/\xs[i]?=some x,fun i H x H'=>∃p y,H p=none/\x=.ref p/\H'=upd H p (.tup [.int i,y])/\∀xs,SqL K H a xs->xs[i]?=some y,fun i H=>∃xs,SqL K H a xs/\↑xs<=i⟩
def xs6{P:Program}{w:World}{K:Fg}{es:List Expr}{k:Nat}{pos:Pos}(a e it:Addr)(ab:e≠it):Turn P w K (.Tuple es k pos) (Ite K a) [e,it] e (fun i h=>(∃old,IsEnum h e it i old)/\h.IsListIter it a i) where
 mem:=by simp
 obj:=fun i h st b hb=>by
  obtain⟨⟨old,he⟩,hi⟩:=st;rcases vb4.mp hb with rfl | hb
  .exact⟨_,he,fun v z=>by
    have z':Data.fields _=Data.cell v:=z;cases z'⟩
  .have e:b=it:=by simpa using hb
   subst e;obtain⟨o,e,c,d⟩:=hi;exact⟨o,e,fun v z=>by rw[d]at z;cases z⟩
 keep:=fun i h h' st kp=>by
  obtain⟨⟨old,he⟩,hi⟩:=st;exact⟨⟨old,kp e (by simp) _ he⟩,hi.at fun o x=>kp it (by simp) o x⟩
 item:=by
  intro X hP hw hK hc i a2 s σ H E I hf st hg;subst hP hw hK;obtain⟨xs,x,hq,hx⟩:=hg;obtain⟨⟨old,he⟩,a5⟩:=st;obtain⟨its,rv,p,hz⟩:=I.list hq;obtain⟨u,hu,ru⟩:=rv.get hx;obtain⟨f0,f1,f2,f3,f4,f5⟩:=hf e (by simp);obtain⟨g0,g1,g2,g3,g4,g5⟩:=hf it (by simp);have a7:e<s⁻¹:=vb1 he;have a6:it<s⁻¹:=by obtain⟨_,x,_⟩:=a5;exact vb1 x
  refine wpAny_pyNext_enum_item he a5 p.isList (x:=u) (by simpa using hu) ab fun h' ho a8 hT hsz kk=>?_
  refine⟨_,rfl,wpAny_letOwnedTupleGo_enum (s:={s with heap:=h',toks:=s.toks+1}) ho fun a1 a9 a3=>?_⟩;have ac:s⁻¹≠e:=vf1 a7;have ae:s⁻¹≠it:=vf1 a6;have a0:H s⁻¹=none:=I.hok.fresh (wz6 _);have keep:∀b o,b≠e->b≠it->s.heap.get? b=some o->a1.get? b=some o:=fun b o h1 h2 e=>(a3.2 b h1).trans (kk b o h1 h2 e);have a4:∀b u,H b=some u->b≠e/\b≠it:=fun b u e'=>⟨fun z=>(by rw[z,f0]at e';cases e'),fun z=>(by rw[z,g0]at e';cases e')⟩
  have I0:Inv X a2 σ H {s with heap:=a1,toks:=s.toks+1}:=by
   refine I.step (g':=s.gens) (d':=s.drawn) (ch:=[e,it]) (fun b hb=>?_) (fun b o _ _ hc e _=>keep b o (fun z=>hc (by simp[z])) (fun z=>hc (by simp[z])) e) (fun b o _ _ hc e _=>⟨o.slots,keep b o (fun z=>hc (by simp[z])) (fun z=>hc (by simp[z])) e⟩)
    (fun _ _ _ _ n=>n) (fun b o hc e=>⟨o,keep b o (fun z=>hc (by simp[z])) (fun z=>hc (by simp[z])) e⟩) (fun _ _ e=>e) (fun _ _ _ e=>e) (fun b ps e=>⟨#[],by rw[e];simp⟩) (fun m hm=>?_) (fun b u eq=>?_) I.bare
   .rcases vb4.mp hb with rfl | hb
    .exact⟨f3,f1,f4,f5⟩
    .have e:b=it:=by simpa using hb
     subst e;exact⟨g3,g1,g4,g5⟩
   .obtain⟨o,es,ep,ho,r⟩:=hm;exact⟨o,es,ep,keep _ o (vj3 f1) (vj3 g1) ho,r⟩
   .refine(I.hok b u eq).stay (fun c v hc q=>keep c v ?_ ?_ q) (fun _ q=>q) fun _ _ q=>q
    .rcases hc with z | z
     .rw[z];exact(a4 b u eq).1
     .exact(a4 c _ z).1
    .rcases hc with z | z
     .rw[z];exact(a4 b u eq).2
     .exact(a4 c _ z).2
  have ad:a1.get? s⁻¹=some {cls:=.type "tuple",data:=.seq #[.int i s.toks,u]}:=(a3.2 _ ac).trans hT;have I1:Inv X a2 σ (upd H s⁻¹ (.tup [.int i,x])) {s with heap:=a1,toks:=s.toks+1}:=by
   have base:=I0.base;have hok:HOk X.prog X.w (upd H s⁻¹ (.tup [.int i,x])) a1:=by
    intro b z q
    by_cases hb:b=s⁻¹
    .subst hb;rw[zb1]at q;cases q;refine⟨⟨by show 2<=sizeLine;decide,_,ad,rfl⟩,[.int i s.toks,u],.cons ⟨_,rfl⟩ (.cons ru .nil),_,ad,rfl,_,rfl⟩
    .rw[zb5 hb]at q;refine(I0.hok b z q).stay (fun c w' _ r=>r) (fun c r=>?_) fun c xs r=>?_
     .rw[zb5 (zb4 r a0)];exact r
     .rw[zb5 (zb4 r a0)];exact r
   have old:∀b o',X.s₀.heap.get? b=some o'->b≠s⁻¹:=fun b o' e=>vb7 (vf3 (vb1 e) I.sz);refine⟨I0.ok,I0.os,I0.bare,⟨base.keep,base.slot,fun b ob q n hx=>?_,base.there,fun b ys q=>?_,fun b ob y q=>?_,fun b ps q=>?_⟩,I0.loc,I0.cell,?_,fun y c h=>?_,fun p hp=>?_,hok,I0.len⟩
   .rw[zb5 (old b ob q)];exact base.free b ob q n hx
   .have:=base.tups b ys q;rw[zb5 (zb4 this a0)];exact this
   .have:=base.frzs b ob y q;rw[zb5 (zb4 this a0)];exact this
   .obtain⟨m,this⟩:=base.tbls b ps q;exact⟨m,by rw[zb5 (zb4 this a0)];exact this⟩
   .rw[zb5 (vb7 I.lt)];exact I.free
   .obtain⟨v,q⟩:=I.cell y c h;rw[zb5 (vb7 q.lt)];exact I.freeC y c h
   .obtain⟨h1,h2,h3⟩:=I0.pin p hp;have:=vb1 (I.pin p hp).1;exact⟨h1,by rw[zb5 (vb7 this)];exact h2,h3⟩
  have aa:a1.IsListIter it a (i+1):=a8.at fun o y=>(a3.2 it ab.symm).trans y;have af:IsEnum a1 e it ((i+1:Nat):Int) u:=by simpa using a9
  refine⟨.ref s⁻¹,_,I1,rfl,⟨_,x,a0,rfl,rfl,fun ys hy=>by rw[I.list_inj hy hq];exact hx⟩,⟨⟨u,af⟩,aa⟩,fun b hb=>?_⟩;rcases vb4.mp hb with rfl | hb
  .rw[zb5 (vj3 ac)];exact f0
  .have e:b=it:=by simpa using hb
   subst e;rw[zb5 (vj3 ae)];exact g0
 done:=by
  intro X hP hw hK hc i a2 s σ H E I hf st hg;subst hP hw hK;obtain⟨xs,hq,hx⟩:=hg;obtain⟨⟨old,he⟩,a5⟩:=st;obtain⟨its,rv,p,hz⟩:=I.list hq;obtain⟨g0,g1,g2,g3,g4,g5⟩:=hf it (by simp);have hl:=↑rv;refine wpAny_pyNext_enum_end (I.ok.hd hc) he a5 p.isList (vt8 (by simp;lia)) fun h' hx=>⟨rfl,I.turned (t':=s.toks) (fun b o hb e=>hx b o hb e) g0 g1 g3 g4 g5⟩
 self:=fun _ _ _ _ _ st h=>by
  obtain⟨⟨old,he⟩,_⟩:=st;exact wpAny_pyIter_enum he h
def iEnum(K:Fg)(ta:TA):TI:=fun σ H R=>ta σ H fun vs H1=>∃a xs,vs=[.ref a]/\SqL K H1 a xs/\R (Ite K a) H1
def boot_enumerate:bootBuiltins "enumerate"=some (.type "enumerate"):=by first | exact PySem.boot_enumerate | rfl
def xn3{X:Cx}{es:List Expr}{k:Nat}{a1:Pos}{a:Expr}{ta:TA}{p pos:Pos}(hg:Gl X "enumerate")(hm:X.mg "enumerate"=none)(ha:PA X [a] ta)(hs:starEach [a] X.env=[(false,eval a X.env)]:=by rfl):PI X (.Tuple es k a1) (.Call (.Name "enumerate" p) [a] [] pos) (iEnum X.K ta):=by
 intro a0 s σ H R I h;refine Call_ (zr0 I hg hm boot_enumerate (vh3 (thn (ha pos a0 s σ H _ I h) fun us s1 ⟨vs,H1,I1,r1,q1⟩=>?_) hs rfl));obtain⟨l,xs,e,hq,q⟩:=q1;subst e;cases r1 with
 | cons r rr=>
  cases rr;cases r;obtain⟨its,rv,pl,hz⟩:=I1.list hq;refine call_enumerate_list pl.isList fun h' he a2 hsz kk=>?_;refine wpAny_pyIter_enum (s:={s1 with heap:=h'}) he ?_;have I2:Inv X a0 σ H1 {s1 with heap:=h'}:=I1.kept (t':=s1.toks) kk;refine⟨s1⁻¹+1,[s1⁻¹+1,s1⁻¹],_,_,H1,rfl,I2,xs6 l _ _ (Nat.succ_ne_self _),⟨⟨_,he⟩,a2⟩,fun b hb=>?_,q⟩;rcases vb4.mp hb with rfl | hb
  .exact I1.fpOk (Nat.le_succ _) (I1.hok.fresh (Nat.le_succ _))
  .have e:b=s1⁻¹:=by simpa using hb
   subst e;exact I1.fpOk (wz6 _) (I1.hok.fresh (wz6 _))
section
def xx6(h:Q 0xFCA86420 {s with toks:=s.toks+1}):wpAny (model prog w) A (pyHash .none) Q E s:=by
 unfold pyHash pyHashByItsType;have hv:[Value.none].any Value.onHeap=false:=rfl;refine zz1 ?_;rw[cRoomFor,vd0 (by rw[hv];exact vb6)];refine wz7 ?_;refine zz1 (vn8 (typeIs_none s) vr1.lookup ?_);show wpAny _ _ (if (some (Value.builtin "NoneType.__hash__") == some Value.none)=true then _ else _) Q E s;rw[vd0 (by rw[beq_builtin_none];exact vb6)];refine zz1 (vn8 (typeIs_none s) vr1.lookup ?_);show wpAny _ _ (callSpecialIfBoundUnlessNone? .none "__hash__" _ >>= _) Q E s;refine zz1 (wpAny_callSpecialIfBoundUnlessNone?_slot (typeIs_none s) vr1
  (vg4 vr1 (typeIs_none s) PySem.F.entry_NoneType_hash
   (show wpAny _ _ (do ret (<-mkInt 0xFCA86420)) _ _ s from wpAny_ret_mkInt ?_) (PySem.F.args_NoneType_hash_1 _)))
 show wpAny _ _ (if (decide (-(2:Int) ^ 63<=0xFCA86420) && decide ((0xFCA86420:Int)<2 ^ 63))=true then _ else _) Q E _;rw[vd3 (by decide)];exact wz7 h
end
def xb8:Option Key->Value->Bool
 | some k,v=>zv7 k v
 | none,v=>match v with | .none=>true | _=>false
def zg7(h:xb8 none v=true):v=.none:=by
 cases v <;> first | rfl | (simp[xb8]at h)
def yj7:zv7 k .none=false:=by cases k <;> rfl
def keyHN(w:World):Option Key->Int
 | some k=>keyH w k
 | none=>0xFCA86420
def yk0(prog:Program)(w:World):PySem.KeyKind prog w (Option Key) where
 is:=xb8
 hash:=keyHN w
 inj:=fun v a b ha hb=>by
  cases a with
  | none=>
   have e:=zg7 ha;subst e;cases b with
   | none=>rfl
   | some b=>have hb:zv7 b .none=true:=hb;rw[yj7]at hb;cases hb
  | some a=>
   cases b with
   | none=>
    have e:=zg7 hb;subst e;have ha:zv7 a .none=true:=ha;rw[yj7]at ha;cases ha
   | some b=>exact vg1 some ((zc4 prog w).inj v a b ha hb)
 byValue:=fun k v h=>by
  cases k with
  | none=>rw[zg7 h];rfl
  | some k=>exact(zc4 prog w).byValue k v h
 pyHash:=fun {A E s k v Q} hv h=>by
  cases k with
  | none=>rw[zg7 hv];exact xx6 h
  | some k=>exact(zc4 prog w).pyHash (k:=k) hv h
 eqBool:=fun {A E s a b u v Q} hu hv h=>by
  cases a with
  | none=>
   have e:=zg7 hu;subst e;cases b with
   | none=>
    have e:=zg7 hv;subst e;have h:Q true s:=by simpa using h
    exact SeqAt.EqAt.same _ _ _ _ _ h
   | some b=>
    have h:Q false s:=by simpa using h
    rcases zd9 hv with ⟨i,t,rfl,rfl⟩ | ⟨x,t,rfl,rfl⟩
    .exact SeqAt.EqAt.none_int _ _ _ _ _ _ h
    .exact SeqAt.EqAt.none_str _ _ _ _ _ _ h
  | some a=>
   cases b with
   | none=>
    have e:=zg7 hv;subst e;have h:Q false s:=by simpa using h
    rcases zd9 hu with ⟨i,t,rfl,rfl⟩ | ⟨x,t,rfl,rfl⟩
    .exact SeqAt.EqAt.int_none _ _ _ _ _ _ h
    .exact SeqAt.EqAt.str_none _ _ _ _ _ _ h
   | some b=>exact(zc4 prog w).eqBool (a:=a) (b:=b) hu hv (by simpa using h)
 «strs»:=fun k x t v h=>by
  cases k with
  | none=>have:=zg7 h;cases this
  | some k=>exact(zc4 prog w).strs k x t v h
def wh6{prog:Program}{w:World}{h:Heap}{a:Addr}{vs:List (Key×Value)}(d:h.DictOf (zc4 prog w) a vs):h.MapOf (yk0 prog w) a (fun k=>k.bind (valueAt vs)):=by
 obtain⟨o,es,ep,e,c,dd,hk,hp,hn⟩:=d;refine⟨o,es,ep,e,c,dd,fun x hx=>?_,fun k=>?_⟩
 .obtain⟨k,h1,h2⟩:=hk x hx;exact⟨some k,h1,h2⟩
 .cases k with
  | none=>
   show findBy xb8 es none=none;unfold findBy;rw[Array.find?_eq_none.mpr]
   .rfl
   .intro x hx;obtain⟨k,h1,_⟩:=hk x hx;intro z;rw[zg7 z]at h1;have h1:zv7 k .none=true:=h1;rw[yj7]at h1;cases h1
  | some k=>
   have q:=(Heap.DictOf.mapOf (knd:=zc4 prog w) ⟨o,es,ep,e,c,dd,hk,hp,hn⟩);obtain⟨o',a2,a1,e',_,a0,_,q⟩:=q;rw[e]at e';cases e';rw[dd]at a0;cases a0;exact q k
section
def DAsk(H:Hp)(a:Addr)(y:V)(r:Option V):Prop:=∃kvs,Rd H a (.dK kvs)/\((y=.non/\r=none)\/∃k,y=kV k/\r=valV kvs k)
def tDAsk1(td ty:TE):TE:=fun σ H Q=>td σ H fun x H1=>∃a,x=.ref a/\IsD H1 a/\ty σ H1 fun y H2=>∃o,DAsk H2 a y o/\Q (o.getD .non) H2
def tDAsk2(td ty tx:TE):TE:=fun σ H Q=>td σ H fun x H1=>∃a,x=.ref a/\IsD H1 a/\ty σ H1 fun y H2=>tx σ H2 fun z H3=>∃o,DAsk H3 a y o/\Q (o.getD z) H3
def wf8(hu:X.A.units+1<cLine)(ho:PE X o td)(he:PE X e ty)(m:M1 X o "get" apos e cpos):PE X (.Call (.Attribute o "get" apos) [e] [] cpos) (tDAsk1 td ty):=by
 intro a0 s σ H Q I h;refine vq4 m.base m.few m.line vk2 vh7 vv5 (thn (ho a0 s σ H _ I h) fun u s1 ⟨x,H1,I1,rx,a,ex,d,q1⟩=>?_);subst ex;obtain rfl:u=Value.ref a:=rx;obtain⟨t1,t2,_⟩:=yh9 I1 d;exists t1,t2;rw[m.trees];refine vk5 rfl (vm8 (vj5 (thn (he a0 s1 σ H1 _ I1 q1) fun iv s2 ⟨y,H2,I2,ry,ov,g,q2⟩=>vn1 ?_)));obtain⟨kvs,er,g⟩:=g;rcases g with ⟨rfl,rfl⟩ | ⟨k,rfl,rfl⟩
 .obtain rfl:iv=Value.none:=ry;obtain⟨z,hd,vs,a2,dd⟩:=yg4 I2.hok er;exact vs5 vh7 dd.typeIs vn0 (vz6 _ _) (meets_dict_get (yk0 X.prog X.w) a (k:=none) rfl hd) ⟨_,wh6 dd,⟨.non,H2,I2.tok _,rfl,q2⟩⟩
 .exact wg6 hu I2 (.inl ⟨kvs,k,er,rfl,rfl⟩) ry fun w' s3 I3 a1=>⟨_,H2,I3,a1,q2⟩
def wd3(hu:X.A.units+1<cLine)(ho:PE X o td)(he:PE X e ty)(hf:PE X f tx)(m:M2 X o "get" apos e f cpos):PE X (.Call (.Attribute o "get" apos) [e,f] [] cpos) (tDAsk2 td ty tx):=by
 intro a0 s σ H Q I h;refine vq4 m.base m.few m.line vk2 vh7 vv5 (thn (ho a0 s σ H _ I h) fun u s1 ⟨x,H1,I1,rx,a,ex,d,q1⟩=>?_);subst ex;obtain rfl:u=Value.ref a:=rx;obtain⟨t1,t2,_⟩:=yh9 I1 d;exists t1,t2;rw[m.trees];refine vk5 rfl (vm8 (vj5 (thn (he a0 s1 σ H1 _ I1 q1) fun iv s2 ⟨y,H2,I2,ry,q2⟩=>
  vj5 (thn (hf a0 s2 σ H2 _ I2 q2) fun fv s3 ⟨z,H3,I3,rz,ov,g,q3⟩=>vn1 ?_))))
 obtain⟨kvs,er,g⟩:=g;rcases g with ⟨rfl,rfl⟩ | ⟨k,rfl,rfl⟩
 .obtain rfl:iv=Value.none:=ry;obtain⟨_,hd,vs,a2,dd⟩:=yg4 I3.hok er;exact vs5 vh7 dd.typeIs vn0 (vz7 _ _ _) (meets_dict_get_default (yk0 X.prog X.w) a (k:=none) rfl hd fv) ⟨_,wh6 dd,⟨z,H3,I3.tok _,rz,q3⟩⟩
 .exact wj9 hu I3 (.inl ⟨kvs,k,er,rfl,rfl⟩) ry rz fun w' s4 I4 a1=>⟨_,H3,I4,a1,q3⟩
def tDSet(td ty tx:TE):TE:=fun σ H Q=>td σ H fun x H1=>∃a,x=.ref a/\IsD H1 a/\ty σ H1 fun y H2=>tx σ H2 fun z H3=>∃kvs k,H3 a=some (.dK kvs)/\y=kV k/\↑kvs<sizeLine/\
 (∀v,valV kvs k=some v->Q v H3)/\(valV kvs k=none->Q z (upd H3 a (.dK (putK kvs k z))))
def wv1(ho:PE X o td)(he:PE X e ty)(hf:PE X f tx)(m:M2 X o "setdefault" apos e f cpos):PE X (.Call (.Attribute o "setdefault" apos) [e,f] [] cpos) (tDSet td ty tx):=by
 intro a0 s σ H Q I h;refine vq4 m.base m.few m.line vk2 PySem.F.slot_dict_setdefault PySem.F.type_dict_setdefault (thn (ho a0 s σ H _ I h) fun u s1 ⟨x,H1,I1,rx,a,ex,d,q1⟩=>?_);subst ex;obtain rfl:u=Value.ref a:=rx;obtain⟨t1,t2,_⟩:=yh9 I1 d;exists t1,t2;rw[m.trees];refine vk5 rfl (vm8 (vj5 (thn (he a0 s1 σ H1 _ I1 q1) fun iv s2 ⟨y,H2,I2,ry,q2⟩=>
  vj5 (thn (hf a0 s2 σ H2 _ I2 q2) fun fv s3 ⟨z,H3,I3,rz,kvs,k,er,ey,hl,g1,g2⟩=>vn1 ?_))))
 subst ey;obtain⟨hz,hd,vs,a1,dd⟩:=yk1 I3.hok er;have rv:=a1.val k;refine vs5 PySem.F.slot_dict_setdefault dd.typeIs PySem.F.entry_dict_setdefault (PySem.F.args_dict_setdefault_3 _ _ _) (kt_meets_setdefault (zc4 X.prog X.w) a (yn1 ry) hd fv) ⟨vs,dd,by rw[<-↑a1];exact hz,fun v hv=>?_,fun hv h' a2 hs=>?_⟩
 .rw[hv]at rv;cases q:valV kvs k with
  | none=>rw[q]at rv;exact False.elim rv
  | some v'=>rw[q]at rv;exact⟨v',H3,I3.tok _,rv,g1 v' q⟩
 .rw[hv]at rv;cases q:valV kvs k with
  | some v'=>rw[q]at rv;exact False.elim rv
  | none=>
   have he:∃q,h'.get? a=some q:=let ⟨q,_,_,hq,_⟩:=a2;⟨q,hq⟩
   have a3:↑(putK kvs k z)<=sizeLine:=by have:=zg5 kvs k z;lia
   exact⟨z,_,zn4 I3 (by rw[er];exact vm7) hs he (yp5 a3 hd (a1.put k rz) a2),rz,g2 q⟩
end
section
def wp9:∀{us:List Value},↑xs=↑us->(∀(i:Nat) x u,xs[i]?=some x->us[i]?=some u->RelV x u)->Vals xs us:=by
 induction xs with
 | nil=>intro us hl h;cases us with
  | nil=>exact .nil
  | cons _ _=>simp at hl
 | cons x xs ih=>intro us hl h;cases us with
  | nil=>simp at hl
  | cons u us=>exact .cons (h 0 x u rfl rfl) (ih (by simpa using hl) fun i x u h1 h2=>h (i+1) x u (by simpa using h1) (by simpa using h2))
def zr1(hc:X.calm=true):CallR X (.type "list") (fun xs H Q=>∃p kvs,xs=[.ref p]/\Rd H p (.dK kvs)/\∀l,H l=none->Q (.ref l) (upd H l (.lst (kvs.map fun kv=>kV kv.1)))):=by
 intro a6 s σ H xs us Q I r h;obtain⟨p,kvs,rfl,er,q⟩:=h;obtain⟨u,rfl,rx⟩:=zp8 r;cases rx;obtain⟨hz,a2,hd⟩:=yg4 I.hok er;obtain⟨o,ho⟩:∃o,s.heap.get? p=some o:=by obtain⟨vs,_,o,_,_,e,_⟩:=hd;exact⟨o,e⟩
 obtain⟨vs,ep,a3,a7⟩:=zs8 ho hd;have a4:=↑a3;refine PySem.W.kdl_call (PySem.W.kdl_dict (knd:=zc4 X.prog X.w) (kvs:=vs) (ep:=ep) (d:=p) a2) (I.ok.hd hc) (a7 _ ho) (by lia) fun h' tk a1 c' kp e a0=>?_
 refine⟨.ref s⁻¹,_,I.laid (t':=tk) kp (wz6 _) (show ObjOk X.prog X.w _ h' _ (.lst (kvs.map fun kv=>kV kv.1)) from ⟨by rw[lqm];exact hz,a1.toList,c',?_,by simpa using e⟩),rfl,q _ (I.hok.fresh (wz6 _))⟩;refine wp9 (by have h1:=a0.1;have h2:↑a1.toList=a1.size:=vd7;rw[lqm];lia) fun i x u h1 h2=>?_
 obtain⟨k,y,hy,hk⟩:=a0.2 i u (by rw[<-vn7];exact h2);obtain⟨v',a5,_⟩:=a3.get hy;rw[wz5,a5]at h1;cases h1;rcases zd9 hk with ⟨n,t,rfl,rfl⟩ | ⟨n,t,rfl,rfl⟩
 .exact⟨t,rfl⟩
 .exact⟨t,rfl⟩
def yd7{prog:Program}{w:World}{A:Around}{bs:List Bool}{its:List Value}(r:Vals (bs.map V.bl) its):TruthOf prog w A (fun i v=>its.toArray[i]?=some v) (fun i=>bs.getD i false):=by
 intro i v s Q E hv hq;have hv:its[i]?=some v:=by simpa using hv
 have hl:=↑r;rw[lqm]at hl;obtain⟨hi,_⟩:=wz2.mp hv;have hb:bs[i]?=some bs[i]:=zz2 (by lia);obtain⟨u,hu,ru⟩:=r.get (i:=i) (x:=V.bl bs[i]) (by rw[wz5,hb];rfl);rw[hv]at hu;cases hu;obtain rfl:v=Value.bool bs[i]:=ru;have e:bs.getD i false=bs[i]:=by rw[vk1,hb];rfl
 have hq:Q (bs.getD i false) s:=hq;rw[e]at hq;exact vs0 hq
def xx4(bs:List Bool):(List.range ↑bs).any (fun i=>bs.getD i false)=bs.any id:=by
 rw[vm6];simp only[vt4,uc0]
 constructor
 .rintro⟨i,hi,h⟩;exists bs[i],vg6 hi;rw[vk1,zz2 hi]at h;exact h
 .rintro⟨b,hb,h⟩;obtain⟨i,hi,e⟩:=vf8 hb;exists i,hi;rw[vk1,zz2 hi,e];exact h
def xs2(bs:List Bool):(List.range ↑bs).all (fun i=>bs.getD i false)=bs.all id:=by
 rw[vm6];simp only[vf2,uc0]
 constructor
 .intro h b hb;obtain⟨i,hi,e⟩:=vf8 hb;have:=h i hi;rw[vk1,zz2 hi,e]at this;exact this
 .intro h i hi;rw[vk1,zz2 hi];exact h _ (vg6 hi)
def wf7(hc:X.calm=true):CallR X (.builtin "any") (fun xs H Q=>∃(p:Addr)(bs:List Bool),xs=[.ref p]/\SqL X.K H p (bs.map V.bl)/\Q (.bl (bs.any id)) H):=by
 intro a0 s σ H xs us Q I r h;obtain⟨p,bs,rfl,hq,q⟩:=h;obtain⟨u,rfl,rx⟩:=zp8 r;cases rx;obtain⟨its,rv,pl,hz⟩:=I.list hq;have hl:=↑rv;rw[lqm]at hl;obtain⟨o,ho,_⟩:=id pl.isList;refine call_any_walk (ub4 pl.isList ?_);have a1:p≠s⁻¹:=vb7 (vb1 ho);have I1:Inv X a0 σ H {s with heap:=s.heap.push {cls:=.type "list_iterator",data:=.fields #[.ref p,.int 0 0]}}:=I.kept (t':=s.toks) fun b o e=>wz3 _ e;refine⟨_,_,_,_,_,_,_,rfl,Walks.list (A:=X.A.in1) (I.ok.hd hc) _ p a1 its.toArray,⟨⟨_,vb8 _ rfl,rfl,rfl⟩,pl.isList.at fun o e=>wz3 _ e⟩,yd7 rv,fun h' tk kk=>?_⟩;rw[vc0,<-hl,xx4];refine⟨.bl _,H,I1.turned (t':=tk) (fun b o hb e=>kk b o (by simpa using hb) e) (I.hok.fresh (wz6 _)) (vf1 I.lt) (.inr I.sz) (fun x c e z=>?_) (fun p hp z=>?_),rfl,q⟩
 .obtain⟨v,q⟩:=I.cell x c e;exact absurd q.lt (by rw[z];exact vj1 _)
 .exact absurd (vb1 (I.pin p hp).1) (by rw[z];exact vj1 _)
def wd5(hc:X.calm=true):CallR X (.builtin "all") (fun xs H Q=>∃(p:Addr)(bs:List Bool),xs=[.ref p]/\SqL X.K H p (bs.map V.bl)/\Q (.bl (bs.all id)) H):=by
 intro a0 s σ H xs us Q I r h;obtain⟨p,bs,rfl,hq,q⟩:=h;obtain⟨u,rfl,rx⟩:=zp8 r;cases rx;obtain⟨its,rv,pl,hz⟩:=I.list hq;have hl:=↑rv;rw[lqm]at hl;obtain⟨o,ho,_⟩:=id pl.isList;refine call_all_walk (ub4 pl.isList ?_);have a1:p≠s⁻¹:=vb7 (vb1 ho);have I1:Inv X a0 σ H {s with heap:=s.heap.push {cls:=.type "list_iterator",data:=.fields #[.ref p,.int 0 0]}}:=I.kept (t':=s.toks) fun b o e=>wz3 _ e;refine⟨_,_,_,_,_,_,_,rfl,Walks.list (A:=X.A.in1) (I.ok.hd hc) _ p a1 its.toArray,⟨⟨_,vb8 _ rfl,rfl,rfl⟩,pl.isList.at fun o e=>wz3 _ e⟩,yd7 rv,fun h' tk kk=>?_⟩;rw[vc0,<-hl,xs2];refine⟨.bl _,H,I1.turned (t':=tk) (fun b o hb e=>kk b o (by simpa using hb) e) (I.hok.fresh (wz6 _)) (vf1 I.lt) (.inr I.sz) (fun x c e z=>?_) (fun p hp z=>?_),rfl,q⟩
 .obtain⟨v,q⟩:=I.cell x c e;exact absurd q.lt (by rw[z];exact vj1 _)
 .exact absurd (vb1 (I.pin p hp).1) (by rw[z];exact vj1 _)
def wp5(r:Vals (ss.map V.str) its):StrsAre its ss:=by
 induction ss generalizing its with
 | nil=>cases r;exact .nil
 | cons x ss ih=>
  cases r with
  | cons h t=>obtain⟨tk,rfl⟩:=h;exact .cons _ _ (ih t)
def xw8(r:StrsAre its ss):Vals (ss.map V.str) its:=by
 induction r with
 | nil=>exact .nil
 | cons _ _ _ ih=>exact .cons ⟨_,rfl⟩ ih
def zk4:CallR X (.builtin "sorted") (fun xs H Q=>∃(p:Addr)(ss:List Str),xs=[.ref p]/\SqL X.K H p (ss.map V.str)/\↑ss<64/\∀(l:Addr)(a0:List Str),H l=none->a0.Perm ss->sortedS a0=true->Q (.ref l) (upd H l (.lst (a0.map V.str)))):=by
 intro a1 s σ H xs us Q I r h;obtain⟨p,ss,rfl,hq,a2,q⟩:=h;obtain⟨u,rfl,rx⟩:=zp8 r;cases rx;obtain⟨its,rv,pl,hz⟩:=I.list hq;have hl:=↑rv;rw[lqm]at hl;refine sorted_strs pl.isList (wp5 rv) (by lia) fun out a0 h1 h2 h3=>?_
 obtain⟨e,he⟩:=sortedAll_at s.heap its out;refine⟨.ref (s⁻¹+1),_,I.laid (t':=s.toks) (fun b o e=>sortedAll_old e) (Nat.le_succ _) (show ObjOk X.prog X.w _ _ _ (.lst (a0.map V.str)) from ⟨?_,out.toList,e,xw8 h1,by simpa [seqObj]using he⟩),rfl,q _ _ (I.hok.fresh (Nat.le_succ _)) h2 h3⟩;rw[lqm,h2.length_eq];rw[lqm]at hz;exact hz
def rIsi(K:Fg):List V->Hp->VK->Prop:=fun xs H Q=>∃x T t b,xs=[x,.ty T]/\TyOf K H x t/\PySem.W.kitOne K t (.type T)=some b/\Q (.bl b) H
def zm1:CallR X (.builtin "isinstance") (rIsi X.K):=by
 intro a0 s σ H xs us Q I r h;obtain⟨x,T,t,b,rfl,ty,hk,q⟩:=h;cases r with
 | cons r1 rr=>
  cases rr with
  | cons r2 rr=>
   cases rr;cases (show _=Value.type T from r2);exact xp2 I r1 ty hk fun tk=>⟨.bl b,H,I.tok _,rfl,q⟩
end
def zv0(I:Nat->Shared->Prop) (turn:∀n s,I n s->wpAny (model prog w) A (pyNext it) (fun r s₁=>match r with
   | none=>R (.ok .next) s₁
   | some v=>wpAny (model prog w) A (letOwnedTupleGo target it v) (fun _ s₁=>wpAny (model prog w) A (assign target env v) (fun _ s₂=>
     wpAny (model prog w) A (forIn ifs true fun c r=>if r=true then do let ok <-isTrue c env (eval c env);pure (ForInStep.yield ok) else pure (ForInStep.yield r)) (fun ok s₃=>
      if ok=true then wpAny (model prog w) A (eval kx env) (fun kv s₄=>wpAny (model prog w) A (eval vx env) (fun vv s₅=>
       wpAny (model prog w) A (dictSet DD kv vv) (fun _ s₆=>∃m,m<n/\I m s₆) (fun _ _=>False) s₅) (fun _ _=>False) s₄) (fun _ _=>False) s₃
      else ∃m,m<n/\I m s₃) (fun _ _=>False) s₂) (fun _ _=>False) s₁) (fun _ _=>False) s₁) (fun _ _=>False) s) (n:Nat) (h:I n s):
  codeAny (model prog w) A (.compLoop (.DictComp kx vx [⟨target,iter,ifs,0⟩] scope pos) 0 it (.ref DD) env) R s:=by
 refine codeAny_loop rfl I (fun n s hI=>?_) n h;show wpAny _ A ((compTurn (.DictComp kx vx [⟨target,iter,ifs,0⟩] scope pos) 0 it (.ref DD) env).onRaise (fun x=>do noteFrame x env;theTreesLotGoes x)) _ _ s;refine wpAny_noted ?_;rw[compTurn_dict];refine zz1 (vs6 (zz1 (vj4 (turn n s hI) (fun r s₁ h₁=>?_) fun _ _ h'=>h'.elim)));cases r with
 | none=>exact wz7 h₁
 | some v=>
  refine zz1 (vj4 h₁ (fun _ s₁ h₁=>?_) fun _ _ h'=>h'.elim);refine zz1 (vj4 h₁ (fun _ s₂ h₂=>zz1 (vj4 h₂ (fun ok s₃ h₃=>?_) fun _ _ h'=>h'.elim)) fun _ _ h'=>h'.elim);cases ok with
  | false=>exact wz7 ⟨rfl,h₃⟩
  | true=>
   exact zz1 (zz1 (vj4 h₃ (fun kv s₄ h₄=>zz1 (vg8 (vj4 h₄ (fun vv s₅ h₅=>zz1 (vs6 (vg8 (vj4 h₅ (fun _ s₆ h₆=>wz7 ⟨rfl,h₆⟩) fun _ _ h'=>h'.elim)))) fun _ _ h'=>h'.elim))) fun _ _ h'=>h'.elim))
def xc4(J:It)(g:TG)(tt:TT)(tk te:TE)(D:Addr)(σ0:St)(H0:Hp)(Q:Hp->Prop):Prop:=
 ∃W:Nat->Nat->St->Hp->Prop,(∃m,W 0 m σ0 H0)/\∀i m σ H,W i m σ H->
 (J.stop i H/\Q H)\/(J.go i H/\∃N:St->Hp->Prop,(∀σ' H',N σ' H'->∃m',m'<m/\W (i+1) m' σ' H')/\∀x H',J.yld i H x H'->g x σ H' fun σ2 H2=>tt σ2 H2 fun b H3=>
  if b=true then tk σ2 H3 fun kx H4=>te σ2 H4 fun v H5=>∃kvs k,kx=kV k/\H5 D=some (.dK kvs)/\↑kvs<sizeLine/\N σ2 (upd H5 D (.dK (putK kvs k v))) else N σ2 H3)
section
def yd0{kx vx tg a7:Expr}{af:List Expr}{pos:Pos}{it:Addr}{fp:List Addr}{tn:Nat->Heap->Prop}{J:It}{g:TG}{tt:TT}{ao te:TE}{Q:Addr->Hp->Prop}
  {RR:Value->Addr->Result->Shared->Prop} {E:Vp} (hc:X.calm=true)
  (B:BlkN X scope N' src) (b6:∀x k,(x,k)∈scope.names->k=.free->∀k',(x,k')∈scope.names->k'=.free) (T:Turn X.prog X.w X.K tg J fp it tn) (I:Inv X pins σ H2 s2) (h0:tn 0 s2.heap) (hf:∀b∈fp,FpOk X pins H2 b)
  (hg:∀s3 H3 C,PG (blk X scope N' s3 H3 C fp) tg g) (ht:∀s3 H3 C,PTs (blk X scope N' s3 H3 C fp) af tt) (hk:∀s3 H3 C,PE (blk X scope N' s3 H3 C fp) kx ao) (he:∀s3 H3 C,PE (blk X scope N' s3 H3 C fp) vx te)
  (hw:∀D,H2 D=none->xc4 J g tt ao te D (sub src σ) (upd H2 D (.dK [])) (Q D))
  (hQ:∀D C H' s',C≠D->(∃m,s'.heap.Ns C m)->(∀ae ,Heap.SameBut C s'.heap ae->Inv X pins σ H' {s' with heap:=ae})->Inv X pins σ H' s'->H' C=none->C≠X.env.locals->(∀x c,X.env.cells.lookup x=some c->c≠C)->X.s₀⁻¹<=C->(∀p∈X.pn++pins,p.1≠C)->Q D H'->RR (.ref D) C (.ok .next) s'):
  wpAny (model X.prog X.w) X.A (newDict) (fun ai s₃=>wpAny (model X.prog X.w) X.A (newFunctionEnv scope X.env.globals (clOf X.env scope.names) [] X.env.qual none .none (some X.env)) (fun a6 s₄=>
   codeAny (model X.prog X.w) X.A (.compStart (.DictComp kx vx [⟨tg,a7,af,0⟩] scope pos) 0 (.ref it) ai {a6 with scope:=relabel scope X.env}) (RR ai a6.locals) s₄) E s₃) E s2:=by
 have a9:∀y∈scope.names,y.2≠.cell:=fun y hy=>vb3 (vf2.mp B.nocell y hy);refine vg5 (wpAny_newFunctionEnv a9 (by intro y hy;simp at hy) (fun h₁ a5 a2=>?_) B.kind);dsimp only at a5 a2 ⊢;have b4:H2 s2⁻¹=none:=I.hok.fresh (wz6 _);have I3:Inv X pins σ (upd H2 s2⁻¹ (.dK [])) {s2 with heap:=s2.heap.push {cls:=.type "dict",data:=.dict #[]}}:=
  I.laid (t':=s2.toks) (fun b o e=>wz3 _ e) (wz6 _) (yj3 s2.heap I.big)
 generalize hH3:(s2.heap.push {cls:=.type "dict",data:=.dict #[]})=a0 at a5 a2 I3 ⊢;have ac:a0.objs.size=s2⁻¹+1:=by rw[<-hH3,vt6]
 have a3:∀b o,s2.heap.get? b=some o->a0.get? b=some o:=fun b o e=>by rw[<-hH3];exact wz3 _ e
 have a1:∀b o,a0.get? b=some o->h₁.get? b=some o:=fun b o e=>a2.extBut b o (vb7 (vb1 e)) (wz3 _ e);have a4:s2⁻¹<a0.objs.size:=by rw[ac];exact Nat.lt_succ_self _
 have an:∀b∈fp,FpOk X pins (upd H2 s2⁻¹ (.dK [])) b:=fun b hb=>by
  obtain⟨o,e,_⟩:=T.obj _ _ h0 b hb;refine⟨?_,(hf b hb).2⟩;rw[zb5 (vb7 (vb1 e))];exact(hf b hb).1
 have a8:∀b∈fp,b<a0.objs.size:=fun b hb=>by
  obtain⟨o,e,_⟩:=T.obj _ _ h0 b hb;exact vj0 (vb1 e) a4
 have b7:=yf6 (fp:=fp) (C:=a0.objs.size) (s4:={s2 with heap:=h₁,toks:=s2.toks+↑([]:List (Str×Value))}) B I3 an a8 b6 rfl a5 a1 rfl rfl;have aq:tn 0 h₁:=T.keep _ _ _ h0 fun b hb o e=>a1 b o (a3 b o e);obtain⟨W,⟨m0,w0⟩,turn⟩:=hw s2⁻¹ b4;have aa:∀{H':Hp},(∀b∈fp,H' b=none)->∀b∈fp,FpOk (blk X scope N' {s2 with heap:=a0} (upd H2 s2⁻¹ (.dK [])) a0.objs.size fp) [] H' b:=fun hn b hb=>by
  refine⟨hn b hb,vb7 (a8 b hb),?_,.inl hb,fun x c h=>(hf b hb).2.2.2.2.1 x c (B.back I.ok h).1,fun p hp=>absurd (show p∈([]:List (Addr×Obj)) from hp) (by simp)⟩;intro z;rcases vb4.mp (I3.stkSub b z)with y | y
  .exact(hf b hb).2.1 y
  .exact(hf b hb).2.2.1 y
 have au:∀(s':Shared)(σ':St)(H':Hp),Inv (blk X scope N' {s2 with heap:=a0} (upd H2 s2⁻¹ (.dK [])) a0.objs.size fp) [] σ' H' s'->Q s2⁻¹ H'->RR (.ref s2⁻¹) a0.objs.size (.ok .next) s':=fun s' σ' H' J' q=>by
  obtain⟨hh,gg,dd,ad,b1⟩:=s';have b8:b1=s2.os:=J'.os;subst b8;have IX:Inv X pins σ H' {({s2 with heap:=a0}:Shared)with heap:=hh,gens:=gg,drawn:=dd,toks:=ad}:=Inv.call (s:={s2 with heap:=a0}) I3 (h':=hh) (g':=gg) (d':=dd) (t':=ad) (ch:=fp) J'.base J'.hok J'.bare fun b hb=>⟨(hf b hb).2.2.2.1,(hf b hb).2.1,(hf b hb).2.2.2.2.1,(hf b hb).2.2.2.2.2⟩;have bc:s2⁻¹<=a0.objs.size:=vb5 a4;have aj:a0.objs.size≠X.env.locals:=vf1 I3.lt;have ap:∀x c,X.env.cells.lookup x=some c->c≠a0.objs.size:=fun x c e z=>by
   obtain⟨v,q⟩:=I3.cell x c e;exact absurd (show c<a0.objs.size from q.lt) (by rw[z];exact vj1 _)
  have ah:∀p∈X.pn++pins,p.1≠a0.objs.size:=fun p hp z=>by
   have:=vb1 (I3.pin p hp).1;exact absurd (show p.1<a0.objs.size from this) (by rw[z];exact vj1 _)
  have am:H' a0.objs.size=none:=J'.free;obtain⟨m,hm,_⟩:=J'.loc;refine hQ _ _ H' _ (vf1 a4) ⟨m,hm⟩ (fun ae sb=>?_) IX am aj ap (vh1 I3.sz (wz6 _)) ah q;exact IX.turned (t':=ad) (fun b o hb e=>(sb.2 b hb).trans e) am aj (.inr (vh1 I3.sz (wz6 _))) ap ah
 have loop:∀s₃:Shared,s₃={s2 with heap:=h₁,toks:=s2.toks+↑([]:List (Str×Value))}->
   codeAny (model X.prog X.w) X.A (.compLoop (.DictComp kx vx [⟨tg,a7,af,0⟩] scope pos) 0 (.ref it) (.ref s2⁻¹) (compEnvC scope (clOf X.env scope.names) a0.objs.size X.env))
    (RR (.ref s2⁻¹) a0.objs.size) s₃:=by
  rintro s₃ rfl;refine zv0 (fun n s'=>∃i σ' H',Inv (blk X scope N' {s2 with heap:=a0} (upd H2 s2⁻¹ (.dK [])) a0.objs.size fp) [] σ' H' s'/\tn i s'.heap/\(∀b∈fp,H' b=none)/\W i n σ' H') ?_ m0 ⟨0,_,_,b7,aq,fun b hb=>(an b hb).1,w0⟩;rintro n s5 ⟨i,σ5,H5,I5,as,al,w5⟩;rcases turn i n σ5 H5 w5 with ⟨stop,qn⟩ | ⟨go,Nx,hN,step⟩
  .refine thn (T.done (blk X scope N' {s2 with heap:=a0} (upd H2 s2⁻¹ (.dK [])) a0.objs.size fp) rfl rfl rfl hc i [] s5 σ5 H5 _ I5 (aa al) as stop) fun r s6 ⟨hr,I6⟩=>?_;subst hr;exact au s6 σ5 H5 I6 qn
  .refine thn (T.item (blk X scope N' {s2 with heap:=a0} (upd H2 s2⁻¹ (.dK [])) a0.objs.size fp) rfl rfl rfl hc i [] s5 σ5 H5 _ I5 (aa al) as go) fun r s6 ⟨u,hr,h6⟩=>?_;subst hr;refine thn h6 fun _ s7 ⟨x,H7,I7,r7,y7,ab,av⟩=>?_;have bb:=I7.pinned (aa av) (T.obj _ _ ab);refine thn (hg _ _ _ _ s7 σ5 H7 x u _ bb r7 (step x H7 y7)) fun _ s8 ⟨σ8,H8,I8,q8⟩=>?_;refine thn (ht _ _ _ _ s8 σ8 H8 _ I8 q8) fun ok s9 ⟨H9,I9,q9⟩=>?_;have again:∀{σa:St}{Ha:Hp}{sa:Shared},Inv (blk X scope N' {s2 with heap:=a0} (upd H2 s2⁻¹ (.dK [])) a0.objs.size fp) ([]++yf5 fp s7.heap) σa Ha sa->Nx σa Ha->
     ∃m,m<n/\∃i σ' H',Inv (blk X scope N' {s2 with heap:=a0} (upd H2 s2⁻¹ (.dK [])) a0.objs.size fp) [] σ' H' sa/\tn i sa.heap/\(∀b∈fp,H' b=none)/\W i m σ' H':=fun {σa Ha sa} Ia na=>by
    obtain⟨m',hm,wa⟩:=hN σa Ha na;refine⟨m',hm,i+1,σa,Ha,Ia.unpinned,T.keep _ _ _ ab fun b hb o e=>(Ia.pin (b,o) (vd4 _ (vd4 _ (zj1 hb e)))).1,fun b hb=>?_,wa⟩;obtain⟨o,e,d⟩:=T.obj _ _ ab b hb;exact(Ia.pin (b,o) (vd4 _ (vd4 _ (zj1 hb e)))).2.1
   cases ok with
   | false=>exact again I9 q9
   | true=>
    refine thn (hk _ _ _ _ s9 σ8 H9 _ I9 q9) fun kv az ⟨kk,b2,aw,rk,ba⟩=>?_;refine thn (he _ _ _ _ az σ8 b2 _ aw ba) fun y b5 ⟨v,bd,ak,ay,kvs,k,ek,hx,hl,b3⟩=>?_;subst ek;obtain⟨z,hd,vs,ar,dd⟩:=yk1 ak.hok hx;have hz:↑vs<=sizeLine:=by rw[<-↑ar];exact z
    have b0:↑(putK kvs k v)<=sizeLine:=by have:=zg5 kvs k v;lia
    refine wpAny_dictSet_pairs (knd:=zc4 X.prog X.w) (hsz:=hz) (yn1 rk) dd fun h' ag hs=>?_;have ax:∃q,h'.get? s2⁻¹=some q:=let ⟨q,_,_,hq,_⟩:=ag;⟨q,hq⟩
    have b9:=zn4 (t':=b5.toks+1) ak (by rw[hx];exact vm7) hs ax (yp5 b0 hd (ar.put k ay) ag);exact again b9 b3
 exact codeAny_compStart_dict (loop _ rfl) (T.self _ 0 _ _ _ aq (loop _ rfl))
def wk2(wi:TI)(src:List (Option Nat))(g:TG)(tt:TT)(tkx te:TE):TE:=fun σ H Q=>wi σ H fun J H2=>∀D,H2 D=none->xc4 J g tt tkx te D (sub src σ) (upd H2 D (.dK [])) fun H'=>Q (.ref D) H'
def wc0(hc:X.calm=true)(B:BlkN X scope N' src)(hi:PI X tg iter wi)(hg:∀s3 H3 C fp,PG (blk X scope N' s3 H3 C fp) tg g)(ht:∀s3 H3 C fp,PTs (blk X scope N' s3 H3 C fp) ifs tt)(hk:∀s3 H3 C fp,PE (blk X scope N' s3 H3 C fp) kx tkx)(he:∀s3 H3 C fp,PE (blk X scope N' s3 H3 C fp) vx te)(a5:(scope.names.all fun y=>decide (y.2=.free->∀z∈scope.names,z.1=y.1->z.2=.free))=true:=by rfl')(hs:∀x,foldedSetIterable iter X.env x=pure x:=by intro _;rfl):
  PE X (.DictComp kx vx [⟨tg,iter,ifs,0⟩] scope pos) (wk2 wi src g tt tkx te):=by
 intro a2 s σ H Q I h;have a3:∀x k,(x,k)∈scope.names->k=.free->∀k',(x,k')∈scope.names->k'=.free:=fun x k hm hk k' a4=>vb3 (vf2.mp a5 (x,k) hm) hk (x,k') a4 rfl;have a1:closureFor scope X.env=pure (clOf X.env scope.names):=zj2 fun y hy hf=>I.ok.has y.1 (vb3 (vf2.mp B.frees y hy) hf);have a0:∀y∈scope.names,y.2=.local->scope.names.lookup y.1=some .local:=fun y hy=>vb3 (vf2.mp B.locs y hy);rw[arm_eval_DictComp];refine vp3 (use:=none) rfl hs a1 B.kind a0 (thn (hi a2 s σ H _ I h) fun xv s₁ h₁=>thn h₁ fun aa s2 h2=>?_);obtain⟨it,fp,tn,J,H2,rfl,I2,T,h0,hf,hw⟩:=h2;refine yd0 (RR:=fun a6 C=>compPost (model X.prog X.w) X.A X.xe none (EP X a2 σ Q) a6 C) (Q:=fun D H'=>Q (.ref D) H') hc B a3 T I2 h0 hf (fun a b c=>hg a b c fp) (fun a b c=>ht a b c fp) (fun a b c=>hk a b c fp) (fun a b c=>he a b c fp) hw ?_;intro D C H' s' ab hm a7 IX ad a9 af ae ac q;obtain⟨m,hm⟩:=hm;exact⟨m,hm,fun a8 sb=>⟨.ref D,H',a7 a8 sb,rfl,q⟩⟩
def yt5(hc:X.calm=true)(hN:X.N.Nodup)(af:X.N[i]?=some y)(hy:X.env.scope.names.lookup y=some .local)(B:BlkN X scope N' src)(hi:PI X tg iter wi)(hg:∀s3 H3 C fp,PG (blk X scope N' s3 H3 C fp) tg g)(ht:∀s3 H3 C fp,PTs (blk X scope N' s3 H3 C fp) ifs tt)(hk:∀s3 H3 C fp,PE (blk X scope N' s3 H3 C fp) kx tkx)(he:∀s3 H3 C fp,PE (blk X scope N' s3 H3 C fp) vx te)(ac:swapsWith (.DictComp kx vx [⟨tg,iter,ifs,0⟩] scope pos) (some (.Name y py)) spos.line X.env=pure true:=by rfl)(ag:(scope.names.all fun y=>decide (y.2=.free->∀z∈scope.names,z.1=y.1->z.2=.free))=true:=by rfl')(hs:∀x,foldedSetIterable iter X.env x=pure x:=by intro _;rfl):
  PS X (.Assign [.Name y py] (.DictComp kx vx [⟨tg,iter,ifs,0⟩] scope pos) spos) (tAsg (wk2 wi src g tt tkx te) (zf0 i)):=by
 intro a1 s σ H D I h;have a4:∀x k,(x,k)∈scope.names->k=.free->∀k',(x,k')∈scope.names->k'=.free:=fun x k hm hk k' a7=>vb3 (vf2.mp ag (x,k) hm) hk (x,k') a7 rfl;have a3:closureFor scope X.env=pure (clOf X.env scope.names):=zj2 fun y hy hf=>I.ok.has y.1 (vb3 (vf2.mp B.frees y hy) hf);have a0:∀y∈scope.names,y.2=.local->scope.names.lookup y.1=some .local:=fun y hy=>vb3 (vf2.mp B.locs y hy);rw[exec_Assign_Name_used _ _ _ _ ac];refine zz1 (vs6 (zz1 ?_));show wpAny _ X.A (do let _ <-comprehension (.DictComp kx vx [⟨tg,iter,ifs,0⟩] scope pos) scope X.env _ (newDict) false (eval iter X.env) (some (assign (.Name y py) X.env))) _ _ s;have h':wi σ H fun J H2=>∀D',H2 D'=none->xc4 J g tt tkx te D' (sub src σ) (upd H2 D' (.dK [])) fun H'=>D.nx (σ.set i (some (.ref D'))) H':=h;refine zz1 (vj4 (vp3 (use:=some (assign (.Name y py) X.env)) (Q:=fun _ s'=>SP X a1 D .next s') rfl hs a3 B.kind a0
  (thn (hi a1 s σ H _ I h') fun xv s₁ h₁=>thn h₁ fun aj s2 h2=>?_)) (fun _ s' hq=>wz7 (wz7 hq)) fun _ _ e=>e)
 obtain⟨it,fp,tn,J,H2,rfl,I2,T,h0,hf,hw⟩:=h2;refine yd0 (RR:=fun ab C=>compPost (model X.prog X.w) X.A X.xe (some (assign (.Name y py) X.env)) (fun _ s'=>SP X a1 D .next s') ab C) (Q:=fun D' H'=>D.nx (σ.set i (some (.ref D'))) H') hc B a4 T I2 h0 hf (fun a b c=>hg a b c fp) (fun a b c=>ht a b c fp) (fun a b c=>hk a b c fp) (fun a b c=>he a b c fp) hw ?_;intro D' C H' s' am hm ak IX ah a6 a5 ad aa q;obtain⟨m,hm⟩:=hm;show wpAny _ X.A (assign (.Name y py) X.env (.ref D')) _ _ _;refine wpAny_assign_Name ?_;refine yd1 (v:=.ref D') IX hN af (.inl hy) rfl (fun a9 ae a2=>?_) (.inr hy);obtain⟨a,a8,ha⟩:=a2;have ai:C≠a:=by
  rintro rfl;rcases ha with z | z
  .exact a6 z
  .exact a5 _ _ z rfl
 refine⟨m,hm.sameBut a8 ai,fun al sb=>⟨_,H',?_,q⟩⟩;exact ae.turned (t':=a9.toks) (fun b o hb e=>(sb.2 b hb).trans e) ah a6 (.inr ad) a5 aa
end
def Itd(hi:Int)(n:Nat):It:=⟨fun i _=>i<n,fun i H x H'=>H'=H/\x=.int (hi-i),fun i _=>n<=i⟩
def xn1{P:Program}{w:World}{K:Fg}{tg:Expr}(it:Addr)(hi:Int)(n:Nat):Turn P w K tg (Itd hi n) [it] it (fun i h=>IsRangeIter h it (hi+(i:Nat)*-1) ((n:Int)-(i:Nat)) (-1)) where
 mem:=by simp
 obj:=fun i h st b hb=>by
  have e:b=it:=by simpa using hb
  subst e;exact⟨_,st,fun v z=>by
   have z':Data.fields _=Data.cell v:=z;cases z'⟩
 keep:=fun i h h' st k=>k it (by simp) _ st
 item:=by
  intro X hP hw hK hc i a0 s σ H E I hf st hg;subst hP hw hK;obtain⟨f0,f1,f2,f3,f4,f5⟩:=hf it (by simp);have W:=Walks.range (prog:=X.prog) (w:=X.w) (I.ok.hd hc) it hi (-1) n;refine W.item i s _ _ hg st fun v h' tk hv a1 kk=>?_;obtain⟨t,rfl⟩:=hv;have I1:Inv X a0 σ H {s with heap:=h',toks:=tk}:=I.turned (fun b o hb e=>kk b o (by simpa using hb) e) f0 f1 f3 f4 f5;refine⟨_,rfl,yv8 (s:={s with heap:=h',toks:=tk}) (n:="range_iterator") a1 rfl rfl (by decide) ⟨.int (hi-i),H,I1,⟨t,?_⟩,⟨rfl,rfl⟩,a1,fun b hb=>(hf b hb).1⟩⟩;have e:hi+(i:Int)*-1=hi-i:=by lia
  rw[e]
 done:=by
  intro X hP hw hK hc i a0 s σ H E I hf st hg;subst hP hw hK;obtain⟨f0,f1,f2,f3,f4,f5⟩:=hf it (by simp);exact wpAny_pyNext_range_end (I.ok.hd hc) st (by have:n<=i:=hg;lia) fun h' eb=>⟨rfl,I.turned (t':=s.toks) (fun b o hb e=>eb b o hb e) f0 f1 f3 f4 f5⟩
 self:=fun _ _ _ _ _ st h=>wpAny_pyIter_rangeiter st h
def xg3(ha:-(2 ^ 30)<=a)(a0:a<2 ^ 30)(hb:-(2 ^ 30)<=b)(a1:b<2 ^ 30):Builtin.Range.small a b (-1)=true:=by
 unfold Builtin.Range.small;have e:Builtin.Range.rangeSize a b (-1)=if a > b then a-b else 0:=by
  unfold Builtin.Range.rangeSize;simp only[show ¬((-1:Int) > 0) by decide,vp8,show -(-1:Int)=1 by decide,Int.ediv_one]
  split <;> lia
 rw[e];simp only[Builtin.Range.rangeFitsLong,vp4,Bool.or_eq_true,decide_eq_true_eq,vd6,show ¬((-1:Int) > 0) by decide,vp8]
 split <;> lia
def iDown(ta:TA):TI:=fun σ H R=>ta σ H fun vs H1=>∃i j:Int,vs=[.int i,.int j,.int (-1)]/\(-(2 ^ 30)<=i/\i<2 ^ 30/\-(2 ^ 30)<=j/\j<2 ^ 30)/\R (Itd i (i-j).toNat) H1
def wt6(hg:Gl X "range")(hm:X.mg "range"=none)(ha:PA X [a,b,c] ta)(hs:starEach [a,b,c] X.env=[(false,eval a X.env),(false,eval b X.env),(false,eval c X.env)]:=by rfl)(a1:starEach [b,c] X.env=[(false,eval b X.env),(false,eval c X.env)]:=by rfl):PI X tg (.Call (.Name "range" p) [a,b,c] [] pos) (iDown ta):=by
 intro a0 s σ H R I h;refine Call_ (zr0 I hg hm boot_range (vh3 (thn (ha pos a0 s σ H _ I h) fun us s1 ⟨vs,H1,I1,r1,q1⟩=>?_) (by rw[hs,a1]) (by rw[a1];rfl)));obtain⟨i,j,e,⟨q1,q2,q3,q4⟩,q⟩:=q1;subst e;cases r1 with
 | cons r rr=>
  cases rr with
  | cons r' rr=>
   cases rr with
   | cons r'' rr=>
    cases rr;obtain⟨t,rfl⟩:=r;obtain⟨t',rfl⟩:=r';obtain⟨a2,rfl⟩:=r'';refine call_range_3 (by decide) ?_ (vt9 (PyProof.noPylong_small (by decide)));refine wpAny_pyIter_range (IsRange.new ..) (xg3 q1 q2 q3 q4) ?_;have I2:Inv X a0 σ H1 {s1 with heap:=s1.heap.push {cls:=.type "range",data:=.fields #[.int i t,.int j t',.int (-1) a2]},toks:=s1.toks}:=I1.kept fun b o e=>wz3 _ e;refine⟨_,[_],_,_,H1,rfl,I2.kept (t':=s1.toks) fun b o e=>wz3 _ e,xn1 _ i (i-j).toNat,?_,fun b hb=>?_,q⟩
    .have e1:i+((0:Nat):Int)*-1=i:=by lia
     have e2:(((i-j).toNat:Nat):Int)-((0:Nat):Int)=Builtin.Range.rangeSize i j (-1):=by
      unfold Builtin.Range.rangeSize;simp only[show ¬((-1:Int) > 0) by decide,vp8,show -(-1:Int)=1 by decide,Int.ediv_one]
      split <;> lia
     show IsRangeIter _ _ (i+((0:Nat):Int)*-1) ((((i-j).toNat:Nat):Int)-((0:Nat):Int)) (-1);rw[e1,e2];exact vb8 _ rfl
    .rw[vc7.mp hb];exact I2.fpOk (wz6 _) (I2.hok.fresh (wz6 _))
def wf9{hi:Int}{n:Nat}{g:TG}{tb:TS}{D:Ends}{σ:St}{H:Hp}(Pv:Nat->St->Hp->Prop)(h0:Pv 0 σ H)
  (hs:∀i σ H,i<n->Pv i σ H->g (.int (hi-i)) σ H fun σ2 H2=>tb {D with nx:=Pv (i+1),ct:=Pv (i+1),bk:=D.nx} σ2 H2) (hd:∀σ H,Pv n σ H->D.nx σ H):
  ∃W:Nat->Nat->St->Hp->Prop,(∃m,W 0 m σ H)/\∀i m σ H,W i m σ H->
   ((Itd hi n).stop i H/\D.nx σ H)\/((Itd hi n).go i H/\∃N:St->Hp->Prop,(∀σ' H',N σ' H'->∃m',m'<m/\W (i+1) m' σ' H')/\∀x H',(Itd hi n).yld i H x H'->g x σ H' fun σ2 H2=>tb {D with nx:=N,ct:=N,bk:=D.nx} σ2 H2):=by
 exists fun i m σ H=>m=n-i/\i<=n/\Pv i σ H,⟨n,by simp,vc9 _,h0⟩;rintro i m σ H ⟨rfl,hi,p⟩
 by_cases a0:i<n
 .refine .inr ⟨a0,Pv (i+1),fun σ' H' p'=>⟨n-(i+1),by lia,rfl,a0,p'⟩,fun x H' y=>?_⟩;obtain⟨e,y⟩:=y;subst e y;exact hs i σ _ a0 p
 .have e:i=n:=by lia
  subst e;exact .inl ⟨wz6 _,hd σ H p⟩
section
def rSlS:V->Option Int->Option Int->Hp->VK->Prop:=fun x lo hi H Q=>∃z,x=.str z/\↑z<=sizeLine/\Q (.str (Txt.slice z lo hi)) H
def wm5:SlR X rSlS:=by
 intro a1 s σ H x v vl vu lo hi sl Q I rx hs pl pu h;obtain⟨z,rfl,hz,q⟩:=h;obtain⟨t,rfl⟩:=rx;exists "str",_,F.slot_str_getitem.lookup,typeIs_str _ _ _;have a0:∀(l u:Option (Int×Tok)),s.heap.IsSlice sl l u none->l.map (·.1)=lo->u.map (·.1)=hi->wpAny (model X.prog X.w) X.A (getItem (.str z t) (.ref sl)) (EP X a1 σ Q) X.xe s:=fun l u a2 el eu=>by
  refine wpAny_getItem_str_slice (l:=l) (u:=u) (st:=none) a2 rfl (post_val_or_str ⟨?_,fun t' k=>?_⟩)
  .have:=Txt.slice_le z lo hi;rw[<-el,<-eu]at this;exact vh1 this hz
  .refine⟨.str (Txt.slice z lo hi),H,I.tok _,⟨t',?_⟩,q⟩;rw[<-el,<-eu];rfl
 cases pl with
 | none=>cases pu with
  | none=>exact a0 none none hs rfl rfl
  | int j tj=>exact a0 none (some (j,tj)) hs rfl rfl
 | int i ti=>cases pu with
  | none=>exact a0 (some (i,ti)) none hs rfl rfl
  | int j tj=>exact a0 (some (i,ti)) (some (j,tj)) hs rfl rfl
def rMulS:R2:=fun x y H Q=>∃z n,x=.str z/\y=.int n/\(n=0\/n=1)/\Q (.str (if n=0 then Str.empty else z)) H
def wq3:OpR X (binaryOp .Mult) rMulS:=by
 intro a1 s σ H x y v u Q I rx ry h;obtain⟨z,n,rfl,rfl,hn,q⟩:=h;obtain⟨t,rfl⟩:=rx;obtain⟨t',rfl⟩:=ry;refine SB.mul ⟨?_,?_,?_⟩ fun a0 k=>⟨.str (Txt.mul z n),H,I.tok _,⟨a0,rfl⟩,?_⟩
 .rcases hn with rfl | rfl <;> decide
 .rcases hn with rfl | rfl
  .intro h;exact absurd (by decide) h
  .intro _ h;simp at h
 .rcases hn with rfl | rfl
  .intro h;exact absurd (by decide) h
  .intro _ h;simp at h
 .rcases hn with rfl | rfl
  .exact q
  .exact q
def rEqL(K:Fg)(neg:Bool):R2:=fun x y H Q=>∃a b xs,x=.ref a/\y=.ref b/\a≠b/\SqL K H a xs/\SqL K H b []/\Q (.bl (xs.isEmpty != neg)) H
def yz7(hu:X.A.units<cLine):OpR X (compareOp .Eq) (rEqL X.K false):=by
 intro a1 s σ H x y v u Q I rx ry h;obtain⟨a,b,xs,rfl,rfl,a2,h1,h2,q⟩:=h;cases rx;cases ry;obtain⟨its,r,p,hz⟩:=I.list h1;obtain⟨a0,r2,p2,_⟩:=I.list h2;cases r2;show wpAny _ _ (richCompare .Eq (.ref a) (.ref b)) _ _ _;cases r with
 | nil=>exact SeqAt.RcAt.lists (e:=fun _=>true) p.isList p2.isList rfl hu (fun j h=>absurd h (by simp)) _ _ _ _ ⟨.bl true,H,I,by simp;rfl,q⟩
 | cons r rr=>exact SeqAt.RcAt.lists_lengths p.isList p2.isList (by simp) hu _ _ _ _ ⟨.bl false,H,I,rfl,q⟩
def yn5(hu:X.A.units<cLine):OpR X (compareOp .NotEq) (rEqL X.K true):=by
 intro a1 s σ H x y v u Q I rx ry h;obtain⟨a,b,xs,rfl,rfl,a2,h1,h2,q⟩:=h;cases rx;cases ry;obtain⟨its,r,p,hz⟩:=I.list h1;obtain⟨a0,r2,p2,_⟩:=I.list h2;cases r2;show wpAny _ _ (richCompare .NotEq (.ref a) (.ref b)) _ _ _;cases r with
 | nil=>exact SeqAt.RcNeAt.lists (e:=fun _=>true) p.isList p2.isList rfl hu (fun j h=>absurd h (by simp)) _ _ _ _ ⟨.bl false,H,I,by simp;rfl,q⟩
 | cons r rr=>exact SeqAt.RcNeAt.lists_lengths p.isList p2.isList (by simp) hu _ _ _ _ ⟨.bl true,H,I,rfl,q⟩
def wc1(its:List Value):slicePick its.toArray none none (some (-1))=its.reverse.toArray:=by
 unfold slicePick;have e:sliceBounds none none (some (-1)) its.toArray.size=((↑its:Int)-1,-1,-1):=by
  unfold sliceBounds;simp
 rw[e];unfold sliceRange;simp only[show ¬((-1:Int) > 0) by decide,vp8,show -(-1:Int)=1 by decide,Int.ediv_one];have ec:(if (↑its:Int)-1 > -1 then(↑its:Int)-1 - -1 - -1-1 else 0).toNat=↑its:=by split <;> lia
 rw[ec]
 congr 1
 rw[List.filterMap_map];refine ub6 fun i=>?_;have key:∀(n:Nat),n<=↑its->(List.range n).filterMap ((fun x=>its.toArray[x]?)∘fun(k:Nat)=>((↑its:Int)-1+-1*(k:Int)).toNat)=its.reverse.take n:=by
  intro n
  induction n with
  | zero=>intro _;simp
  | succ n ih=>
   intro hn;rw[List.range_succ,List.filterMap_append,ih (by lia),vc5]
   congr 1
   have e2:((↑its:Int)-1+-1*(n:Int)).toNat=↑its-1-n:=by lia
   have e3:its[↑its-1-n]?=some its[↑its-1-n]:=zz2 (by lia);have e4:its.reverse[n]?=some its[↑its-1-n]:=by rw[List.getElem?_reverse (by lia)];exact e3
   rw[e4];have e5:((fun x=>its.toArray[x]?)∘fun(k:Nat)=>((↑its:Int)-1+-1*(k:Int)).toNat) n=some its[↑its-1-n]:=by
    show its.toArray[((↑its:Int)-1+-1*(n:Int)).toNat]?=_;rw[e2];simpa using e3
   rw[vx8,e5];rfl
 rw[key ↑its (wz6 _)];rw[vb2 (by simp)]
def tRev(K:Fg)(te:TE)(ts:TE):TE:=fun σ H Q=>te σ H fun x H1=>ts σ H1 fun y H2=>y=.int (-1)/\∃a xs,x=.ref a/\SqL K H2 a xs/\∀p,H2 p=none->Q (.ref p) (upd H2 p (.lst xs.reverse))
def wm3{e st:Expr}{te ts:TE}{p2 pos:Pos}(he:PE X e te)(a2:PE X st ts):PE X (.Subscript e (.Slice none none (some st) p2) pos) (tRev X.K te ts):=by
 intro a0 s σ H Q I h;refine Subscript_ (thn (he a0 s σ H _ I h) fun v s1 ⟨x,H1,I1,r1,q1⟩=>?_);refine wpAny_Slice ?_;rw[evalPart_none];refine wz7 (wz7 ?_);refine thn (a2 a0 s1 σ H1 _ I1 q1) fun vs s3 ⟨y,H3,I3,ry,ey,a,xs,ex,hq,q⟩=>?_;subst ey ex;obtain⟨tk,rfl⟩:=ry;obtain rfl:v=Value.ref a:=r1;have I4:Inv X a0 σ H3 {s3 with heap:=s3.heap.push {cls:=.type "slice",data:=.fields #[.none,.none,.int (-1) tk]}}:=I3.kept (t':=s3.toks) fun b ob q=>wz3 _ q;show wpAny (model X.prog X.w) X.A (subscriptTail e (.Slice none none (some st) p2) (.ref a) (.ref s3⁻¹)) (EP X a0 σ Q) X.xe {s3 with heap:=s3.heap.push {cls:=.type "slice",data:=.fields #[.none,.none,.int (-1) tk]}};obtain⟨its,r,ht,hz⟩:=I4.list hq;have a1:=↑r;refine tail_any (ops:=[.ref a,.ref s3⁻¹]) ht.isList.typeIs slot_list_getitem.lookup ?_ (by with_unfolding_all rfl);refine wpAny_getItem_list_slice ht.isList (Heap.IsSliceOf.new ..) .none .none (.int (-1) tk) (by simp) ?_ (by rw[vc0] <;> lia);rw[wc1];refine⟨.ref _,_,I4.laid (t':=s3.toks) (o:=.lst xs.reverse) (fun b ob q=>wz3 _ q) (wz6 _) ?_,rfl,q _ (I4.hok.fresh (wz6 _))⟩;exact⟨by rw[vs9];exact hz,_,0,r.reverse,vb8 _ rfl⟩
end
def Inv.turnedNew{X:Cx}{a1:List (Addr×Obj)}{σ:St}{H:Hp}{s:Shared}{h':Heap}{t':Nat}{ch:List Addr}{xs:List V}{its:List Value}(I:Inv X a1 σ H s)(hf:∀b∈ch,FpOk X a1 H b)
  (keep:∀b o,b∉ch->s.heap.get? b=some o->h'.get? b=some o) (hT:h'.get? s⁻¹=some {cls:=.type "tuple",data:=.seq its.toArray}) (r:Vals xs its) (hz:↑xs<=sizeLine):
  Inv X a1 σ (upd H s⁻¹ (.tup xs)) {s with heap:=h',toks:=t'}:=by
 have a2:∀b u,H b=some u->b∉ch:=fun b u e hb=>by
  have:=(hf b hb).1;rw[this]at e;cases e
 have I0:Inv X a1 σ H {s with heap:=h',toks:=t'}:=by
  refine I.step (g':=s.gens) (d':=s.drawn) (ch:=ch) (fun b hb=>⟨(hf b hb).2.2.2.1,(hf b hb).2.1,(hf b hb).2.2.2.2.1,(hf b hb).2.2.2.2.2⟩) (fun b o _ _ hc e _=>keep b o hc e) (fun b o _ _ hc e _=>⟨o.slots,keep b o hc e⟩)
   (fun _ _ _ _ n=>n) (fun b o hc e=>⟨o,keep b o hc e⟩) (fun _ _ e=>e) (fun _ _ _ e=>e) (fun b ps e=>⟨#[],by rw[e];simp⟩) (fun m hm=>?_) (fun b u eq=>?_) I.bare
  .obtain⟨o,es,ep,ho,r⟩:=hm;exact⟨o,es,ep,keep _ o (fun z=>(hf _ z).2.1 rfl) ho,r⟩
  .refine(I.hok b u eq).stay (fun c v hc q=>keep c v ?_ q) (fun _ q=>q) fun _ _ q=>q;rcases hc with z | z
   .rw[z];exact a2 b u eq
   .exact a2 c _ z
 have a0:H s⁻¹=none:=I.hok.fresh (wz6 _);have base:=I0.base;have hok:HOk X.prog X.w (upd H s⁻¹ (.tup xs)) h':=by
  intro b z q
  by_cases hb:b=s⁻¹
  .subst hb;rw[zb1]at q;cases q;exact⟨⟨hz,_,hT,rfl⟩,its,r,_,hT,rfl,_,rfl⟩
  .rw[zb5 hb]at q;refine(I0.hok b z q).stay (fun c w' _ r=>r) (fun c r=>?_) fun c xs r=>?_
   .rw[zb5 (zb4 r a0)];exact r
   .rw[zb5 (zb4 r a0)];exact r
 have old:∀b o',X.s₀.heap.get? b=some o'->b≠s⁻¹:=fun b o' e=>vb7 (vf3 (vb1 e) I.sz);refine⟨I0.ok,I0.os,I0.bare,⟨base.keep,base.slot,fun b ob q n hx=>?_,base.there,fun b ys q=>?_,fun b ob y q=>?_,fun b ps q=>?_⟩,I0.loc,I0.cell,?_,fun y c h=>?_,fun p hp=>?_,hok,I0.len⟩
 .rw[zb5 (old b ob q)];exact base.free b ob q n hx
 .have:=base.tups b ys q;rw[zb5 (zb4 this a0)];exact this
 .have:=base.frzs b ob y q;rw[zb5 (zb4 this a0)];exact this
 .obtain⟨m,this⟩:=base.tbls b ps q;exact⟨m,by rw[zb5 (zb4 this a0)];exact this⟩
 .rw[zb5 (vb7 I.lt)];exact I.free
 .obtain⟨v,q⟩:=I.cell y c h;rw[zb5 (vb7 q.lt)];exact I.freeC y c h
 .obtain⟨h1,h2,h3⟩:=I0.pin p hp;have:=vb1 (I.pin p hp).1;exact⟨h1,by rw[zb5 (vb7 this)];exact h2,h3⟩
def Inv.turnedAll{X:Cx}{a0:List (Addr×Obj)}{σ:St}{H:Hp}{s:Shared}{h':Heap}{t':Nat}{ch:List Addr}(I:Inv X a0 σ H s)(hf:∀b∈ch,FpOk X a0 H b)
  (keep:∀b o,b∉ch->s.heap.get? b=some o->h'.get? b=some o):Inv X a0 σ H {s with heap:=h',toks:=t'}:=by
 have a1:∀b u,H b=some u->b∉ch:=fun b u e hb=>by
  have:=(hf b hb).1;rw[this]at e;cases e
 refine I.step (g':=s.gens) (d':=s.drawn) (ch:=ch) (fun b hb=>⟨(hf b hb).2.2.2.1,(hf b hb).2.1,(hf b hb).2.2.2.2.1,(hf b hb).2.2.2.2.2⟩) (fun b o _ _ hc e _=>keep b o hc e) (fun b o _ _ hc e _=>⟨o.slots,keep b o hc e⟩)
  (fun _ _ _ _ n=>n) (fun b o hc e=>⟨o,keep b o hc e⟩) (fun _ _ e=>e) (fun _ _ _ e=>e) (fun b ps e=>⟨#[],by rw[e];simp⟩) (fun m hm=>?_) (fun b u eq=>?_) I.bare
 .obtain⟨o,es,ep,ho,r⟩:=hm;exact⟨o,es,ep,keep _ o (fun z=>(hf _ z).2.1 rfl) ho,r⟩
 .refine(I.hok b u eq).stay (fun c v hc q=>keep c v ?_ q) (fun _ q=>q) fun _ _ q=>q;rcases hc with z | z
  .rw[z];exact a1 b u eq
  .exact a1 c _ z
def ItB(tp:Bool)(h:Heap)(it l:Addr)(k:Nat):Prop:=match tp with | true=>h.IsTupleIter it l k | false=>h.IsListIter it l k
def SeB(tp:Bool)(h:Heap)(l:Addr)(xs:Array Value):Prop:=match tp with | true=>h.IsTuple l xs | false=>h.IsList l xs
def ItB.at(x:ItB tp h it l k)(e:∀o,h.get? it=some o->h'.get? it=some o):ItB tp h' it l k:=by
 cases tp with
 | true=>exact Heap.IsTupleIter.at x e
 | false=>exact Heap.IsListIter.at x e
def SeB.at(x:SeB tp h l xs)(e:∀o,h.get? l=some o->h'.get? l=some o):SeB tp h' l xs:=by
 cases tp with
 | true=>obtain⟨o,ho,r⟩:=(show h.IsTuple l xs from x);exact⟨o,e _ ho,r⟩
 | false=>exact Heap.IsList.at x e
def ItB.obj(x:ItB tp h it l k):∃o,h.get? it=some o/\∀v,o.data≠.cell v:=by
 cases tp with
 | true=>obtain⟨o,e,c,d⟩:=(show h.IsTupleIter it l k from x);exact⟨o,e,fun v z=>by rw[d]at z;cases z⟩
 | false=>obtain⟨o,e,c,d⟩:=(show h.IsListIter it l k from x);exact⟨o,e,fun v z=>by rw[d]at z;cases z⟩
section
def zp5(a0:ItB tp s.heap it l k)(hl:SeB tp s.heap l items)(hx:items[k]?=some x)(hQ:∀h',ItB tp h' it l (k+1)->Heap.SameBut it s.heap h'->Q x {s with heap:=h'}):wpAny (model prog w) A (Builtin.SmallTypes.nextOf (.ref it)) Q E s:=by
 cases tp with
 | false=>exact wpAny_nextOf_list_item a0 hl hx hQ
 | true=>
  have a0:s.heap.IsTupleIter it l k:=a0;obtain⟨o,ho,hc,hd⟩:=id a0;obtain⟨ol,a1,_,nl,a2⟩:=(show s.heap.IsTuple l items from hl);unfold Builtin.SmallTypes.nextOf;refine zz1 (vg2 (name:=Str.ofString "__next__") a0.typeIs vr2 (vg4 vr2 a0.typeIs F.entry_tuple_iterator_next ?_ (F.args_tuple_iterator_next_1 _)));show wpAny _ _ (field (.ref it) 0 >>= _) _ _ s;refine zz1 (vh0 ho hd (x:=.ref l) rfl ?_);show wpAny _ _ (if (Value.ref l == Value.none)=true then _ else _) _ _ s;rw[vd0 (show ¬((Value.ref l == Value.none)=true) from vb6)];show wpAny _ _ (field (.ref it) 1 >>= _) _ _ s;refine zz1 (vh0 ho hd (x:=.int k 0) rfl ?_);show wpAny _ _ (seqItems? (.ref l) >>= _) _ _ s;refine zz1 (vm2 a1 a2 ?_);simp only[vq3,hx];refine zz1 (wpAny_setField ho hd (by simp) (wz7 ⟨x,rfl,wz7 (hQ _ (show Heap.IsTupleIter _ it l (k+1) from ?_) (vq7 ..))⟩));exact⟨_,vj7 _ ho (Obj.isFreed_of_fields (Obj.data_mapFields hd _)),(Obj.cls_mapFields ..).trans hc,by rw[Obj.data_mapFields hd];simp[rawInt]⟩
def ym4(hh:A.handled=none)(a0:ItB tp s.heap it l k)(hl:SeB tp s.heap l items)(hx:items[k]?=none)(hE:∀h' e,Heap.ExtBut it s.heap h'->(∃o,h'.get? e=some o/\o.cls=.type "StopIteration")->E (.ref e) {s with heap:=h'}):wpAny (model prog w) A (Builtin.SmallTypes.nextOf (.ref it)) Q E s:=by
 cases tp with
 | false=>exact wpAny_nextOf_list_end hh a0 hl hx hE
 | true=>
  have a0:s.heap.IsTupleIter it l k:=a0;obtain⟨o,ho,hc,hd⟩:=id a0;obtain⟨ol,a1,_,nl,a2⟩:=(show s.heap.IsTuple l items from hl);unfold Builtin.SmallTypes.nextOf;refine zz1 (vg2 (name:=Str.ofString "__next__") a0.typeIs vr2 (vg4 vr2 a0.typeIs F.entry_tuple_iterator_next ?_ (F.args_tuple_iterator_next_1 _)));show wpAny _ _ (field (.ref it) 0 >>= _) _ _ s;refine zz1 (vh0 ho hd (x:=.ref l) rfl ?_);show wpAny _ _ (if (Value.ref l == Value.none)=true then _ else _) _ _ s;rw[vd0 (show ¬((Value.ref l == Value.none)=true) from vb6)];show wpAny _ _ (field (.ref it) 1 >>= _) _ _ s;refine zz1 (vh0 ho hd (x:=.int k 0) rfl ?_);show wpAny _ _ (seqItems? (.ref l) >>= _) _ _ s;refine zz1 (vm2 a1 a2 ?_);simp only[vq3,hx];refine zz1 (vp2 (zz1 (wpAny_setField ho hd (by simp) ?_)));show wpAny _ _ (newExc (.type "StopIteration") [] >>= _) _ _ _;refine zz1 ?_;simp only[newExc,newTuple];refine zz1 (vg5 ?_ (by size_fits));refine zz1 (m:=firstArgMember _ _) (wpAny_of_eq (a:=Value.none) (by first | rfl | (simp only[firstArgMember];rfl)) ?_);refine vg5 ?_ (by size_fits);simp only[raiseNew];refine zz1 (wpAny_handled ?_)
  first | rw[show A.in1.handled=none from hh] | rw[hh]
  refine zz1 (wz7 (wpAny_throw ?_));exact hE _ _ (((vq7 ..).extBut.push _).push _) ⟨_,vb8 _ rfl,rfl⟩
def yp0{p q:Bool}{z TI TO i1 i2 l1 l2:Addr}{k:Nat}{xs ys:Array Value}{x y a b:Value}{Q:Option Value->Shared->Prop}(D:ZipApart z TI TO i1 i2 l1 l2)
  (hz:IsZip s.heap z TI TO .none) (ao:IsPair s.heap TI (.ref i1) (.ref i2)) (an:IsPair s.heap TO a b)
  (h1:ItB p s.heap i1 l1 k) (h2:ItB q s.heap i2 l2 k) (ak:SeB p s.heap l1 xs) (ah:SeB q s.heap l2 ys) (hx:xs[k]?=some x) (hy:ys[k]?=some y)
  (hQ:∀h',IsZip h' z TI TO (rawInt s⁻¹)->IsPair h' TO x y->ItB p h' i1 l1 (k+1)->ItB q h' i2 l2 (k+1)->IsPair h' s⁻¹ x y->
   (∀c o,c≠z->c≠TO->c≠i1->c≠i2->s.heap.get? c=some o->h'.get? c=some o)->Q (some (.ref s⁻¹)) {s with heap:=h'}):
  wpAny (model prog w) A (pyNext (.ref z)) Q E s:=by
 have hT:s.TypeIs (.ref z) "zip":=⟨_,hz,rfl⟩;unfold pyNext;refine zz1 (vp9 (vg2 (name:=Str.ofString "__next__") hT vq8 (vg4 vq8 hT F.entry_zip_next ?_ (ub7 _))));show wpAny _ _ (field (.ref z) 2 >>= _) _ _ _;refine zz1 (vh0 hz rfl (x:=.bool false) rfl ?_);show wpAny _ _ (field (.ref z) 3 >>= _) _ _ _;refine zz1 (vh0 hz rfl (x:=.ref TI) rfl (zz1 (vm2 ao rfl ?_)));show wpAny _ _ (Builtin.SmallTypes.ownedTupleIsFree (.ref z) >>= _) _ _ _;refine zz1 ?_;unfold Builtin.SmallTypes.ownedTupleIsFree;refine zz1 (vh0 hz rfl (x:=.none) rfl (wz7 ?_));simp only[if_true];refine zz1 (vp2 (zz1 (vh0 hz rfl (x:=.ref TO) rfl (zz1 (vk6 hz (by simp) fun h₁ ac a1=>?_)))));replace ac:IsZip h₁ z TI TO .ellipsis:=ac;refine zz1 ?_;simp only[List.zipIdx_cons,List.zipIdx_nil,vv6,List.forIn_nil];refine zz1 (zz1 (wpAny_onRaise ?_));show wpAny _ _ (Builtin.SmallTypes.nextOf (.ref i1) >>= _) _ _ _;refine zz1 (zp5 (h1.at fun o e=>a1.extBut _ _ D.i1z e) (ak.at fun o e=>a1.extBut _ _ D.l1z e) hx fun h₂ ap a3=>wz7 ?_);have a6:IsPair h₂ TO a b:=a3.extBut _ _ D.TOi1 (a1.extBut _ _ D.TOz an);refine zz1 (vm2 a6 rfl (zz1 (wpAny_updateSeq_pair a6 fun h₃ a2 a4=>?_)));replace a2:IsPair h₃ TO x b:=a2;refine zz1 (wpAny_letGo (wz7 ?_));refine zz1 (zz1 (wpAny_onRaise ?_));show wpAny _ _ (Builtin.SmallTypes.nextOf (.ref i2) >>= _) _ _ _;refine zz1 (zp5 (h2.at fun o e=>a4.extBut _ _ D.TOi2.symm (a3.extBut _ _ D.i12.symm (a1.extBut _ _ D.i2z e)))
  (ah.at fun o e=>a4.extBut _ _ D.l2TO (a3.extBut _ _ D.l2i1 (a1.extBut _ _ D.l2z e))) hy fun h₄ am a5=>wz7 ?_)
 have a9:IsPair h₄ TO x b:=a5.extBut _ _ D.TOi2 a2;refine zz1 (vm2 a9 rfl (zz1 (wpAny_updateSeq_pair a9 fun h₅ a0 a8=>?_)));replace a0:IsPair h₅ TO x y:=a0;refine zz1 (wpAny_letGo (wz7 (wz7 ?_)));refine zz1 (vm2 a0 rfl (zz1 (wpAny_newTuple ?_)));have hsz:h₅.objs.size=s⁻¹:=by rw[a8.1,a5.1,a4.1,a3.1,a1.1]
 have ad:IsZip h₅ z TI TO .ellipsis:=a8.extBut _ _ D.TOz.symm (a5.extBut _ _ D.i2z.symm (a4.extBut _ _ D.TOz.symm (a3.extBut _ _ D.i1z.symm ac)));have aq:∀c o,c≠z->c≠TO->c≠i1->c≠i2->s.heap.get? c=some o->h₅.get? c=some o:=fun c o c1 c2 c3 c4 e=>
  a8.extBut _ _ c2 (a5.extBut _ _ c4 (a4.extBut _ _ c2 (a3.extBut _ _ c3 (a1.extBut _ _ c1 e))))
 have al:ItB p h₅ i1 l1 (k+1):=ap.at fun o e=>a8.extBut _ _ D.TOi1.symm (a5.extBut _ _ D.i12 (a4.extBut _ _ D.TOi1.symm e));have aj:ItB q h₅ i2 l2 (k+1):=am.at fun o e=>a8.extBut _ _ D.TOi2.symm e;have a7:z<h₅.objs.size:=vb1 ad;show wpAny _ _ (Builtin.SmallTypes.ownedTupleHandOut (.ref z) (.ref h₅.objs.size) >>= _) _ _ _;refine zz1 ?_;unfold Builtin.SmallTypes.ownedTupleHandOut;have ai:IsZip (h₅.push {cls:=.type "tuple",data:=.seq #[x,y]}) z TI TO .ellipsis:=wz3 _ ad;refine zz1 (vk6 ai (by simp) fun h₇ ab af=>?_);replace ab:IsZip h₇ z TI TO (rawInt h₅.objs.size):=ab;refine vk6 ab (by simp) fun h₈ aa ag=>?_
 replace aa:IsZip h₈ z TI TO (rawInt h₅.objs.size):=aa;have up:∀c o,c≠z->h₅.get? c=some o->h₈.get? c=some o:=fun c o c1 e=>ag.extBut _ _ c1 (af.extBut _ _ c1 (wz3 _ e));have ae:IsPair h₈ h₅.objs.size x y:=ag.extBut _ _ (vf1 a7) (af.extBut _ _ (vf1 a7) (vb8 _ rfl));rw[hsz]at aa ae;refine wz7 ⟨_,rfl,?_⟩;show wpAny _ _ (pure (some (Value.ref h₅.objs.size))) _ _ _;refine wz7 ?_;rw[hsz];exact hQ h₈ aa (up _ _ D.TOz a0) (al.at fun o e=>up _ o D.i1z e) (aj.at fun o e=>up _ o D.i2z e) ae fun c o c1 c2 c3 c4 e=>up c o c1 (aq c o c1 c2 c3 c4 e)
def xc5{p q:Bool}{z TI TO i1 i2 l1 l2:Addr}{k:Nat}{xs ys:Array Value}{a b:Value}{Q:Option Value->Shared->Prop}(hh:A.handled=none)(D:ZipApart z TI TO i1 i2 l1 l2)
  (hz:IsZip s.heap z TI TO .none) (ai:IsPair s.heap TI (.ref i1) (.ref i2)) (ah:IsPair s.heap TO a b)
  (h1:ItB p s.heap i1 l1 k) (h2:ItB q s.heap i2 l2 k) (ag:SeB p s.heap l1 xs) (af:SeB q s.heap l2 ys) (a8:xs[k]?=none\/ys[k]?=none)
  (hQ:∀h',(∀c o,c≠z->c≠TO->c≠i1->c≠i2->s.heap.get? c=some o->h'.get? c=some o)->Q none {s with heap:=h'}):wpAny (model prog w) A (pyNext (.ref z)) Q E s:=by
 have hT:s.TypeIs (.ref z) "zip":=⟨_,hz,rfl⟩;unfold pyNext;have stop:∀(h':Heap)(e:Addr),(∀c o,c≠z->c≠TO->c≠i1->c≠i2->s.heap.get? c=some o->h'.get? c=some o)->(∃o,h'.get? e=some o/\o.cls=.type "StopIteration")->
   wpAny (model prog w) A (do if (<-isInstance (.ref e) (.type "StopIteration"))=true then pure none else throw (.ref e)) Q E {s with heap:=h'}:=fun h' e hk he=>by
  obtain⟨o,ho,hc⟩:=he;exact zz1 (vt5 (T:="StopIteration") (b:=true) ⟨o,ho,hc⟩ isSubtype_stop (wz7 (hQ _ hk)))
 refine zz1 (vp9 (vg2 (name:=Str.ofString "__next__") hT vq8 (vg4 vq8 hT F.entry_zip_next ?_ (ub7 _))));show wpAny _ _ (field (.ref z) 2 >>= _) _ _ _;refine zz1 (vh0 hz rfl (x:=.bool false) rfl ?_);show wpAny _ _ (field (.ref z) 3 >>= _) _ _ _;refine zz1 (vh0 hz rfl (x:=.ref TI) rfl (zz1 (vm2 ai rfl ?_)));show wpAny _ _ (Builtin.SmallTypes.ownedTupleIsFree (.ref z) >>= _) _ _ _;refine zz1 ?_;unfold Builtin.SmallTypes.ownedTupleIsFree;refine zz1 (vh0 hz rfl (x:=.none) rfl (wz7 ?_));simp only[if_true];refine zz1 (vp2 (zz1 (vh0 hz rfl (x:=.ref TO) rfl (zz1 (vk6 hz (by simp) fun h₁ a6 a3=>?_)))));replace a6:IsZip h₁ z TI TO .ellipsis:=a6;refine zz1 ?_;simp only[List.zipIdx_cons,List.zipIdx_nil,vv6,List.forIn_nil];refine zz1 (zz1 (wpAny_onRaise ?_));show wpAny _ _ (Builtin.SmallTypes.nextOf (.ref i1) >>= _) _ _ _;have ac:=h1.at (h':=h₁) fun o e=>a3.extBut _ _ D.i1z e;have ae:=ag.at (h':=h₁) fun o e=>a3.extBut _ _ D.l1z e;cases hx:xs[k]? with
 | none=>
  refine zz1 (ym4 hh ac ae hx fun h₂ e a0 he=>?_);obtain⟨oe,a2,a5⟩:=he;have ad:IsZip h₂ z TI TO .ellipsis:=a0 _ _ D.i1z.symm a6;have a7:e≠z:=fun x=>by subst x;rw[ad]at a2;cases a2;simp at a5
  refine vk6 ad (by simp) fun h₃ _ a1=>?_
  exact stop h₃ e (fun c o c1 _ c3 _ x=>a1.extBut _ _ c1 (a0 _ _ c3 (a3.extBut _ _ c1 x))) ⟨oe,a1.extBut _ _ a7 a2,a5⟩
 | some x=>
  have hy:ys[k]?=none:=by rcases a8 with h | h;rw[hx]at h;cases h;exact h
  refine zz1 (zp5 ac ae hx fun h₂ ak a0=>wz7 ?_);have a4:IsPair h₂ TO a b:=a0.extBut _ _ D.TOi1 (a3.extBut _ _ D.TOz ah);refine zz1 (vm2 a4 rfl (zz1 (wpAny_updateSeq_pair a4 fun h₃ aj a1=>?_)));refine zz1 (wpAny_letGo (wz7 ?_));refine zz1 (zz1 (wpAny_onRaise ?_));show wpAny _ _ (Builtin.SmallTypes.nextOf (.ref i2) >>= _) _ _ _;refine zz1 (ym4 hh (h2.at fun o e=>a1.extBut _ _ D.TOi2.symm (a0.extBut _ _ D.i12.symm (a3.extBut _ _ D.i2z e)))
   (af.at fun o e=>a1.extBut _ _ D.l2TO (a0.extBut _ _ D.l2i1 (a3.extBut _ _ D.l2z e))) hy fun h₄ e a9 he=>?_)
  obtain⟨oe,a2,a5⟩:=he;have aa:IsZip h₄ z TI TO .ellipsis:=a9 _ _ D.i2z.symm (a1.extBut _ _ D.TOz.symm (a0.extBut _ _ D.i1z.symm a6));have a7:e≠z:=fun x=>by subst x;rw[aa]at a2;cases a2;simp at a5
  refine vk6 aa (by simp) fun h₅ _ ab=>?_
  exact stop h₅ e (fun c o c1 c2 c3 c4 x=>ab.extBut _ _ c1 (a9 _ _ c4 (a1.extBut _ _ c2 (a0.extBut _ _ c3 (a3.extBut _ _ c1 x))))) ⟨oe,ab.extBut _ _ a7 a2,a5⟩
end
def SqB(K:Fg)(tp:Bool)(H:Hp)(a:Addr)(xs:List V):Prop:=match tp with | true=>SqT K H a xs | false=>SqL K H a xs
def Itz(K:Fg)(p q:Bool)(a b:Addr):It:=
 ⟨fun i H=>∃xs ys x y,SqB K p H a xs/\SqB K q H b ys/\xs[i]?=some x/\ys[i]?=some y,
  fun i H v H'=>∃T x y,H T=none/\v=.ref T/\H'=upd H T (.tup [x,y])/\(∀xs,SqB K p H a xs->xs[i]?=some x)/\∀ys,SqB K q H b ys->ys[i]?=some y,
  fun i H=>∃xs ys,SqB K p H a xs/\SqB K q H b ys/\(↑xs<=i\/↑ys<=i)⟩
def Inv.seqB(I:Inv X pins σ H s)(h:SqB X.K tp H a xs):∃its:List Value,Vals xs its/\SeB tp s.heap a its.toArray/\↑xs<=sizeLine:=by
 cases tp with
 | true=>obtain⟨its,r,p,hz⟩:=I.tuple h;exact⟨its,r,p,hz⟩
 | false=>obtain⟨its,r,p,hz⟩:=I.list h;exact⟨its,r,p.isList,hz⟩
def Inv.seqB_inj(I:Inv X pins σ H s)(h:SqB X.K tp H a xs)(h':SqB X.K tp H a ys):xs=ys:=by
 cases tp with
 | true=>exact I.tuple_inj h h'
 | false=>exact I.list_inj h h'
def wf2{P:Program}{w:World}{K:Fg}{es:List Expr}{k:Nat}{pos:Pos}{p q:Bool}{z TI TO i1 i2 l1 l2:Addr}(D:ZipApart z TI TO i1 i2 l1 l2):
  Turn P w K (.Tuple es k pos) (Itz K p q l1 l2) [z,TI,TO,i1,i2] z (fun i h=>IsZip h z TI TO .none/\IsPair h TI (.ref i1) (.ref i2)/\(∃a b,IsPair h TO a b)/\ItB p h i1 l1 i/\ItB q h i2 l2 i) where
 mem:=by simp
 obj:=fun i h st b hb=>by
  obtain⟨hz,a1,⟨a,c,a2⟩,h1,h2⟩:=st;simp only[vb4,wz1,vj2]at hb;rcases hb with rfl | rfl | rfl | rfl | rfl
  .exact⟨_,hz,fun v e=>by
    have e':Data.fields _=Data.cell v:=e;cases e'⟩
  .exact⟨_,a1,fun v e=>by
    have e':Data.seq _ _=Data.cell v:=e;cases e'⟩
  .exact⟨_,a2,fun v e=>by
    have e':Data.seq _ _=Data.cell v:=e;cases e'⟩
  .exact h1.obj
  .exact h2.obj
 keep:=fun i h h' st kp=>by
  obtain⟨hz,a1,⟨a,c,a2⟩,h1,h2⟩:=st;exact⟨kp z (by simp) _ hz,kp TI (by simp) _ a1,⟨a,c,kp TO (by simp) _ a2⟩,h1.at fun o e=>kp i1 (by simp) o e,h2.at fun o e=>kp i2 (by simp) o e⟩
 item:=by
  intro X hP hw hK hc i a3 s σ H E I hf st hg;subst hP hw hK;obtain⟨xs,ys,x,y,a5,a4,hx,hy⟩:=hg;obtain⟨hz,a1,⟨a,c,a2⟩,h1,h2⟩:=st;obtain⟨a6,ac,p1,_⟩:=I.seqB a5;obtain⟨aa,ab,p2,_⟩:=I.seqB a4;obtain⟨u1,al,ag⟩:=ac.get hx;obtain⟨u2,ae,aj⟩:=ab.get hy;have lt:∀{c o},s.heap.get? c=some o->s⁻¹≠c:=fun e=>vf1 (vb1 e);refine yp0 D hz a1 a2 h1 h2 p1 p2 (x:=u1) (y:=u2) (by simpa using al) (by simpa using ae) fun h' am a7 af ai hT kk=>?_
  refine⟨_,rfl,wpAny_letOwnedTupleGo_zip (s:={s with heap:=h'}) am fun a9 ad a0=>?_⟩;have ah:a9.get? s⁻¹=some {cls:=.type "tuple",data:=.seq [u1,u2].toArray}:=a0.extBut _ _ (lt hz) hT;have keep:∀b o,b∉[z,TI,TO,i1,i2]->s.heap.get? b=some o->a9.get? b=some o:=fun b o hb e=>
   a0.extBut _ _ (fun x=>hb (by simp[x])) (kk b o (fun x=>hb (by simp[x])) (fun x=>hb (by simp[x])) (fun x=>hb (by simp[x])) (fun x=>hb (by simp[x])) e)
  have I1:Inv X a3 σ (upd H s⁻¹ (.tup [x,y])) {s with heap:=a9}:=I.turnedNew (t':=s.toks) hf keep ah (.cons ag (.cons aj .nil)) (by show 2<=sizeLine;decide);refine⟨.ref s⁻¹,_,I1,rfl,⟨_,x,y,I.hok.fresh (wz6 _),rfl,rfl,fun ak a8=>by rw[I.seqB_inj a8 a5];exact hx,fun ak a8=>by rw[I.seqB_inj a8 a4];exact hy⟩,
   ⟨ad,a0.extBut _ _ D.TIz (kk _ _ D.TIz D.TITO D.TIi1 D.TIi2 a1),⟨_,_,a0.extBut _ _ D.TOz a7⟩,af.at fun o e=>a0.extBut _ _ D.i1z e,ai.at fun o e=>a0.extBut _ _ D.i2z e⟩,fun b hb=>?_⟩
  obtain⟨o,e,_⟩:∃o,s.heap.get? b=some o/\True:=by
   simp only[vb4,wz1,vj2]at hb;rcases hb with rfl | rfl | rfl | rfl | rfl
   .exact⟨_,hz,trivial⟩
   .exact⟨_,a1,trivial⟩
   .exact⟨_,a2,trivial⟩
   .obtain⟨o,e,_⟩:=h1.obj;exact⟨o,e,trivial⟩
   .obtain⟨o,e,_⟩:=h2.obj;exact⟨o,e,trivial⟩
  rw[zb5 (vj3 (lt e))];exact(hf b hb).1
 done:=by
  intro X hP hw hK hc i a3 s σ H E I hf st hg;subst hP hw hK;obtain⟨xs,ys,a5,a4,hx⟩:=hg;obtain⟨hz,a1,⟨a,c,a2⟩,h1,h2⟩:=st;obtain⟨a6,ac,p1,_⟩:=I.seqB a5;obtain⟨aa,ab,p2,_⟩:=I.seqB a4;have l1:=↑ac;have l2:=↑ab;refine xc5 (I.ok.hd hc) D hz a1 a2 h1 h2 p1 p2 ?_ fun h' kk=>⟨rfl,I.turnedAll (t':=s.toks) hf fun b o hb e=>kk b o (fun x=>hb (by simp[x])) (fun x=>hb (by simp[x])) (fun x=>hb (by simp[x])) (fun x=>hb (by simp[x])) e⟩
  rcases hx with h | h
  .exact .inl (vt8 (by simp;lia))
  .exact .inr (vt8 (by simp;lia))
 self:=fun _ _ _ _ _ st h=>wpAny_pyIter_zip st.1 h
abbrev zt1(h:Heap)(l1:Addr):Heap:=h.push {cls:=.type "tuple_iterator",data:=.fields #[.ref l1,.int 0 0]}
abbrev zt2(h:Heap)(l1 l2:Addr):Heap:=(zt1 h l1).push {cls:=.type "tuple_iterator",data:=.fields #[.ref l2,.int 0 0]}
abbrev zt3(h:Heap)(l1 l2:Addr):Heap:=(zt2 h l1 l2).push {cls:=.type "tuple",data:=.seq #[.ref h.objs.size,.ref (zt1 h l1).objs.size]}
abbrev zt4(h:Heap)(l1 l2:Addr):Heap:=(zt3 h l1 l2).push {cls:=.type "tuple",data:=.seq #[.none,.none]}
abbrev zt5(h:Heap)(l1 l2:Addr):Heap:=(zt4 h l1 l2).push {cls:=.type "zip",data:=.fields #[.none,.bool false,.bool false,.ref (zt2 h l1 l2).objs.size,.ref (zt3 h l1 l2).objs.size]}
def yt2(l1 l2:Addr)(xs ys:Array Value):
  Meets (Builtin.«zip.__new__» ⟨[.type "zip",.ref l1,.ref l2],[]⟩) (fun _ R s=>s.heap.IsTuple l1 xs/\s.heap.IsTuple l2 ys/\R (.ok (.ret (.ref (zt4 s.heap l1 l2).objs.size))) {s with heap:=zt5 s.heap l1 l2}):=
 .of_wp fun prog w A R s h=>by
  obtain⟨hp,g,d,tk,os⟩:=s;obtain⟨a4,a0,h⟩:=h;have a1:=sub_zip;have a3:Heap.IsTuple (Shared.heap ⟨hp,g,d,tk,os⟩) l1 xs:=a4;have a2:Heap.IsTuple (Shared.heap ⟨hp.push {cls:=.type "tuple_iterator",data:=.fields #[.ref l1,.int 0 0]},g,d,tk,os⟩) l2 ys:=by
   obtain⟨o,ho,r⟩:=a0;exact⟨o,wz3 _ ho,r⟩
  wp_walk using wpAny_pyIter_tuple a3,wpAny_pyIter_tuple a2
  exact⟨_,rfl,h⟩
def yv4(a0:s.heap.IsTuple l1 xs)(a1:s.heap.IsTuple l2 ys) (h:∀h',IsZip h' (s⁻¹+4) (s⁻¹+2) (s⁻¹+3) .none->IsPair h' (s⁻¹+2) (.ref s⁻¹) (.ref (s⁻¹+1))->
   IsPair h' (s⁻¹+3) .none .none->h'.IsTupleIter s⁻¹ l1 0->h'.IsTupleIter (s⁻¹+1) l2 0->
   (∀c o,s.heap.get? c=some o->h'.get? c=some o)->Q (.ref (s⁻¹+4)) {s with heap:=h'}):
  wpAny (model prog w) A (call (.type "zip") [.ref l1,.ref l2]) Q E s:=by
 refine callType_new F.called_zip (by decide) (F.typeCall_zip_2 _ _) (F.newCall_zip_2 _ _) (fun obj=>F.args_object_init_3 obj _ _) F.entry_zip_new (yt2 l1 l2 xs ys) ⟨a0,a1,?_⟩;have z1:(zt1 s.heap l1).objs.size=s⁻¹+1:=vt6 ..;have z2:(zt2 s.heap l1 l2).objs.size=s⁻¹+2:=by rw[vt6,z1]
 have z3:(zt3 s.heap l1 l2).objs.size=s⁻¹+3:=by rw[vt6,z2]
 have z4:(zt4 s.heap l1 l2).objs.size=s⁻¹+4:=by rw[vt6,z3]
 have up:∀c o,(zt1 s.heap l1).get? c=some o->(zt5 s.heap l1 l2).get? c=some o:=fun c o e=>wz3 _ (wz3 _ (wz3 _ (wz3 _ e)));have g5:(zt5 s.heap l1 l2).get? (zt4 s.heap l1 l2).objs.size=some _:=vb8 _ rfl;have g4:(zt5 s.heap l1 l2).get? (zt3 s.heap l1 l2).objs.size=some _:=wz3 _ (vb8 _ rfl);have g3:(zt5 s.heap l1 l2).get? (zt2 s.heap l1 l2).objs.size=some _:=wz3 _ (wz3 _ (vb8 _ rfl));have g2:(zt5 s.heap l1 l2).get? (zt1 s.heap l1).objs.size=some _:=wz3 _ (wz3 _ (wz3 _ (vb8 _ rfl)));have g1:(zt5 s.heap l1 l2).get? s⁻¹=some _:=up _ _ (vb8 _ rfl);show _/\_;rw[z2,z3,z4]at g5;rw[z1,z2]at g3;rw[z3]at g4;rw[z1]at g2;rw[z4];exact⟨⟨_,g5,rfl⟩,h _ g5 g3 g4 ⟨_,g1,rfl,rfl⟩ ⟨_,g2,rfl,rfl⟩ fun c o x=>up c o (wz3 _ x)⟩
def iZip(K:Fg)(p:Bool)(ta:TA):TI:=fun σ H R=>ta σ H fun vs H1=>∃a b xs ys,vs=[.ref a,.ref b]/\SqB K p H1 a xs/\SqB K p H1 b ys/\R (Itz K p p a b) H1
def boot_zip:bootBuiltins "zip"=some (.type "zip"):=by first | exact PySem.boot_zip | rfl'
def pi_zip{X:Cx}{p:Bool}{es:List Expr}{k:Nat}{a0:Pos}{a b:Expr}{ta:TA}{pp pos:Pos}(hg:Gl X "zip")(hm:X.mg "zip"=none)(ha:PA X [a,b] ta)
  (hs:starEach [a,b] X.env=[(false,eval a X.env),(false,eval b X.env)]:=by rfl) (a7:starEach [b] X.env=[(false,eval b X.env)]:=by rfl):
  PI X (.Tuple es k a0) (.Call (.Name "zip" pp) [a,b] [] pos) (iZip X.K p ta):=by
 intro a1 s σ H R I h;refine Call_ (zr0 I hg hm boot_zip (vh3 (thn (ha pos a1 s σ H _ I h) fun us s1 ⟨vs,H1,I1,r1,q1⟩=>?_) (by rw[hs,a7]) (by rw[a7];rfl)));obtain⟨l1,l2,xs,ys,e,ab,aa,q⟩:=q1;subst e;cases r1 with
 | cons r rr=>
  cases rr with
  | cons r' rr=>
   cases rr;cases r;cases r';obtain⟨a9,ad,p1,_⟩:=I1.seqB ab;obtain⟨a8,ac,p2,_⟩:=I1.seqB aa;have a6:∀{tp:Bool}{l:Addr}{its:Array Value},SeB tp s1.heap l its->l<s1⁻¹:=fun {tp l its} h=>by
    cases tp with
    | true=>obtain⟨o,e,_⟩:=(show s1.heap.IsTuple l its from h);exact vb1 e
    | false=>obtain⟨o,e,_⟩:=(show s1.heap.IsList l its from h);exact vb1 e
   have D:ZipApart (s1⁻¹+4) (s1⁻¹+2) (s1⁻¹+3) s1⁻¹ (s1⁻¹+1) l1 l2:=zipApart_new (a6 p1) (a6 p2);have a4:∀h',IsZip h' (s1⁻¹+4) (s1⁻¹+2) (s1⁻¹+3) .none->IsPair h' (s1⁻¹+2) (.ref s1⁻¹) (.ref (s1⁻¹+1))->
     IsPair h' (s1⁻¹+3) .none .none->ItB p h' s1⁻¹ l1 0->ItB p h' (s1⁻¹+1) l2 0->(∀c o,s1.heap.get? c=some o->h'.get? c=some o)->
     wpAny (model X.prog X.w) X.A (pyIter (.ref (s1⁻¹+4))) (PIE X a1 σ (.Tuple es k a0) R) X.xe {s1 with heap:=h'}:=fun h' hz a3 a2 h1 h2 kk=>by
    refine wpAny_pyIter_zip (s:={s1 with heap:=h'}) hz ?_;refine⟨_,_,_,_,H1,rfl,I1.kept (t':=s1.toks) kk,wf2 D,⟨hz,a3,⟨_,_,a2⟩,h1,h2⟩,fun b hb=>?_,q⟩;have a5:s1⁻¹<=b:=by
     simp only[vb4,wz1,vj2]at hb;rcases hb with rfl | rfl | rfl | rfl | rfl
     .exact vr4 _ _
     .exact vr4 _ _
     .exact vr4 _ _
     .exact wz6 _
     .exact vr4 _ _
    exact I1.fpOk a5 (I1.hok.fresh a5)
   cases p with
   | true=>exact yv4 p1 p2 fun h' hz a3 a2 h1 h2 kk=>a4 h' hz a3 a2 h1 h2 kk
   | false=>exact call_zip_2 p1 p2 fun h' hz a3 a2 h1 h2 _ kk=>a4 h' hz a3 a2 h1 h2 kk
def yg6:typeLookup (.type "list") "keys"=pure none:=by rw[vq9,vk9];kernel_rfl
def wv4(hx:s.heap.get? a=some o)(hc:o.cls=.type "list")(a0:o.data=.seq xs k)(hd:o.dict=none)(hA:A.handled=none)(h:∀h' tk,(∀b ob,s.heap.get? b=some ob->h'.get? b=some ob)->Q none {s with heap:=h',toks:=tk}):
  wpAny (model prog w) A (getAttr? (.ref a) "keys") Q E s:=by
 obtain⟨c,a4,a3,sl⟩:=o;simp only at hc a0 hd;subst hc a0 hd;obtain⟨hp,g,d,tk,os⟩:=s;have hT:∀a1,(⟨hp,g,d,a1,os⟩:Shared).TypeIs (.ref a) "list":=fun _=>⟨_,hx,rfl⟩;have f1:=sub_AttributeError;have f3:=vz1.lookup;have f4:=vz1.bind (.ref a);have f5:=am_list_getattr_none;unfold getAttr? getAttrBy? getAttrBy
 repeat (any_goals (first | assumption | exact hT _ | ((with_reducible show wpAny _ _ (call (Value.builtin "list.__getattribute__") _ _) _ _ _);refine call_meets vz1 (hT _) am_entry_list_getattribute (F.args_list_getattribute_2 _ _) (meets_getattribute_miss_list a xs k sl "keys" _ yg6 (by decide) (by size_fits)) ⟨hx,hA,fun h' a1 e a2=>?_⟩) | wp_step))
 obtain⟨t',u',he⟩:=a2.there;show wpAny _ _ (getattributeRaised _ _ _ _ _ _ _) _ _ _;unfold getattributeRaised
 repeat (any_goals (first | assumption | wp_step))
 exact h h' a1 a2.of.keeps
def zs1:plainId "dict.update.loop"=true:=by rfl'
def yq3:entryFor table "dict.update.loop"=some Builtin.«dict.update.loop»:=entryFor_of_fast (by kernel_rfl)
def wx1(h:Heap)(its:List Value)(kvs:List (Key×V)):Prop:=↑its=↑kvs/\∀(j:Nat) p,kvs[j]?=some p->∃T kv vv,its[j]?=some (.ref T)/\h.IsTuple T #[kv,vv]/\zv7 p.1 kv=true/\RelV p.2 vv
def yq6{kvs:List (Key×V)}{j:Nat}{p:Key×V}(h:kvs[j]?=some p):zf4 [] (kvs.take (j+1))=putK (zf4 [] (kvs.take j)) p.1 p.2:=by
 unfold zf4;rw[vc5,h,List.foldl_append];rfl
def wc3{prog:Program}{w:World}{A:Around}{R:Result->Shared->Prop}{D it l:Addr}{its:List Value}{kvs:List (Key×V)}(hh:A.handled=none)(aj:l≠D)(ag:l≠it)(a7:D≠it)(hz:↑kvs<sizeLine):
  ∀(n j:Nat)(s:Shared)(vs:List (Key×Value)),↑kvs-j=n->j<=↑kvs->s.heap.IsListIter it l j->s.heap.IsList l its.toArray->wx1 s.heap its kvs->(∀T,Value.ref T∈its->T≠D/\T≠it)->
  s.heap.DictOf (zc4 prog w) D vs->KV (zf4 [] (kvs.take j)) vs->
  (∀h' tk a2,h'.DictOf (zc4 prog w) D a2->KV (zf4 [] kvs) a2->(∀b o,b≠D->b≠it->s.heap.get? b=some o->h'.get? b=some o)->R (.ok (.ret .none)) {s with heap:=h',toks:=tk})->
  codeAny (model prog w) A (.builtin "dict.update.loop" ⟨[.ref D,.ref it,rawInt j,.none],[]⟩) R s:=by
 intro n
 induction n with
 | zero=>
  intro j s vs hn hj a5 hl hp hT hd hk hR;have e:j=↑kvs:=by lia
  subst e;refine vv7 yq3 ?_;rw[vp7 zs1 _];show wpAny _ A.in1 (pyNext (.ref it) >>= _) _ _ s;refine zz1 (wpAny_pyNext_list_end (A:=A.in1) hh a5 hl (by simp[hp.1]) fun h' eb=>?_);show wpAny _ A.in1 (Builtin.Dict.addKeywords D [] >>= _) _ _ _;refine zz1 (wz7 (wz7 (hR h' s.toks vs ?_ ?_ fun b o h1 h2 e=>eb b o h2 e)))
  .exact hd.at fun o e=>eb D o a7 e
  .rw[vb2 (wz6 _)]at hk;exact hk
 | succ n ih=>
  intro j s vs hn hj a5 hl hp hT hd hk hR;have a8:j<↑kvs:=by lia
  obtain⟨T,kv,vv,hi,ht,a6,rv⟩:=hp.2 j kvs[j] (zz2 a8);obtain⟨an,ah⟩:=hT T (vb0 hi);refine vv7 yq3 ?_;rw[vp7 zs1 _];show wpAny _ A.in1 (pyNext (.ref it) >>= _) _ _ s;refine zz1 (wpAny_pyNext_list_item (A:=A.in1) a5 hl (x:=.ref T) (by simpa using hi) fun h' a3 sb=>?_);have a4:h'.IsTuple T #[kv,vv]:=by obtain⟨o,e,r⟩:=ht;exact⟨o,sb.extBut _ _ ah e,r⟩
  have ae:h'.DictOf (zc4 prog w) D vs:=hd.at fun o e=>sb.extBut _ _ a7 e;obtain⟨ot,eo,ec,nt,ed⟩:=id a4;have ak:↑vs<=sizeLine:=by
   have h1:=↑hk;have h2:=zh2 (kvs.take j) [];rw[vc2]at h2;simp at h2;lia
  show wpAny _ A.in1 (holding [.ref T] _ >>= _) _ _ {s with heap:=h'};refine zz1 (vg8 (zz1 (wpAny_tryCatch ?_)));unfold Builtin.Dict.pairItems;refine zz1 (wpAny_typeOf (T:="tuple") ⟨ot,eo,ec⟩ ?_);rw[vd3 (by decide)];refine zz1 (vm2 eo ed (wz7 ?_));show wpAny _ A.in1 (holding [kv,vv] (dictSet D kv vv)) _ _ _;refine vg8 (wpAny_dictSet_pairs (knd:=zc4 prog w) (k:=kvs[j].1) (hsz:=ak) a6 ae fun h2 af a9=>?_);refine wz7 ⟨uc3 zs1 _,?_⟩;have a0:∀b o,b≠D->b≠it->s.heap.get? b=some o->h2.get? b=some o:=fun b o h1 h3 e=>a9.extBut _ _ h1 (sb.extBut _ _ h3 e);refine ih (j+1) {s with heap:=h2,toks:=s.toks+1} _ (by lia) a8 (a3.at fun o e=>a9.extBut _ _ (vj3 a7) e) (hl.at fun o e=>a0 l o aj ag e) ⟨hp.1,fun j' p al=>?_⟩ hT af ?_ fun h3 tk a2 am ab kk=>?_
  .obtain⟨T',ai,ac,aa,a4,a1,ad⟩:=hp.2 j' p al;obtain⟨q1,q2⟩:=hT T' (vb0 aa);obtain⟨o,e,r⟩:=a4;exact⟨T',ai,ac,aa,⟨o,a0 _ _ q1 q2 e,r⟩,a1,ad⟩
  .rw[yq6 (zz2 a8)];exact hk.put _ rv
  .exact hR h3 tk a2 am ab fun b o h1 h4 e=>kk b o h1 h4 (a0 b o h1 h4 e)
section
def rDictL(K:Fg):List V->Hp->VK->Prop:=fun xs H Q=>∃(p:Addr)(ts:List Addr)(kvs:List (Key×V)),xs=[.ref p]/\SqL K H p (ts.map V.ref)/\↑ts=↑kvs/\↑kvs<sizeLine/\
 (∀(j:Nat) t kv,ts[j]?=some t->kvs[j]?=some kv->SqT K H t [kV kv.1,kv.2])/\∀l,H l=none->Q (.ref l) (upd H l (.dK (zf4 [] kvs)))
def zh1(hc:X.calm=true):CallR X (.type "dict") (rDictL X.K):=by
 intro al s σ H xs us Q I r h;obtain⟨p,ts,kvs,rfl,hq,aj,ap,a7,q⟩:=h;obtain⟨u,rfl,rx⟩:=zp8 r;cases rx;obtain⟨its,rv,pl,hz⟩:=I.list hq;obtain⟨ol,nl,aa,ad,a6,ao⟩:=id pl;have a4:p<s⁻¹:=vb1 aa;have ar:↑its=↑ts:=by have:=↑rv;rw[lqm]at this;exact this.symm
 have ab:∀(j:Nat) t,ts[j]?=some t->its[j]?=some (.ref t):=fun j t e=>by
  obtain⟨u,hu,ru⟩:=rv.get (i:=j) (x:=V.ref t) (by rw[wz5,e];rfl);cases ru;exact hu
 refine callType_codes (Q₁:=fun obj s₁=>obj=.ref s⁻¹/\s₁={s with heap:=s.heap.push {cls:=.type "dict",data:=.dict #[]}}) F.kt_called_dict (F.kt_typeCall_dict_1 _) F.entry_dict_init (kt_code_dict_new _ ⟨rfl,rfl⟩) ?_;rintro obj s₁ ⟨rfl,rfl⟩;have a3:(s.heap.push {cls:=.type "dict",data:=.dict #[]}).DictOf (zc4 X.prog X.w) s⁻¹ []:=Heap.DictOf.new s.heap;exists a3.typeIs,F.args_dict_init_2 _ _;unfold Builtin.«dict.__init__»;refine zz1 ?_;unfold Builtin.Dict.selfAndRest;refine zz1 (vv8 a3.typeIs ?_);show wpAny _ _ (pure (s⁻¹,[Value.ref p])) _ _ _;refine wz7 ?_;show wpAny _ _ (Builtin.Dict.updateFrom "dict.__init__" s⁻¹ (.ref p) [] .none) _ _ _;unfold Builtin.Dict.updateFrom;have ac:(s.heap.push {cls:=.type "dict",data:=.dict #[]}).get? p=some ol:=wz3 _ aa;refine zz1 (wpAny_typeOf (T:="list") ⟨ol,ac,ad⟩ ?_);rw[vd3 (by decide)];refine zz1 (wv4 (A:=X.A.in1.in1) ac ad ao a6 (I.ok.hd hc) fun h2 ak ae=>?_);show wpAny _ _ (rule _ >>= _) _ _ _;refine zz1 (vp2 ?_);have a1:∀b o,s.heap.get? b=some o->h2.get? b=some o:=fun b o e=>ae b o (wz3 _ e);have a9:h2.IsList p its.toArray:=pl.isList.at fun o e=>a1 p o e;have af:h2.DictOf (zc4 X.prog X.w) s⁻¹ []:=a3.at fun o e=>ae _ o e;have a0:s⁻¹<h2.objs.size:=by obtain⟨_,_,_,e,_⟩:=af;exact vb1 e
 refine zz1 (ub4 (s:={s with heap:=h2,toks:=ak}) a9 (wz7 ⟨uc3 zs1 _,?_⟩));have a2:∀b o,s.heap.get? b=some o->(h2.push {cls:=.type "list_iterator",data:=.fields #[.ref p,.int 0 0]}).get? b=some o:=fun b o e=>wz3 _ (a1 b o e);have a5:∀(j:Nat) t,ts[j]?=some t->t<s⁻¹/\∃kv kvv vv,kvs[j]?=some kv/\s.heap.IsTuple t #[kvv,vv]/\zv7 kv.1 kvv=true/\RelV kv.2 vv:=fun j t e=>by
  obtain⟨hj,_⟩:=wz2.mp e;have hk:kvs[j]?=some kvs[j]:=zz2 (by lia);obtain⟨as,rt,pt,_⟩:=I.tuple (a7 j t _ e hk);cases rt with
  | cons r1 rr=>
   cases rr with
   | cons r2 rr=>
    cases rr;obtain⟨o,eo,rest⟩:=id pt;exact⟨vb1 eo,_,_,_,hk,pt,yn1 (P:=X.prog) (w:=X.w) r1,r2⟩
 refine wc3 (A:=X.A.in1) (I.ok.hd hc) (its:=its) (kvs:=kvs) (vb7 a4) (vb7 (vj0 a4 a0)) (vb7 a0) ap ↑kvs 0 _ [] (by simp) (vc9 _) ⟨_,vb8 _ rfl,rfl,rfl⟩ (a9.at fun o e=>wz3 _ e) ⟨by lia,fun j kv hj=>?_⟩ (fun T hT=>?_)
  (af.at fun o e=>wz3 _ e) .nil fun h' tk ai ah ag kk=>?_
 .obtain⟨au,_⟩:=wz2.mp hj;have ht:ts[j]?=some ts[j]:=zz2 (by lia);obtain⟨_,aq,a,b,h1,an,h3,h4⟩:=a5 j _ ht;rw[hj]at h1;cases h1;obtain⟨o,e,r⟩:=an;exact⟨_,a,b,ab j _ ht,⟨o,a2 _ _ e,r⟩,h3,h4⟩
 .obtain⟨j,hj,e⟩:=vf8 hT;have ht:ts[j]?=some ts[j]:=zz2 (by lia);have:=ab j _ ht;rw[zz2 hj,e]at this;cases this;have:=(a5 j _ ht).1;exact⟨vb7 this,vb7 (vj0 this a0)⟩
 .refine⟨rfl,⟨.ref s⁻¹,_,?_,rfl,q _ (I.hok.fresh (wz6 _))⟩⟩;have am:↑(zf4 [] kvs)<=sizeLine:=by
   have:=zh2 kvs [];simp at this;lia
  have a8:(s⁻¹ == sysModules)=false:=by
   have:=I.big;simpa using vf1 this
  exact I.laid (t':=tk) (o:=.dK (zf4 [] kvs)) (fun b o e=>kk b o (vb7 (vb1 e)) (vb7 (vj0 (vb1 e) a0)) (a2 b o e)) (wz6 _) ⟨am,a8,ai,ag,ah⟩
end
section
end
def Inv.laidMany(I:Inv X pins σ H s)(keep:∀b o,s.heap.get? b=some o->h'.get? b=some o)(a0:∀b,b<s⁻¹->H' b=H b)(hok:HOk X.prog X.w H' h'):Inv X pins σ H' {s with heap:=h',toks:=t'}:=by
 have I0:Inv X pins σ H {s with heap:=h',toks:=t'}:=I.kept (t':=t') keep;have old:∀b o',X.s₀.heap.get? b=some o'->b<s⁻¹:=fun b o' e=>vf3 (vb1 e) I.sz;have lt:∀b u,H b=some u->b<s⁻¹:=fun b u e=>by
  rcases vq1 b s⁻¹ with h | h
  .exact h
  .rw[I.hok.fresh h]at e;cases e
 have base:=I0.base;refine⟨I0.ok,I0.os,I0.bare,⟨base.keep,base.slot,fun b ob q n hx=>?_,base.there,fun b ys q=>?_,fun b ob y q=>?_,fun b ps q=>?_⟩,I0.loc,I0.cell,?_,fun y c h=>?_,fun p hp=>?_,hok,I0.len⟩
 .rw[a0 b (old b ob q)];exact base.free b ob q n hx
 .have:=base.tups b ys q;rw[a0 b (lt b _ this)];exact this
 .have:=base.frzs b ob y q;rw[a0 b (lt b _ this)];exact this
 .obtain⟨m,this⟩:=base.tbls b ps q;exact⟨m,by rw[a0 b (lt b _ this)];exact this⟩
 .rw[a0 _ I.lt];exact I.free
 .obtain⟨v,q⟩:=I.cell y c h;rw[a0 _ q.lt];exact I.freeC y c h
 .obtain⟨e1,e2,e3⟩:=I0.pin p hp;have:=vb1 (I.pin p hp).1;exact⟨e1,by rw[a0 _ this];exact e2,e3⟩
abbrev yd6(h:Heap)(z TI TO T:Addr)(f:Bool):Prop:=
 h.get? z=some {cls:=.type "zip",dict:=none,data:=.fields #[rawInt T,.bool f,.bool false,.ref TI,.ref TO],slots:=#[]}
section
def yg1{z TI TO T:Addr}{f:Bool}{oT:Obj}{Q:Bool->Shared->Prop}(hz:yd6 s.heap z TI TO T f)(hT:s.heap.get? T=some oT)
  (h:∀h₁,yd6 h₁ z TI TO T true->Heap.SameBut z s.heap h₁->Q false {s with heap:=h₁}):wpAny (model prog w) A (Builtin.SmallTypes.ownedTupleIsFree (.ref z)) Q E s:=by
 unfold Builtin.SmallTypes.ownedTupleIsFree;refine zz1 (vh0 hz rfl (x:=rawInt T) rfl ?_);show wpAny _ _ (loadIfAlive ((T:Int).toNat) >>= _) _ _ _;rw[vq3];refine zz1 (PySem.W.kdx_alive hT ?_);show wpAny _ _ (field (.ref z) 1 >>= _) _ _ s;refine zz1 (vh0 hz rfl (x:=.bool f) rfl ?_);cases f with
 | true=>exact wz7 (h s.heap hz (Heap.SameBut.refl _ _))
 | false=>exact zz1 (vk6 hz (by simp) fun h₁ a0 a1=>wz7 (h h₁ a0 a1))
def xm8{z TI TO i1 i2 l1 l2 T:Addr}{f:Bool}{oT:Obj}{k:Nat}{xs ys:Array Value}{x y:Value}{Q:Option Value->Shared->Prop}(D:ZipApart z TI TO i1 i2 l1 l2)
  (hz:yd6 s.heap z TI TO T f) (hT:s.heap.get? T=some oT) (a7:IsPair s.heap TI (.ref i1) (.ref i2))
  (h1:s.heap.IsListIter i1 l1 k) (h2:s.heap.IsListIter i2 l2 k) (a5:s.heap.IsList l1 xs) (a4:s.heap.IsList l2 ys) (hx:xs[k]?=some x) (hy:ys[k]?=some y)
  (hQ:∀h',yd6 h' z TI TO T true->h'.IsListIter i1 l1 (k+1)->h'.IsListIter i2 l2 (k+1)->IsPair h' s⁻¹ x y->
   (∀c o,c≠z->c≠i1->c≠i2->s.heap.get? c=some o->h'.get? c=some o)->Q (some (.ref s⁻¹)) {s with heap:=h'}):
  wpAny (model prog w) A (pyNext (.ref z)) Q E s:=by
 have ty:s.TypeIs (.ref z) "zip":=⟨_,hz,rfl⟩;unfold pyNext;refine zz1 (vp9 (vg2 (name:=Str.ofString "__next__") ty vq8 (vg4 vq8 ty F.entry_zip_next ?_ (ub7 _))));show wpAny _ _ (field (.ref z) 2 >>= _) _ _ s;refine zz1 (vh0 hz rfl (x:=.bool false) rfl ?_);show wpAny _ _ (field (.ref z) 3 >>= _) _ _ s;refine zz1 (vh0 hz rfl (x:=.ref TI) rfl (zz1 (vm2 a7 rfl ?_)));show wpAny _ _ (Builtin.SmallTypes.ownedTupleIsFree (.ref z) >>= _) _ _ s;refine zz1 (yg1 hz hT fun h₁ a9 a0=>?_);simp only[vj6,vp8];refine zz1 ?_;simp only[List.forIn_toArray,vv6,List.forIn_nil];refine zz1 (zz1 (vg8 ?_));show wpAny _ _ (Builtin.SmallTypes.nextOf (.ref i1) >>= _) _ _ _;refine zz1 (zp5 (tp:=false) (h1.at fun o e=>a0.extBut _ _ D.i1z e) (a5.at fun o e=>a0.extBut _ _ D.l1z e) hx fun h₂ a8 a1=>wz7 ?_);refine wz7 ?_;refine zz1 (zz1 (vg8 ?_));show wpAny _ _ (Builtin.SmallTypes.nextOf (.ref i2) >>= _) _ _ _;refine zz1 (zp5 (tp:=false) (h2.at fun o e=>a1.extBut _ _ D.i12.symm (a0.extBut _ _ D.i2z e)) (a4.at fun o e=>a1.extBut _ _ D.l2i1 (a0.extBut _ _ D.l2z e)) hy fun h₃ a6 a2=>wz7 ?_);refine wz7 (wz7 ?_);have hsz:h₃.objs.size=s⁻¹:=by rw[a2.1,a1.1,a0.1]
 show wpAny _ _ (newTuple [x,y] >>= _) _ _ _;refine zz1 (wpAny_newTuple ?_);refine wz7 ⟨_,rfl,?_⟩;show wpAny _ _ (pure (some (Value.ref h₃.objs.size))) _ _ _;refine wz7 ?_;have up:∀c o,c≠z->c≠i1->c≠i2->s.heap.get? c=some o->(h₃.push {cls:=.type "tuple",data:=.seq #[x,y]}).get? c=some o:=fun c o c1 c2 c3 e=>wz3 _ (a2.extBut _ _ c3 (a1.extBut _ _ c2 (a0.extBut _ _ c1 e)));have a3:IsPair (h₃.push {cls:=.type "tuple",data:=.seq #[x,y]}) h₃.objs.size x y:=vb8 _ rfl;rw[hsz]at a3 ⊢;refine hQ _ (wz3 _ (a2.extBut _ _ D.i2z.symm (a1.extBut _ _ D.i1z.symm a9))) ?_ ?_ a3 up
 .exact(show Heap.IsListIter h₂ i1 l1 (k+1) from a8).at fun o e=>wz3 _ (a2.extBut _ _ D.i12 e)
 .exact(show Heap.IsListIter h₃ i2 l2 (k+1) from a6).at fun o e=>wz3 _ e
def xz1{z TI TO i1 i2 l1 l2 T:Addr}{f:Bool}{oT:Obj}{k:Nat}{xs:Array Value}{Q:Option Value->Shared->Prop}(hh:A.handled=none)(D:ZipApart z TI TO i1 i2 l1 l2)
  (hz:yd6 s.heap z TI TO T f) (hT:s.heap.get? T=some oT) (a3:IsPair s.heap TI (.ref i1) (.ref i2))
  (h1:s.heap.IsListIter i1 l1 k) (a2:s.heap.IsList l1 xs) (hx:xs[k]?=none)
  (hQ:∀h',(∀c o,c≠z->c≠i1->s.heap.get? c=some o->h'.get? c=some o)->Q none {s with heap:=h'}):wpAny (model prog w) A (pyNext (.ref z)) Q E s:=by
 have ty:s.TypeIs (.ref z) "zip":=⟨_,hz,rfl⟩;unfold pyNext;refine zz1 (vp9 (vg2 (name:=Str.ofString "__next__") ty vq8 (vg4 vq8 ty F.entry_zip_next ?_ (ub7 _))));show wpAny _ _ (field (.ref z) 2 >>= _) _ _ s;refine zz1 (vh0 hz rfl (x:=.bool false) rfl ?_);show wpAny _ _ (field (.ref z) 3 >>= _) _ _ s;refine zz1 (vh0 hz rfl (x:=.ref TI) rfl (zz1 (vm2 a3 rfl ?_)));show wpAny _ _ (Builtin.SmallTypes.ownedTupleIsFree (.ref z) >>= _) _ _ s;refine zz1 (yg1 hz hT fun h₁ a6 a0=>?_);simp only[vj6,vp8];refine zz1 ?_;simp only[List.forIn_toArray,vv6,List.forIn_nil];refine zz1 (zz1 (vg8 ?_));show wpAny _ _ (Builtin.SmallTypes.nextOf (.ref i1) >>= _) _ _ _;refine zz1 (ym4 (tp:=false) hh (h1.at fun o e=>a0.extBut _ _ D.i1z e) (a2.at fun o e=>a0.extBut _ _ D.l1z e) hx fun h₂ e a1 he=>?_);obtain⟨oe,a5,a4⟩:=he;exact zz1 (vt5 (T:="StopIteration") (b:=true) ⟨oe,a5,a4⟩ isSubtype_stop (wz7 (hQ _ fun c o c1 c2 q=>a1 _ _ c2 (a0.extBut _ _ c1 q))))
structure ZipSt(h:Heap)(S z TI TO i1 i2 l1 l2:Addr)(xs ys:List Value)(i:Nat)(ts:List Addr):Prop where
 zs:(ts=[]/\IsZip h z TI TO .none)\/∃T f,T∈ts/\yd6 h z TI TO T f
 tI:IsPair h TI (.ref i1) (.ref i2)
 tO:∃a b,IsPair h TO a b
 a1:h.IsListIter i1 l1 i
 a2:h.IsListIter i2 l2 i
 b1:h.IsList l1 xs.toArray
 b2:h.IsList l2 ys.toArray
 len:↑ts=i
 nd:ts.Nodup
 up:∀t∈ts,S<t
 prs:∀(j:Nat) t,ts[j]?=some t->∃x y,xs[j]?=some x/\ys[j]?=some y/\IsPair h t x y
def ZipSt.move{h h':Heap}{S z TI TO i1 i2 l1 l2:Addr}{xs ys:List Value}{i:Nat}{ts:List Addr}(q:ZipSt h S z TI TO i1 i2 l1 l2 xs ys i ts)(hS:z≠S/\TI≠S/\TO≠S/\i1≠S/\i2≠S/\l1≠S/\l2≠S)
  (k:∀b o,b≠S->h.get? b=some o->h'.get? b=some o):ZipSt h' S z TI TO i1 i2 l1 l2 xs ys i ts:=by
 obtain⟨n1,n2,n3,n4,n5,n6,n7⟩:=hS;obtain⟨zs,tI,⟨a,b,tO⟩,a1,a2,b1,b2,len,nd,up,prs⟩:=q;refine⟨?_,k _ _ n2 tI,⟨a,b,k _ _ n3 tO⟩,a1.at fun o e=>k _ o n4 e,a2.at fun o e=>k _ o n5 e,b1.at fun o e=>k _ o n6 e,b2.at fun o e=>k _ o n7 e,len,nd,up,fun j t e=>?_⟩
 .rcases zs with ⟨e,q⟩ | ⟨T,f,hT,q⟩
  .exact .inl ⟨e,k _ _ n1 q⟩
  .exact .inr ⟨T,f,hT,k _ _ n1 q⟩
 .obtain⟨x,y,e1,e2,e3⟩:=prs j t e;exact⟨x,y,e1,e2,k _ _ (vf1 (up t (vb0 e))) e3⟩
def ZipSt.turn{S z TI TO i1 i2 l1 l2:Addr}{xs ys:List Value}{i:Nat}{ts:List Addr}{Q:Option Value->Shared->Prop}(D:ZipApart z TI TO i1 i2 l1 l2)(q:ZipSt s.heap S z TI TO i1 i2 l1 l2 xs ys i ts)
  (hS:S<s⁻¹) (ht:∀t∈ts,t≠z/\t≠TO/\t≠i1/\t≠i2) (hi:i<↑xs) (hl:↑xs=↑ys)
  (hQ:∀h' t,ZipSt h' S z TI TO i1 i2 l1 l2 xs ys (i+1) (ts++[t])->s⁻¹<=t->(∀c o,c≠z->c≠TO->c≠i1->c≠i2->s.heap.get? c=some o->h'.get? c=some o)->Q (some (.ref t)) {s with heap:=h'}):
  wpAny (model prog w) A (pyNext (.ref z)) Q E s:=by
 obtain⟨zs,tI,⟨a,b,tO⟩,a1,a2,b1,b2,len,nd,up,prs⟩:=q;have ex:xs.toArray[i]?=some xs[i]:=by simp[hi]
 have ey:ys.toArray[i]?=some (ys[i]'(by lia)):=by simp[show i<ys.length by lia]
 have a4:xs[i]?=some xs[i]:=zz2 hi;have a6:ys[i]?=some (ys[i]'(by lia)):=zz2 (by lia);have a3:∀h':Heap,((∃T f,T∈ts++[s⁻¹]/\yd6 h' z TI TO T f))->(∃a b,IsPair h' TO a b)->h'.IsListIter i1 l1 (i+1)->h'.IsListIter i2 l2 (i+1)->IsPair h' s⁻¹ xs[i] (ys[i]'(by lia))->
   (∀c o,c≠z->c≠TO->c≠i1->c≠i2->s.heap.get? c=some o->h'.get? c=some o)->ZipSt h' S z TI TO i1 i2 l1 l2 xs ys (i+1) (ts++[s⁻¹]):=by
  intro h' hz a5 c1 c2 hp kk;refine⟨.inr hz,kk _ _ D.TIz D.TITO D.TIi1 D.TIi2 tI,a5,c1,c2,b1.at fun o e=>kk _ o D.l1z D.l1TO D.l1i1 D.l1i2 e,b2.at fun o e=>kk _ o D.l2z D.l2TO D.l2i1 D.l2i2 e,by rw[wz4,len];rfl,?_,fun t a0=>?_,fun j t e=>?_⟩
  .refine List.nodup_append.mpr ⟨nd,by simp,fun t a0 u hu=>?_⟩;obtain⟨j,hj⟩:=vf9.mp a0;obtain⟨_,_,_,_,e⟩:=prs j t hj;rw[vc7.mp hu];exact vb7 (vb1 e)
  .rcases vc4.mp a0 with h | h
   .exact up t h
   .rw[vc7.mp h];exact hS
  .by_cases hj:j<↑ts
   .rw[vh8 hj]at e;obtain⟨x,y,e1,e2,e3⟩:=prs j t e;obtain⟨n1,n2,n3,n4⟩:=ht t (vb0 e);exact⟨x,y,e1,e2,kk _ _ n1 n2 n3 n4 e3⟩
   .rw[vk0 (by lia)]at e;have h0:j-↑ts=0:=by
     cases hz:j-↑ts with
     | zero=>rfl
     | succ k=>rw[hz]at e;simp at e
    rw[h0]at e;simp only[vt0,ub8]at e;subst e;have:j=i:=by lia
    subst this;exact⟨_,_,a4,a6,hp⟩
 rcases zs with ⟨rfl,hz⟩ | ⟨T,f,hT,hz⟩
 .exact yp0 (p:=false) (q:=false) D hz tI tO a1 a2 b1 b2 ex ey fun h' g1 g2 g3 g4 g5 kk=>hQ h' _ (a3 h' ⟨_,false,vd4 _ (vc7.mpr rfl),g1⟩ ⟨_,_,g2⟩ g3 g4 g5 kk) (wz6 _) kk
 .obtain⟨j,hj⟩:=vf9.mp hT;obtain⟨_,_,_,_,eT⟩:=prs j T hj;exact xm8 D hz eT tI a1 a2 b1 b2 ex ey fun h' g1 g3 g4 g5 kk=>hQ h' _ (a3 h' ⟨T,true,vp6 _ hT,g1⟩ ⟨_,_,kk _ _ D.TOz D.TOi1 D.TOi2 tO⟩ g3 g4 g5 fun c o c1 _ c3 c4 e=>kk c o c1 c3 c4 e) (wz6 _) fun c o c1 _ c3 c4 e=>kk c o c1 c3 c4 e
def ZipSt.stop{S z TI TO i1 i2 l1 l2:Addr}{xs ys:List Value}{ts:List Addr}{Q:Option Value->Shared->Prop}(hh:A.handled=none)(D:ZipApart z TI TO i1 i2 l1 l2)(q:ZipSt s.heap S z TI TO i1 i2 l1 l2 xs ys ↑xs ts)
  (hQ:∀h',(∀c o,c≠z->c≠TO->c≠i1->c≠i2->s.heap.get? c=some o->h'.get? c=some o)->Q none {s with heap:=h'}):wpAny (model prog w) A (pyNext (.ref z)) Q E s:=by
 obtain⟨zs,tI,⟨a,b,tO⟩,a1,a2,b1,b2,len,nd,up,prs⟩:=q;have ex:xs.toArray[↑xs]?=none:=by simp
 rcases zs with ⟨rfl,hz⟩ | ⟨T,f,hT,hz⟩
 .exact xc5 (p:=false) (q:=false) hh D hz tI tO a1 a2 b1 b2 (.inl ex) hQ
 .obtain⟨j,hj⟩:=vf9.mp hT;obtain⟨_,_,_,_,eT⟩:=prs j T hj;exact xz1 hh D hz eT tI a1 b1 ex fun h' kk=>hQ h' fun c o c1 _ c3 _ e=>kk c o c1 c3 e
end
def xj3:typeLookup (.type "zip") "__len__"=pure none:=by(rw[vq9,vk9];kernel_rfl)
def xh6:typeLookup (.type "zip") "__length_hint__"=pure none:=by(rw[vq9,vk9];kernel_rfl)
section
variable{R:Result->Shared->Prop}
def wg2(hT:s.TypeIs (.ref z) "zip")(h:Q true s):wpAny (model prog w) A (Builtin.List.listLengthHint (.ref z)) Q E s:=by
 unfold Builtin.List.listLengthHint;refine zz1 (vn8 hT xj3 ?_);refine wpAny_ite_split (fun c=>absurd c (by decide)) (fun _=>?_);refine wpAny_ite_split (fun c=>absurd c (by decide)) (fun _=>?_);refine zz1 (vn8 hT xh6 ?_);exact wz7 h
abbrev xh1(h:Heap)(S:Addr)(ts:List Addr)(c:Nat):Prop:=h.get? S=some {cls:=.type "list",dict:=none,data:=.seq (ts.map Value.ref).toArray c,slots:=#[]}
structure yw0(h₀ h:Heap)(S z TO i1 i2:Addr)(xs ys:List Value)(ts:List Addr):Prop where
 keep:∀b o,b≠S->b≠z->b≠TO->b≠i1->b≠i2->h₀.get? b=some o->h.get? b=some o
 lst:∃c,xh1 h S ts c
 len:↑ts=↑xs
 nd:ts.Nodup
 up:∀t∈ts,S<t
 prs:∀(j:Nat) t,ts[j]?=some t->∃x y,xs[j]?=some x/\ys[j]?=some y/\IsPair h t x y
def xz4{S z TI TO i1 i2 l1 l2:Addr}{xs ys:List Value}(hh:A.handled=none)(D:ZipApart z TI TO i1 i2 l1 l2)(lo:z<S/\TI<S/\TO<S/\i1<S/\i2<S/\l1<S/\l2<S)(hl:↑xs=↑ys)(hn:↑xs<=sizeLine)(res:Value){h₀:Heap}
  (hR:∀h' tk ts,yw0 h₀ h' S z TO i1 i2 xs ys ts->R (.ok (.ret res)) {s with heap:=h',toks:=tk}):
  ∀(m i:Nat)(h:Heap)(tk c:Nat)(ts:List Addr),↑xs-i=m->i<=↑xs->ZipSt h S z TI TO i1 i2 l1 l2 xs ys i ts->(∀b o,b≠S->b≠z->b≠TO->b≠i1->b≠i2->h₀.get? b=some o->h.get? b=some o)->xh1 h S ts c->
   codeAny (model prog w) A (.builtin "list.extend.loop" ⟨[.ref S,.ref z,res],[]⟩) R {s with heap:=h,toks:=tk}:=by
 obtain⟨o1,o2,o3,o4,o5,o6,o7⟩:=lo;intro m
 induction m with
 | zero=>
  intro i h tk c ts hm hi q kk hS;have e:i=↑xs:=by lia
  subst e;refine vv7 F.entry_extend_loop ?_;rw[vp7 vx9 _];show wpAny _ A.in1 (pyNext (.ref z) >>= _) _ _ _;refine zz1 (ZipSt.stop (s:={s with heap:=h,toks:=tk}) (A:=A.in1) hh D q fun h' k'=>wz7 (hR h' tk ts ⟨fun b o n0 n1 n2 n3 n4 e=>k' b o n1 n2 n3 n4 (kk b o n0 n1 n2 n3 n4 e),⟨c,k' S _ (vf1 o1) (vf1 o3) (vf1 o4) (vf1 o5) hS⟩,q.len,q.nd,q.up,fun j t ej=>?_⟩));obtain⟨x,y,e1,e2,e3⟩:=q.prs j t ej;have ht:=q.up t (vb0 ej);exact⟨x,y,e1,e2,k' t _ (vf1 (vj0 o1 ht)) (vf1 (vj0 o3 ht)) (vf1 (vj0 o4 ht)) (vf1 (vj0 o5 ht)) e3⟩
 | succ m ih=>
  intro i h tk c ts hm hi q kk hS;have a0:i<↑xs:=by lia
  refine vv7 F.entry_extend_loop ?_;rw[vp7 vx9 _];show wpAny _ A.in1 (pyNext (.ref z) >>= _) _ _ _;refine zz1 (ZipSt.turn (s:={s with heap:=h,toks:=tk}) D q (vb1 hS) (fun t ht=>⟨vf1 (vj0 o1 (q.up t ht)),vf1 (vj0 o3 (q.up t ht)),vf1 (vj0 o4 (q.up t ht)),vf1 (vj0 o5 (q.up t ht))⟩) a0 hl fun h' t q' a3 k'=>?_);have a1:xh1 h' S ts c:=k' S _ (vf1 o1) (vf1 o3) (vf1 o4) (vf1 o5) hS;have sz:(ts.map Value.ref).toArray.size=i:=by rw[vc0,lqm,q.len]
  obtain⟨c',a2⟩:∃c',xh1 (h'.update S (Obj.mapSeq (·.push (Value.ref t)))) S (ts++[t]) c':=by
   have ea:((ts++[t]).map Value.ref).toArray=(ts.map Value.ref).toArray.push (.ref t):=by simp
   unfold xh1;rw[ea];exact⟨_,vj7 (Obj.mapSeq (·.push (Value.ref t))) a1 rfl⟩
  show wpAny _ A.in1 (updateSeq S (·.push (Value.ref t)) >>= _) _ _ _;refine zz1 (wpAny_updateSeq a1 rfl (wz7 ⟨uc3 vx9 _,ih (i+1) _ tk c' (ts++[t]) (by lia) a0 (q'.move ⟨vb7 o1,vb7 o2,vb7 o3,vb7 o4,vb7 o5,vb7 o6,vb7 o7⟩ fun b o hb e=>(vh9 _ _ (vj3 hb)).trans e) ?_ ?_⟩) ?_ ?_)
  .exact fun b o n0 n1 n2 n3 n4 e=>(vh9 _ _ (vj3 n0)).trans (k' b o n1 n2 n3 n4 (kk b o n0 n1 n2 n3 n4 e))
  .exact a2
  .rw[sz];lia
  .show((ts.map Value.ref).toArray.push (Value.ref t)).size<=sizeLine+1;rw[Array.size_push,sz];lia
def xg5{S z TI TO i1 i2 l1 l2:Addr}{xs ys:List Value}{a b:Value}(hh:A.handled=none)(D:ZipApart z TI TO i1 i2 l1 l2)(lo:z<S/\TI<S/\TO<S/\i1<S/\i2<S/\l1<S/\l2<S)(hl:↑xs=↑ys)(hn:↑xs<=sizeLine)(res:Value)
  (hz:IsZip s.heap z TI TO .none) (a4:IsPair s.heap TI (.ref i1) (.ref i2)) (a3:IsPair s.heap TO a b) (h1:s.heap.IsListIter i1 l1 0) (h2:s.heap.IsListIter i2 l2 0) (a1:s.heap.IsList l1 xs.toArray) (a0:s.heap.IsList l2 ys.toArray) {c₀:Nat} (hS:xh1 s.heap S [] c₀)
  (hR:∀h' tk ts,yw0 s.heap h' S z TO i1 i2 xs ys ts->R (.ok (.ret res)) {s with heap:=h',toks:=tk}):
  wpAny (model prog w) A.in1 (Builtin.List.listExtendWith (.ref S) (.ref z) res)
   (fun a2 s'=>match a2 with | .done f=>R (.ok f) s' | .again c'=>c'.quiet=true/\codeAny (model prog w) A c' R s') (fun e s'=>R (.error e) s') s:=by
 obtain⟨o1,o2,o3,o4,o5,o6,o7⟩:=id lo;unfold Builtin.List.listExtendWith;refine zz1 (wpAny_typeOf (T:="zip") ⟨_,hz,rfl⟩ ?_);have e1:Builtin.List.listSameRef (.ref S) (.ref z)=false:=by simp[Builtin.List.listSameRef,vf1 o1]
 have e2:(Value.type "zip" == Value.type "list")=false:=by decide
 have e3:(Value.type "zip" == Value.type "tuple")=false:=by decide
 simp only[e1,e2,e3,Bool.or_false,vj6,vp8];refine zz1 (wpAny_pyIter_zip hz (zz1 (vg8 (wg2 ⟨_,hz,rfl⟩ ?_))));refine wpAny_ite_split (fun _=>?_) (fun c=>absurd rfl c);refine zz1 (vp2 (zz1 ?_));show wpAny _ _ (updateSeq S (·.push .none) >>= fun _=>updateSeq S (·.pop)) _ _ s;refine zz1 (wpAny_updateSeq hS rfl ?_);have g2:=vj7 (Obj.mapSeq (·.push Value.none)) hS rfl;refine wpAny_updateSeq (hz:=by seq_fits) g2 rfl ?_;have g3:=vj7 (Obj.mapSeq (·.pop)) g2 rfl;have kp:∀b o,b≠S->s.heap.get? b=some o->((s.heap.update S (Obj.mapSeq (·.push Value.none))).update S (Obj.mapSeq (·.pop))).get? b=some o:=fun b o n e=>(vh9 _ _ (vj3 n)).trans ((vh9 _ _ (vj3 n)).trans e);refine wz7 ⟨uc3 vx9 _,xz4 (s:=s) hh D lo hl hn res hR ↑xs 0 _ _ _ [] (Nat.sub_zero _) (vc9 _) ⟨.inl ⟨rfl,kp _ _ (vb7 o1) hz⟩,kp _ _ (vb7 o2) a4,⟨a,b,kp _ _ (vb7 o3) a3⟩,h1.at fun o e=>kp _ o (vb7 o4) e,h2.at fun o e=>kp _ o (vb7 o5) e,a1.at fun o e=>kp _ o (vb7 o6) e,a0.at fun o e=>kp _ o (vb7 o7) e,rfl,vn6,(fun t h=>nomatch h),(fun j t e=>by simp at e)⟩ (fun b o n0 _ _ _ _ e=>kp b o n0 e) g3⟩
def wb5{z TI TO i1 i2 l1 l2:Addr}{xs ys:List Value}{a b:Value}{Q:Vp}(hh:A.handled=none)(D:ZipApart z TI TO i1 i2 l1 l2)(hl:↑xs=↑ys)(hn:↑xs<=sizeLine)
  (hz:IsZip s.heap z TI TO .none) (a3:IsPair s.heap TI (.ref i1) (.ref i2)) (a2:IsPair s.heap TO a b) (h1:s.heap.IsListIter i1 l1 0) (h2:s.heap.IsListIter i2 l2 0) (a1:s.heap.IsList l1 xs.toArray) (a0:s.heap.IsList l2 ys.toArray)
  (hQ:∀h' tk ts,yw0 s.heap h' s⁻¹ z TO i1 i2 xs ys ts->Q (.ref s⁻¹) {s with heap:=h',toks:=tk}):wpAny (model prog w) A (call (.type "list") [.ref z]) Q E s:=by
 refine callType_codes (Q₁:=fun ob s₁=>ob=.ref s⁻¹/\s₁={s with heap:=s.heap.push {cls:=.type "list",data:=.seq #[]}}) F.called_list (F.typeCall_list_1 _) F.entry_list_init (code_list_new _ ⟨rfl,rfl⟩) fun ob s₁ q=>?_;obtain⟨rfl,rfl⟩:=q;have lz:z<s⁻¹:=vb1 hz;have lI:TI<s⁻¹:=vb1 a3;have lO:TO<s⁻¹:=vb1 a2;have a5:i1<s⁻¹:=by obtain⟨_,e,_⟩:=h1;exact vb1 e
 have a6:i2<s⁻¹:=by obtain⟨_,e,_⟩:=h2;exact vb1 e
 have a7:l1<s⁻¹:=by obtain⟨_,e,_⟩:=a1;exact vb1 e
 have a4:l2<s⁻¹:=by obtain⟨_,e,_⟩:=a0;exact vb1 e
 have hS:(s.heap.push {cls:=.type "list",data:=.seq #[]}).get? s⁻¹=some {cls:=.type "list",data:=.seq #[]}:=vb8 _ rfl;exists ⟨_,hS,rfl⟩,F.args_list_init_2 _ _;show wpAny _ A.in1.in1 (do let old <-Builtin.List.listItems (.ref s⁻¹);Builtin.List.listUpdate (.ref s⁻¹) (fun _=>#[]);letGo old.toList.reverse;Builtin.List.listExtendWith (.ref s⁻¹) (.ref z) .none) _ _ _;refine zz1 ?_;unfold Builtin.List.listItems;refine zz1 (vm2 hS rfl (wz7 ?_));show wpAny _ _ (updateSeq s⁻¹ (fun _=>#[]) >>= fun _=>letGo (#[]:Array Value).toList.reverse >>= fun _=>Builtin.List.listExtendWith (.ref s⁻¹) (.ref z) .none) _ _ _;refine zz1 (wpAny_updateSeq hS rfl ?_);have g2:=vj7 (Obj.mapSeq (fun _=>(#[]:Array Value))) hS rfl;have kp:∀b o,s.heap.get? b=some o->((s.heap.push {cls:=.type "list",data:=.seq #[]}).update s⁻¹ (Obj.mapSeq (fun _=>(#[]:Array Value)))).get? b=some o:=
  fun b o e=>(vh9 _ _ (vf1 (vb1 e))).trans (wz3 _ e)
 refine zz1 (wpAny_letGo ?_);refine xg5 (A:=A.in1) hh D ⟨lz,lI,lO,a5,a6,a7,a4⟩ hl hn .none (kp _ _ hz) (kp _ _ a3) (kp _ _ a2) (h1.at fun o e=>kp _ o e) (h2.at fun o e=>kp _ o e) (a1.at fun o e=>kp _ o e) (a0.at fun o e=>kp _ o e) g2 fun h' tk ts q=>⟨rfl,hQ h' tk ts ?_⟩;exact⟨fun b o n0 n1 n2 n3 n4 e=>q.keep b o n0 n1 n2 n3 n4 (kp b o e),q.lst,q.len,q.nd,q.up,q.prs⟩
end
def yc6(H:Hp)(S:Addr)(ts:List Addr)(xs ys:List V):Hp:=fun b=>if b=S then some (.lst (ts.map V.ref)) else if b∈ts then some (.tup [xs.getD (ts.idxOf b) .non,ys.getD (ts.idxOf b) .non]) else H b
def idx_at{ts:List Addr}(nd:ts.Nodup){j:Nat}{t:Addr}(e:ts[j]?=some t):ts.idxOf t=j:=by
 obtain⟨hj,e1⟩:=wz2.mp e;have hm:t∈ts:=vb0 e;have a0:ts.idxOf t<↑ts:=List.idxOf_lt_length_iff.mpr hm;have h2:ts[ts.idxOf t]=t:=List.getElem_idxOf a0;exact(vx3 nd).mp (h2.trans e1.symm)
def yq5:∀ts:List Addr,Vals (ts.map V.ref) (ts.map Value.ref)
 | []=>.nil
 | t::r=>.cons rfl (yq5 r)
def wd4(K:Fg)(ta:TA):TE:=fun σ H Q=>ta σ H fun vs H1=>∃(l1 l2:Addr)(xs ys:List V),vs=[.ref l1,.ref l2]/\SqL K H1 l1 xs/\SqL K H1 l2 ys/\↑xs=↑ys/\
 ∀(l:Addr)(ts:List Addr)(H':Hp),(∀b o,H1 b=some o->H' b=some o)->H1 l=none->H' l=some (.lst (ts.map V.ref))->↑ts=↑xs->
  (∀(j:Nat) t,ts[j]?=some t->∃x y,xs[j]?=some x/\ys[j]?=some y/\H' t=some (.tup [x,y]))->Q (.ref l) H'
def boot_list:bootBuiltins "list"=some (.type "list"):=by first | exact PySem.boot_list | rfl'
def xh4{X:Cx}{a b:Expr}{ta:TA}{p pp pos a1:Pos}(hc:X.calm=true)(ah:Gl X "list")(ak:X.mg "list"=none)(ac:Gl X "zip")(af:X.mg "zip"=none)(ha:PA X [a,b] ta)
  (hs:starEach [a,b] X.env=[(false,eval a X.env),(false,eval b X.env)]:=by rfl) (aa:starEach [b] X.env=[(false,eval b X.env)]:=by rfl)
  (he:starEach [.Call (.Name "zip" pp) [a,b] [] a1] X.env=[(false,eval (.Call (.Name "zip" pp) [a,b] [] a1) X.env)]:=by rfl):
  PE X (.Call (.Name "list" p) [.Call (.Name "zip" pp) [a,b] [] a1] [] pos) (wd4 X.K ta):=by
 intro a4 s σ H Q I h;refine vz4 (zr0 I ah ak boot_list ?_);refine vh3 ?_ (by rw[he];rfl) rfl;rw[he];show wpAny _ _ (spliced ((false,eval (.Call (.Name "zip" pp) [a,b] [] a1) X.env)::[])) _ _ s;refine vj5 (thn (Q:=fun u s₂=>wpAny (model X.prog X.w) X.A (call (.type "list") [u]) (EP X a4 σ Q) X.xe s₂) ?_ fun u s₂ q=>vn1 q);refine Call_ (zr0 I ac af boot_zip (vh3 (thn (ha a1 a4 s σ H _ I h) fun us s1 ⟨vs,H1,I1,r1,q1⟩=>?_) (by rw[hs,aa]) (by rw[aa];rfl)));obtain⟨l1,l2,xs,ys,e,al,ad,hl,q⟩:=q1;subst e;cases r1 with
 | cons r rr=>
  cases rr with
  | cons r' rr=>
   cases rr;cases r;cases r';obtain⟨a5,a3,ab,a9⟩:=I1.list al;obtain⟨a7,a8,ao,ap⟩:=I1.list ad;have p1:=ab.isList;have p2:=ao.isList;have ai:l1<s1⁻¹:=by obtain⟨o,e,_⟩:=p1;exact vb1 e
   have aj:l2<s1⁻¹:=by obtain⟨o,e,_⟩:=p2;exact vb1 e
   have D:ZipApart (s1⁻¹+4) (s1⁻¹+2) (s1⁻¹+3) s1⁻¹ (s1⁻¹+1) l1 l2:=zipApart_new ai aj;refine call_zip_2 p1 p2 fun h' hz ag an h1 h2 hsz kk=>?_;refine wb5 (s:={s1 with heap:=h'}) (I1.ok.hd hc) D (xs:=a5) (ys:=a7) (by rw[<-↑a3,<-↑a8];exact hl) (by rw[<-↑a3];exact a9) hz ag an h1 h2 (p1.at fun o e=>kk _ o e) (p2.at fun o e=>kk _ o e) fun a6 tk ts zd=>?_
   have hS:s1⁻¹<h'.objs.size:=by rw[hsz];lia
   have k2:∀b o,s1.heap.get? b=some o->a6.get? b=some o:=fun b o e=>by
    have hb:b<s1⁻¹:=vb1 e;exact zd.keep b o (vb7 (vj0 hb hS)) (vb7 (vf3 hb (vr4 _ _))) (vb7 (vf3 hb (vr4 _ _))) (vb7 hb) (vb7 (vf3 hb (vr4 _ _))) (kk b o e)
   have a2:∀b,b<s1⁻¹->yc6 H1 h'.objs.size ts xs ys b=H1 b:=fun b hb=>by
    unfold yc6;rw[vd0 (vb7 (vj0 hb hS)),vd0 (fun hm=>vj1 b (vj0 (vj0 hb hS) (zd.up b hm)))]
   have lt:∀b u,H1 b=some u->b<s1⁻¹:=fun b u e=>by
    rcases vq1 b s1⁻¹ with h | h
    .exact h
    .rw[I1.hok.fresh h]at e;cases e
   have a0:∀b o,H1 b=some o->yc6 H1 h'.objs.size ts xs ys b=some o:=fun b o e=>by rw[a2 b (lt b o e)];exact e
   have prs:∀(j:Nat) t,ts[j]?=some t->∃x y u v,xs[j]?=some x/\ys[j]?=some y/\RelV x u/\RelV y v/\IsPair a6 t u v/\yc6 H1 h'.objs.size ts xs ys t=some (.tup [x,y]):=fun j t e=>by
    obtain⟨u,v,e1,e2,e3⟩:=zd.prs j t e;have am:j<↑xs:=by rw[↑a3];exact(wz2.mp e1).1
    have ae:j<↑ys:=by rw[↑a8];exact(wz2.mp e2).1
    have g1:xs[j]?=some xs[j]:=zz2 am;have g2:ys[j]?=some ys[j]:=zz2 ae;obtain⟨u',eu,ru⟩:=a3.get g1;obtain⟨v',ev,rv⟩:=a8.get g2;rw[e1]at eu;rw[e2]at ev;cases eu;cases ev;have hm:t∈ts:=vb0 e;exists _,_,u,v,g1,g2,ru,rv,e3;unfold yc6;rw[vd0 (vf1 (zd.up t hm)),vd3 hm,idx_at zd.nd e,vk1,vk1,g1,g2];rfl
   have hok:HOk X.prog X.w (yc6 H1 h'.objs.size ts xs ys) a6:=by
    intro b o e
    by_cases hb:b=h'.objs.size
    .subst hb;have:yc6 H1 h'.objs.size ts xs ys h'.objs.size=some (.lst (ts.map V.ref)):=by unfold yc6;rw[vd3 rfl]
     rw[this]at e;cases e;obtain⟨c,ec⟩:=zd.lst;exact⟨by rw[lqm,zd.len,<-↑a3];exact a9,ts.map Value.ref,c,yq5 ts,ec⟩
    .by_cases hm:b∈ts
     .obtain⟨j,hj⟩:=vf9.mp hm;obtain⟨x,y,u,v,_,_,ru,rv,ep,ez⟩:=prs j b hj;rw[ez]at e;cases e;exact⟨⟨by show 2<=sizeLine;exact vb5 (zb8 (by lia)),_,ep,rfl⟩,[u,v],.cons ru (.cons rv .nil),_,ep,rfl,_,rfl⟩
     .have:yc6 H1 h'.objs.size ts xs ys b=H1 b:=by unfold yc6;rw[vd0 hb,vd0 hm]
      rw[this]at e;exact(I1.hok b o e).stay (fun c v _ r=>k2 c v r) (fun c r=>a0 c _ r) fun c zs r=>a0 c _ r
   exists .ref h'.objs.size,_,I1.laidMany (t':=tk) k2 a2 hok,rfl;refine q h'.objs.size ts _ a0 (I1.hok.fresh (vb5 hS)) (by unfold yc6;rw[vd3 rfl]) (by rw[zd.len,↑a3]) fun j t e=>?_
   obtain⟨x,y,u,v,e1,e2,_,_,_,ez⟩:=prs j t e;exact⟨x,y,e1,e2,ez⟩
inductive A2{α β:Type}(R:α->β->Prop):List α->List β->Prop
 | nil:A2 R [] []
 | cons {a:α} {b:β} {as:List α} {bs:List β} (h:R a b) (t:A2 R as bs):A2 R (a::as) (b::bs)
def A2.imp{α β:Type}{R S:α->β->Prop}(f:∀a b,R a b->S a b){as:List α}{bs:List β}(h:A2 R as bs):A2 S as bs:=by
 induction h with
 | nil=>exact .nil
 | cons h _ ih=>exact .cons (f _ _ h) ih
def A2.app{α β:Type}{R:α->β->Prop}{as a0:List α}{bs a1:List β}(h:A2 R as bs)(g:A2 R a0 a1):A2 R (as++a0) (bs++a1):=by
 induction h with
 | nil=>exact g
 | cons h _ ih=>exact .cons h ih
def A2.snoc{α β:Type}{R:α->β->Prop}{as:List α}{bs:List β}{a:α}{b:β}(h:A2 R as bs)(g:R a b):A2 R (as++[a]) (bs++[b]):=h.app (.cons g .nil)
def A2.len{α β:Type}{R:α->β->Prop}{as:List α}{bs:List β}(h:A2 R as bs):↑as=↑bs:=by
 induction h with
 | nil=>rfl
 | cons _ _ ih=>exact vg1 (·+1) ih
def A2.get{α β:Type}{R:α->β->Prop}{as:List α}{bs:List β}(h:A2 R as bs):∀{i:Nat}{a:α},as[i]?=some a->∃b,bs[i]?=some b/\R a b:=by
 induction h with
 | nil=>intro i a e;simp at e
 | cons h _ ih=>
  intro i a e;cases i with
  | zero=>cases e;exact⟨_,rfl,h⟩
  | succ i=>exact ih e
def yn7{xs:List V}{us:List Value}(r:Vals xs us):∀{j:Nat}{u:Value},us[j]?=some u->∃x,xs[j]?=some x/\RelV x u:=by
 induction r with
 | nil=>intro j u e;simp at e
 | cons h _ ih=>
  intro j u e;cases j with
  | zero=>cases e;exact⟨_,rfl,h⟩
  | succ j=>exact ih e
section
def wp0{ss tt:List Str}:((List.range (min ↑ss ↑tt)).all (fun j=>decide (ss[j]?=tt[j]?)) && ↑ss == ↑tt)=decide (ss=tt):=by
 by_cases h:ss=tt
 .subst h;simp
 .rw[vf4 h]
  by_cases hl:↑ss=↑tt
  .have:((List.range (min ↑ss ↑tt)).all (fun j=>decide (ss[j]?=tt[j]?)))=false:=by
    rw[<-Bool.not_eq_true,vf2];intro hh;refine h (ub6 fun i=>?_)
    by_cases hi:i<↑ss
    .have:=hh i (uc0.mpr (by lia));exact vb3 this
    .rw[vn9 (by lia),vn9 (by lia)]
   rw[this];rfl
  .have:(↑ss == ↑tt)=false:=by simpa using hl
   rw[this,Bool.and_false]
def xj1(I:Inv X pins σ H s){ss tt:List Str}{its a0:List Value}(r:Vals (ss.map V.str) its)(r2:Vals (tt.map V.str) a0)(j:Nat)(h1:j<its.toArray.size)(h2:j<a0.toArray.size):SeqAt.EqAt A s its.toArray[j] a0.toArray[j] (decide (ss[j]?=tt[j]?)):=by
 have g1:its[j]?=some its.toArray[j]:=by simp
 have g2:a0[j]?=some a0.toArray[j]:=by simp
 obtain⟨x,e1,q1⟩:=yn7 r g1;obtain⟨y,e2,q2⟩:=yn7 r2 g2;rw[wz5,wz8]at e1 e2;obtain⟨a,e1,rfl⟩:=e1;obtain⟨b,e2,rfl⟩:=e2;obtain⟨t,q1⟩:=q1;obtain⟨t2,q2⟩:=q2;rw[q1,q2,e1,e2];have:=SeqAt.EqAt.str_str (A:=A) (s:=s) a t b t2;have e:(a == b)=decide (some a=some b):=by
  by_cases h:a=b
  .subst h;simp
  .simp[h]
 rwa [e]at this
def rcS(I:Inv X pins σ H s)(hu:A.units<cLine){a b:Addr}{ss tt:List Str}(ha:SqT X.K H a (ss.map V.str))(hb:SqT X.K H b (tt.map V.str)):SeqAt.RcAt A s (.ref a) (.ref b) (decide (ss=tt)):=by
 obtain⟨its,r,p,_⟩:=I.tuple ha;obtain⟨a0,r2,p2,_⟩:=I.tuple hb;have h:=SeqAt.RcAt.tuples (A:=A) (e:=fun j=>decide (ss[j]?=tt[j]?)) p p2 hu (fun j h1 h2=>xj1 I r r2 j h1 h2);have l1:=↑r;have l2:=↑r2;rw[lqm]at l1 l2;rw[vc0,vc0,<-l1,<-l2,wp0]at h;exact h
end
section
open Classical in
end
def Sm0(x y:V):Prop:=(∃s:Str,x=.str s/\y=.str s)\/∃i:Int,x=.int i/\y=.int i
def TQ(K:Fg)(H:Hp)(a:Addr)(xs:List V):Prop:=H a=some (.tup xs)\/∀H',SqT K H' a xs
def TQ.sq{K:Fg}{H:Hp}{a:Addr}{xs:List V}(h:TQ K H a xs):SqT K H a xs:=h.elim SqT.of fun g=>g H
inductive SmT(K:Fg)(H:Hp)(R:V->V->Prop)(x y:V):Prop
 | mk(a b:Addr)(xs ys:List V)(h1:x=.ref a)(h2:y=.ref b)(h3:TQ K H a xs)(h4:TQ K H b ys)(h5:A2 R xs ys)(h6:↑xs<=1000000):SmT K H R x y
def Sm(K:Fg)(H:Hp):Nat->V->V->Prop
 | 0=>Sm0
 | n+1=>fun x y=>Sm0 x y\/SmT K H (Sm K H n) x y
section
def xb1{A:Around}{x y:V}{u v:Value}(h:Sm0 x y)(rx:RelV x u)(ry:RelV y v):SeqAt.EqAt A s u v true:=by
 rcases h with ⟨z,rfl,rfl⟩ | ⟨z,rfl,rfl⟩
 .obtain⟨t,rfl⟩:=rx;obtain⟨t2,rfl⟩:=ry;have:=SeqAt.EqAt.str_str (A:=A) (s:=s) z t z t2;rwa [vr3]at this
 .obtain⟨t,rfl⟩:=rx;obtain⟨t2,rfl⟩:=ry;have:=SeqAt.EqAt.int_int (A:=A) (s:=s) z t z t2;rwa [vr3]at this
def xr8(I:Inv X pins σ H s){A:Around}{R:V->V->Prop}{xs ys:List V}(hR:∀x y u v,R x y->RelV x u->RelV y v->SeqAt.EqAt A s u v true)(h:A2 R xs ys){its a0:List Value}(r:Vals xs its)(r2:Vals ys a0)(j:Nat)(h1:j<its.toArray.size)(h2:j<a0.toArray.size):SeqAt.EqAt A s its.toArray[j] a0.toArray[j] ((fun _=>true) j):=by
 have g1:its[j]?=some its.toArray[j]:=by simp
 have g2:a0[j]?=some a0.toArray[j]:=by simp
 obtain⟨x,e1,q1⟩:=yn7 r g1;obtain⟨y,e2,q2⟩:=yn7 r2 g2;obtain⟨y',a1,hr⟩:=h.get e1;rw[e2]at a1;cases a1;exact hR x y _ _ hr q1 q2
def yz9(n m:Nat)(h:n=m):((List.range (min n m)).all (fun _=>true) && n == m)=true:=by
 subst h;simp
def xv6(I:Inv X pins σ H s):∀(n:Nat){A:Around}{x y:V}{u v:Value},A.units+n<cLine->Sm X.K H n x y->RelV x u->RelV y v->SeqAt.EqAt A s u v true
 | 0,_,_,_,_,_,_,h,rx,ry=>xb1 h rx ry
 | n+1,A,x,y,u,v,hu,h,rx,ry=>by
  rcases h with h | ⟨a,b,xs,ys,rfl,rfl,h3,h4,h5,_⟩
  .exact xb1 h rx ry
  .cases rx;cases ry
   by_cases e:a=b
   .subst e;exact SeqAt.EqAt.same _
   .refine SeqAt.EqAt.of_refs e ?_;obtain⟨its,r,p,_⟩:=I.tuple h3.sq;obtain⟨a0,r2,p2,_⟩:=I.tuple h4.sq;have h:=SeqAt.RcAt.tuples (A:=A) (e:=fun _=>true) p p2 (by lia) (fun j h1 h2=>xr8 I (fun x y u v hr q1 q2=>xv6 I n (by show A.units+1+n<cLine;lia) hr q1 q2) h5 r r2 j h1 h2);rwa [vc0,vc0,yz9 _ _ (by rw[<-↑r,<-↑r2];exact h5.len)]at h
def rNeD(K:Fg)(n:Nat):R2:=fun x y H Q=>SmT K H (Sm K H n) x y/\Q (.bl false) H
def op_neD{n:Nat}(hu:X.A.units+n+1<cLine):OpR X (compareOp .NotEq) (rNeD X.K n):=by
 intro a1 s σ H x y v u Q I rx ry h;obtain⟨⟨a,b,xs,ys,rfl,rfl,h3,h4,h5,_⟩,q⟩:=h;cases rx;cases ry;obtain⟨its,r,p,_⟩:=I.tuple h3.sq;obtain⟨a0,r2,p2,_⟩:=I.tuple h4.sq;have h:=SeqAt.RcNeAt.tuples (A:=X.A) (e:=fun _=>true) p p2 (by lia) (fun j h1 h2=>xr8 I (fun x y u v hr q1 q2=>xv6 I n (by show X.A.units+1+n<cLine;lia) hr q1 q2) h5 r r2 j h1 h2);rw[vc0,vc0,yz9 _ _ (by rw[<-↑r,<-↑r2];exact h5.len)]at h;exact h _ _ _ _ ⟨.bl _,H,I,rfl,q⟩
end
section
end
section
end
section
end
abbrev byTx(w:World):Bool:=w.params.followText "set-order"
def EntOk(w:World)(e:Int×Value):Prop:=∃x tk,e=(hashStr w x,.str x tk)
inductive SSet(w:World)(h:Heap)(a:Addr)(ss:List Str):Prop
 | mk(es:Array (Int×Value))(ep:Nat)(t:SetTable)(h1:h.get? a=some {cls:=.type "set",data:=.set es ep t})(h2:∀e∈es.toList,EntOk w e)(h3:ss=es.toList.map sOf)(h4:ss.Nodup)(h5:t.fits es.size=true)(h6:t.led=!byTx w)(h7:ss=[]\/t.plain=false):SSet w h a ss
section
end
section
end
section
end
section
end
section
def ww8{I:Addr}{α:Type}{s0:Shared}{Q:α->Shared->Prop}(hh:A.handled=none)(k0:Heap.ExtBut I s0.heap s.heap)
  (hE:∀a h',Heap.ExtBut I s0.heap h'->({s with heap:=h'}:Shared).TypeIs a "StopIteration"->E a {s with heap:=h'}):wpAny (model prog w) A (newExc (.type "StopIteration") [] >>= fun e=>(raiseNew e:Sem α)) Q E s:=by
 refine zz1 ?_;simp only[newExc,newTuple];refine zz1 (vg5 ?_ (by size_fits));refine zz1 (m:=firstArgMember _ _) (wpAny_of_eq (a:=Value.none) (by first | rfl | (simp only[firstArgMember];rfl)) ?_);refine vg5 ?_ (by size_fits);simp only[raiseNew];refine zz1 (wpAny_handled ?_);rw[hh];refine zz1 (wz7 (wpAny_throw ?_));exact hE _ _ ((k0.push _).push _) ⟨_,vb8 _ rfl,rfl⟩
end
section
end
section
end
section
def Inv.drawn{a0:List (Addr×Obj)}{σ:St}{H:Hp}{s:Shared}{d:Drawn}(I:Inv X a0 σ H s):Inv X a0 σ H {s with drawn:=d}:=⟨I.ok,I.os,I.bare,I.base,I.loc,I.cell,I.free,I.freeC,I.pin,I.hok,I.len⟩
end
def gal':Bool->Keyed->Array Keyed->Nat->Nat->Nat->StateT SortSt Sem (Option Nat):=sortPriv% PySem.Builtin.gallop
def bey(left:Bool)(key:Keyed)(arr:Array Keyed)(base i:Nat):StateT SortSt Sem (Option Bool):=
 elem' arr (base+i) >>= fun x=>if left=true then lt' x key else lt' key x >>= fun r=>pure (Option.map (fun b=>!b) r)
section
variable{M:Model}{A:Around}{E:Vp}{s:Shared}{st:SortSt}{n:Nat}{B:Nat->Bool}{act:Nat->StateT SortSt Sem (Option Bool)}
def xj9{lo hi:Nat}{Q:(Option (Option Nat)×Nat×Nat)->SortSt->Prop}(ha:∀i,i<n->∀Q:Option Bool->SortSt->Prop,Q (some (B i)) st->wpS M A E s (act i) Q st)
  (a0:∀i j,i<=j->j<n->B j=true->B i=true) (h1:lo<=hi) (h2:hi<=n) (h3:∀i,i<lo->B i=true) (h4:∀i,hi<=i->i<n->B i=false)
  (h:∀l k,k<=n->(∀i,i<k->B i=true)->(∀i,k<=i->i<n->B i=false)->Q (none,l,k) st):
  wpS M A E s (forIn [:n] ((none:Option (Option Nat)),lo,hi) fun _ c=>
   if c.2.1≥c.2.2 then pure (ForInStep.done (none,c.2.1,c.2.2)) else act (c.2.1+(c.2.2-c.2.1) / 2) >>= fun r=>match r with
    | some more=>if more=true then pure (ForInStep.yield (none,c.2.1+(c.2.2-c.2.1) / 2+1,c.2.2)) else pure (ForInStep.yield (none,c.2.1,c.2.1+(c.2.2-c.2.1) / 2))
    | _=>pure (ForInStep.done (some none,c.2.1,c.2.2))) Q st:=by
 refine vk3 (I:=fun x c a1=>a1=st/\∃l k,c=(none,l,k)/\l<=k/\k<=n/\(∀i,i<l->B i=true)/\(∀i,k<=i->i<n->B i=false)/\k-l<=n-x) ?_ ?_ ⟨rfl,lo,hi,rfl,h1,h2,h3,h4,by lia⟩
 .rintro x c _ _ hx ⟨rfl,l,k,rfl,g1,g2,g3,g4,g5⟩;dsimp only
  by_cases hc:l≥k
  .rw[vd3 hc];have e:l=k:=by lia
   subst e;exact vc8 (h l l g2 g3 g4)
  .rw[vd0 hc];refine vc3 (ha _ (by lia) _ ?_);cases hb:B (l+(k-l) / 2)with
   | true=>
    dsimp only;rw[vd3 rfl];exact vc8 ⟨rfl,_,_,rfl,by lia,g2,fun i hi=>a0 i _ (by lia) (by lia) hb,g4,by lia⟩
   | false=>
    dsimp only;rw[vd0 vb6];refine vc8 ⟨rfl,_,_,rfl,by lia,by lia,g3,fun i hi hn=>?_,by lia⟩;cases hbi:B i with
    | false=>rfl
    | true=>rw[a0 _ i hi hn hbi]at hb;cases hb
 .rintro c _ ⟨rfl,l,k,rfl,g1,g2,g3,g4,g5⟩;have e:l=k:=by
   have:max 0 n=n:=by lia
   lia
  subst e;exact h l l g2 g3 g4
def wx8{a0:Nat}{Q:(Option (Option Nat)×Nat×Nat)->SortSt->Prop}(ha:∀i,i<n->∀Q:Option Bool->SortSt->Prop,Q (some (B i)) st->wpS M A E s (act i) Q st)
  (h0:a0<n) (h1:B a0=true)
  (h:∀last a1,a0+last<n->B (a0+last)=true->last<a1->(n-a0<=a1\/(a0+a1<n/\B (a0+a1)=false))->Q (none,last,a1) st):
  wpS M A E s (forIn [:n] ((none:Option (Option Nat)),0,1) fun _ c=>
   if c.2.2≥n-a0 then pure (ForInStep.done (none,c.2.1,c.2.2)) else act (a0+c.2.2) >>= fun r=>match r with
    | some more=>if (!more)=true then pure (ForInStep.done (none,c.2.1,c.2.2)) else pure (ForInStep.yield (none,c.2.2,2*c.2.2+1))
    | _=>pure (ForInStep.done (some none,c.2.1,c.2.2))) Q st:=by
 refine vk3 (I:=fun x c a2=>a2=st/\∃last a1,c=(none,last,a1)/\a0+last<n/\B (a0+last)=true/\last<a1/\x+1<=a1) ?_ ?_ ⟨rfl,0,1,rfl,h0,h1,by decide,by decide⟩
 .rintro x c _ _ hx ⟨rfl,last,a1,rfl,g1,g2,g3,g4⟩;dsimp only
  by_cases hc:a1≥n-a0
  .rw[vd3 hc];exact vc8 (h last a1 g1 g2 g3 (.inl hc))
  .rw[vd0 hc];refine vc3 (ha _ (by lia) _ ?_);cases hb:B (a0+a1)with
   | true=>
    dsimp only;rw[vd0 (by decide)];exact vc8 ⟨rfl,_,_,rfl,by lia,hb,by lia,by lia⟩
   | false=>
    dsimp only;rw[vd3 (by decide)];exact vc8 (h last a1 g1 g2 g3 (.inr ⟨by lia,hb⟩))
 .rintro c _ ⟨rfl,last,a1,rfl,g1,g2,g3,g4⟩;exact h last a1 g1 g2 g3 (.inl (by have:max 0 n=n:=(by lia);lia))
def xt0{a0:Nat}{Q:(Option (Option Nat)×Nat×Nat)->SortSt->Prop}(ha:∀i,i<n->∀Q:Option Bool->SortSt->Prop,Q (some (B i)) st->wpS M A E s (act i) Q st)
  (h0:a0<n) (h1:B a0=false)
  (h:∀last a1,last<=a0->B (a0-last)=false->last<a1->(a0+1<=a1\/(a1<=a0/\B (a0-a1)=true))->Q (none,last,a1) st):
  wpS M A E s (forIn [:n] ((none:Option (Option Nat)),0,1) fun _ c=>
   if c.2.2≥a0+1 then pure (ForInStep.done (none,c.2.1,c.2.2)) else act (a0-c.2.2) >>= fun r=>match r with
    | some found=>if found=true then pure (ForInStep.done (none,c.2.1,c.2.2)) else pure (ForInStep.yield (none,c.2.2,2*c.2.2+1))
    | _=>pure (ForInStep.done (some none,c.2.1,c.2.2))) Q st:=by
 refine vk3 (I:=fun x c a2=>a2=st/\∃last a1,c=(none,last,a1)/\last<=a0/\B (a0-last)=false/\last<a1/\x+1<=a1) ?_ ?_ ⟨rfl,0,1,rfl,vc9 _,h1,by decide,by decide⟩
 .rintro x c _ _ hx ⟨rfl,last,a1,rfl,g1,g2,g3,g4⟩;dsimp only
  by_cases hc:a1≥a0+1
  .rw[vd3 hc];exact vc8 (h last a1 g1 g2 g3 (.inl hc))
  .rw[vd0 hc];refine vc3 (ha _ (by lia) _ ?_);cases hb:B (a0-a1)with
   | true=>
    dsimp only;rw[vd3 rfl];exact vc8 (h last a1 g1 g2 g3 (.inr ⟨by lia,hb⟩))
   | false=>
    dsimp only;rw[vd0 vb6];exact vc8 ⟨rfl,_,_,rfl,by lia,hb,by lia,by lia⟩
 .rintro c _ ⟨rfl,last,a1,rfl,g1,g2,g3,g4⟩;exact h last a1 g1 g2 g3 (.inl (by have:max 0 n=n:=(by lia);lia))
end
def wk4{left:Bool}{key:Keyed}{a2:Array Keyed}{base n a0:Nat}{st:SortSt}{B:Nat->Bool}{Q:Option Nat->SortSt->Prop}(hh:a0<n)
  (ha:∀i,i<n->∀Q:Option Bool->SortSt->Prop,Q (some (B i)) st->wpS (model prog w) A E s (bey left key a2 base i) Q st)
  (a1:∀i j,i<=j->j<n->B j=true->B i=true)
  (h:∀k,k<=n->(∀i,i<k->B i=true)->(∀i,k<=i->i<n->B i=false)->Q (some k) st):wpS (model prog w) A E s (gal' left key a2 base n a0) Q st:=by
 unfold gal' wpS
 wp_delta
 wp_delta
 show wpS (model prog w) A E s (bey left key a2 base a0 >>= _) Q st;refine vc3 (ha a0 hh _ ?_);cases hb:B a0 with
 | true=>
  dsimp only;rw[vd3 rfl];refine vc3 (wx8 (act:=bey left key a2 base) ha hh hb fun last a3 g1 g2 g3 g4=>?_);dsimp only;refine vc3 (xj9 (act:=bey left key a2 base) ha a1 ?_ ?_ ?_ ?_ fun l k c1 c2 c3=>?_)
  .lia
  .lia
  .exact fun i hi=>a1 i (a0+last) (by lia) g1 g2
  .intro i hi hn;rcases g4 with g4 | ⟨g4,g5⟩
   .lia
   .cases hbi:B i with
    | false=>rfl
    | true=>rw[a1 (a0+a3) i (by lia) hn hbi]at g5;cases g5
  .exact vc8 (h k c1 c2 c3)
 | false=>
  dsimp only;rw[vd0 vb6];refine vc3 (xt0 (act:=bey left key a2 base) ha hh hb fun last a3 g1 g2 g3 g4=>?_);dsimp only;refine vc3 (xj9 (act:=bey left key a2 base) ha a1 ?_ ?_ ?_ ?_ fun l k c1 c2 c3=>?_)
  .lia
  .lia
  .intro i hi;rcases g4 with g4 | ⟨g4,g5⟩
   .lia
   .exact a1 i (a0-a3) (by lia) (by lia) g5
  .intro i hi hn;cases hbi:B i with
   | false=>rfl
   | true=>rw[a1 (a0-last) i hi hn hbi]at g2;cases g2
  .exact vc8 (h k c1 c2 c3)
section
variable{α:Type}{le:α->α->Prop}{al bl o:List α}{i j:Nat}
structure Gd(le:α->α->Prop)(al bl o:List α)(i j:Nat):Prop where
 pm:o.Perm (al.take i++bl.take j)
 so:o.Pairwise le
 la:∀x∈o,∀y∈al.drop i,le x y
 lb:∀x∈o,∀y∈bl.drop j,le x y
def Gd.start:Gd le al bl [] 0 0:=⟨List.Perm.refl _,.nil,fun _ h=>absurd h wz1,fun _ h=>absurd h wz1⟩
def zw6(l:List α)(i k:Nat):l.drop i=(l.drop i).take k++l.drop (i+k):=by
 rw[<-List.drop_drop,vg0]
def Gd.a(g:Gd le al bl o i j)(sa:al.Pairwise le)(k:Nat)(h:∀x∈(al.drop i).take k,∀y∈bl.drop j,le x y):Gd le al bl (o++(al.drop i).take k) (i+k) j:=by
 have sd:(al.drop i).Pairwise le:=sa.sublist (vw2 _ _);rw[zw6 al i k,vh5]at sd;exists ?_,?_,?_
 .rw[List.take_add];refine(g.pm.append_right _).trans ?_;rw[vd8,vd8];exact vp0 _ vm0
 .rw[vh5];exact⟨g.so,sd.1,fun x hx y hy=>g.la x hx y (vk4 hy)⟩
 .intro x hx y hy;rcases vc4.mp hx with hx | hx
  .exact g.la x hx y (by rw[zw6 al i k];exact vd4 _ hy)
  .exact sd.2.2 x hx y hy
 .intro x hx y hy;rcases vc4.mp hx with hx | hx
  .exact g.lb x hx y hy
  .exact h x hx y hy
def Gd.flip(g:Gd le al bl o i j):Gd le bl al o j i:=⟨g.pm.trans vm0,g.so,g.lb,g.la⟩
def Gd.b(g:Gd le al bl o i j)(sb:bl.Pairwise le)(k:Nat)(h:∀x∈(bl.drop j).take k,∀y∈al.drop i,le x y):Gd le al bl (o++(bl.drop j).take k) i (j+k):=(g.flip.a sb k h).flip
def Gd.done(g:Gd le al bl o i j)(sa:al.Pairwise le)(sb:bl.Pairwise le)(h:∀x∈al.drop i,∀y∈bl.drop j,le x y):(o++al.drop i++bl.drop j).Perm (al++bl)/\(o++al.drop i++bl.drop j).Pairwise le:=by
 exists ?_
 .have e1:=vg0 i al;have e2:=vg0 j bl;refine((g.pm.append_right _).append_right _).trans ?_
  conv=>rhs;rw[<-e1,<-e2]
  rw[vd8,vd8,vd8];refine vp0 _ ?_;rw[<-vd8,<-vd8];exact List.Perm.append_right _ vm0
 .rw[vh5,vh5];refine⟨⟨g.so,sa.sublist (vw2 _ _),g.la⟩,sb.sublist (vw2 _ _),fun x hx y hy=>?_⟩;rcases vc4.mp hx with hx | hx
  .exact g.lb x hx y hy
  .exact h x hx y hy
def Gd.last(g:Gd le al bl o i j)(sa:al.Pairwise le)(sb:bl.Pairwise le)(h:∀y∈bl.drop j,∀x∈al.drop i,le y x):(o++bl.drop j++al.drop i).Perm (al++bl)/\(o++bl.drop j++al.drop i).Pairwise le:=
 have q:=g.flip.done sb sa h
 ⟨q.1.trans vm0,q.2⟩
end
structure SameG(st st':SortSt):Prop where
 kd:kindOf st'=kindOf st
 ar:arrOf st'=arrOf st
 pe:pendingOf st'=pendingOf st
 fa:failedOf st'=failedOf st
def SameG.refl{st:SortSt}:SameG st st:=⟨rfl,rfl,rfl,rfl⟩
structure Cmp(M:Model)(A:Around)(E:Vp)(s:Shared)(kd:SortKind)(U:Keyed->Prop)(LT:Keyed->Keyed->Bool):Prop where
 lt:∀{x y:Keyed}{st:SortSt}{Q:Option Bool->SortSt->Prop},U x->U y->kindOf st=kd->Q (some (LT x y)) st->wpS M A E s (lt' x y) Q st
 tr:∀x y z,LT y x=false->LT z y=false->LT z x=false
 as:∀x y,LT x y=true->LT y x=false
abbrev leK(LT:Keyed->Keyed->Bool)(x y:Keyed):Prop:=LT y x=false
section
variable{M:Model}{A:Around}{E:Vp}{s:Shared}{kd:SortKind}{U:Keyed->Prop}{LT:Keyed->Keyed->Bool}{st:SortSt}
def zd2{a0:Array Keyed}{i:Nat}{x:Keyed}{Q:Keyed->SortSt->Prop}(hx:a0.toList[i]?=some x)(h:Q x st):wpS M A E s (elem' a0 i) Q st:=by
 rw[elem'_eq];have e:a0[i]?=some x:=by simpa using hx
 rw[e];exact vc8 h
def bey_r(C:Cmp M A E s kd U LT){key:Keyed}{a0:Array Keyed}{base i:Nat}{x:Keyed}{Q:Option Bool->SortSt->Prop}(hk:kindOf st=kd)(hx:a0.toList[base+i]?=some x)(ux:U x)(uk:U key)(h:Q (some (!LT key x)) st):wpS M A E s (bey false key a0 base i) Q st:=by
 unfold bey;refine vc3 (zd2 hx ?_);rw[vd0 vb6];exact vc3 (C.lt uk ux hk (vc8 h))
def bey_l(C:Cmp M A E s kd U LT){key:Keyed}{a0:Array Keyed}{base i:Nat}{x:Keyed}{Q:Option Bool->SortSt->Prop}(hk:kindOf st=kd)(hx:a0.toList[base+i]?=some x)(ux:U x)(uk:U key)(h:Q (some (LT x key)) st):wpS M A E s (bey true key a0 base i) Q st:=by
 unfold bey;refine vc3 (zd2 hx ?_);rw[vd3 rfl];exact C.lt ux uk hk h
end
section
variable{kd:SortKind}{U:Keyed->Prop}{LT:Keyed->Keyed->Bool}{st:SortSt}
def zp1{α:Type}{le:α->α->Prop}{l:List α}(h:l.Pairwise le){i j:Nat}{x y:α}(a0:i<j)(hx:l[i]?=some x)(hy:l[j]?=some y):le x y:=by
 obtain⟨h1,rfl⟩:=wz2.mp hx;obtain⟨h2,rfl⟩:=wz2.mp hy;exact List.pairwise_iff_getElem.mp h i j h1 h2 a0
def yx0{α:Type}{l:List α}{i k:Nat}{x:α}(h:x∈(l.drop i).take k):∃t,t<k/\l[i+t]?=some x:=by
 obtain⟨t,ht,e⟩:=vf8 h;rw[vc2,vh2]at ht;refine⟨t,by lia,?_⟩;rw[vq5,ub9]at e;rw[zz2 (by lia),e]
def zq4{α:Type}{l:List α}{i:Nat}{x:α}(h:x∈l.drop i):∃t,i<=t/\l[t]?=some x:=by
 obtain⟨t,ht,e⟩:=vf8 h;rw[vh2]at ht;refine⟨i+t,by lia,?_⟩;rw[ub9]at e;rw[zz2 (by lia),e]
def xd1(C:Cmp (model prog w) A E s kd U LT)(x:Keyed):leK LT x x:=by
 cases h:LT x x with
 | false=>exact h
 | true=>rw[C.as x x h]at h;cases h
def wr5(C:Cmp (model prog w) A E s kd U LT){key:Keyed}{a0:Array Keyed}{base n a1:Nat}{Q:Option Nat->SortSt->Prop}(hk:kindOf st=kd)(hh:a1<n)(hn:base+n<=↑a0.toList)(hu:∀x∈a0.toList,U x)(uk:U key)(so:∀i j x y,i<j->j<n->a0.toList[base+i]?=some x->a0.toList[base+j]?=some y->leK LT x y)
  (h:∀k,k<=n->(∀t x,t<k->a0.toList[base+t]?=some x->leK LT x key)->(∀t x,k<=t->t<n->a0.toList[base+t]?=some x->LT key x=true)->Q (some k) st):wpS (model prog w) A E s (gal' false key a0 base n a1) Q st:=by
 have gx:∀i,i<n->a0.toList[base+i]?=some ((a0.toList[base+i]?).getD key):=fun i hi=>by rw[zz2 (by lia)];rfl
 refine wk4 (B:=fun i=>!LT key ((a0.toList[base+i]?).getD key)) hh (fun i hi Q q=>bey_r C hk (gx i hi) (hu _ (vb0 (gx i hi))) uk q) ?_ ?_
 .intro i j a2 hj hb;rcases vg9 a2 with e | e
  .rw[e];exact hb
  .have h1:leK LT _ _:=so i j _ _ e hj (gx i (by lia)) (gx j hj);have h2:LT key ((a0.toList[base+j]?).getD key)=false:=by simpa using hb
   have h3:=C.tr _ _ _ h1 h2;show(!LT key _)=true;rw[h3];rfl
 .intro k a3 h1 h2;refine h k a3 (fun t x ht hx=>?_) (fun t x h3 h4 hx=>?_)
  .have:=h1 t ht;rw[hx]at this;simpa using this
  .have:=h2 t h3 h4;rw[hx]at this;simpa using this
def xj5(C:Cmp (model prog w) A E s kd U LT){key:Keyed}{a0:Array Keyed}{base n a1:Nat}{Q:Option Nat->SortSt->Prop}(hk:kindOf st=kd)(hh:a1<n)(hn:base+n<=↑a0.toList)(hu:∀x∈a0.toList,U x)(uk:U key)(so:∀i j x y,i<j->j<n->a0.toList[base+i]?=some x->a0.toList[base+j]?=some y->leK LT x y)
  (h:∀k,k<=n->(∀t x,t<k->a0.toList[base+t]?=some x->LT x key=true)->(∀t x,k<=t->t<n->a0.toList[base+t]?=some x->leK LT key x)->Q (some k) st):wpS (model prog w) A E s (gal' true key a0 base n a1) Q st:=by
 have gx:∀i,i<n->a0.toList[base+i]?=some ((a0.toList[base+i]?).getD key):=fun i hi=>by rw[zz2 (by lia)];rfl
 refine wk4 (B:=fun i=>LT ((a0.toList[base+i]?).getD key) key) hh (fun i hi Q q=>bey_l C hk (gx i hi) (hu _ (vb0 (gx i hi))) uk q) ?_ ?_
 .intro i j a2 hj hb;rcases vg9 a2 with e | e
  .rw[e];exact hb
  .have h1:leK LT _ _:=so i j _ _ e hj (gx i (by lia)) (gx j hj);cases h2:LT ((a0.toList[base+i]?).getD key) key with
   | true=>rfl
   | false=>
    have h3:=C.tr _ _ _ h2 h1;rw[h3]at hb;cases hb
 .intro k a3 h1 h2;refine h k a3 (fun t x ht hx=>?_) (fun t x h3 h4 hx=>?_)
  .have:=h1 t ht;rw[hx]at this;simpa using this
  .have:=h2 t h3 h4;rw[hx]at this;simpa using this
end
def mlo':Array Keyed->Array Keyed->StateT SortSt Sem (Array Keyed):=sortPriv% PySem.Builtin.mergeLo
def smg':Nat->StateT SortSt Sem Unit:=sortPriv% PySem.Builtin.setMinGallop
section
variable{kd:SortKind}{U:Keyed->Prop}{LT:Keyed->Keyed->Bool}{st:SortSt}
def xd8{g:Nat}{a0:SortSt}{Q:Unit->SortSt->Prop}(h0:SameG a0 st)(h:∀st',SameG a0 st'->Q () st'):wpS (model prog w) A E s (smg' g) Q st:=by
 unfold smg' wpS
 wp_delta
 wp_delta
 exact wz7 ⟨rfl,h _ ⟨h0.kd,h0.ar,h0.pe,h0.fa⟩⟩
def zc9{α:Type}{c:Prop}[Decidable c]{m1 m2:StateT SortSt Sem α}{Q:α->SortSt->Prop}(h1:c->wpS (model prog w) A E s m1 Q st)(h2:¬c->wpS (model prog w) A E s m2 Q st):wpS (model prog w) A E s (if c then m1 else m2) Q st:=by
 split
 .exact h1 ‹_›
 .exact h2 ‹_›
def Mrg(LT:Keyed->Keyed->Bool)(a b:Array Keyed)(r:Array Keyed):Prop:=r.toList.Perm (a.toList++b.toList)/\r.toList.Pairwise (leK LT)
def yb7(a:Array Keyed)(i:Nat):(a.extract i a.size).toList=a.toList.drop i:=by
 rw[vw7];simp only[List.extract];exact vb2 (by rw[vh2,vd7];exact wz6 _)
def yn3(a:Array Keyed)(i k:Nat):(a.extract i (i+k)).toList=(a.toList.drop i).take k:=by
 rw[vw7];simp[List.extract]
def yd4{l:List Keyed}{i:Nat}{x:Keyed}(h:l[i]?=some x):(l.drop i).take 1=[x]:=by
 obtain⟨h1,rfl⟩:=wz2.mp h;rw[vm3 h1];rfl
def yb4(l:List Keyed){i:Nat}(h:i=↑l):l.drop i=[]:=by subst h;exact List.drop_length
def mlo_ok(C:Cmp (model prog w) A E s kd U LT){a b:Array Keyed}{Q:Array Keyed->SortSt->Prop}(hk:kindOf st=kd)(ua:∀x∈a.toList,U x)(ub:∀x∈b.toList,U x)(sa:a.toList.Pairwise (leK LT))(sb:b.toList.Pairwise (leK LT))(na:0<a.size)(nb:0<b.size)
  (hf:∀y x,b.toList[0]?=some y->a.toList[0]?=some x->LT y x=true) (hl:∀y∈b.toList,∀x,a.toList[a.size-1]?=some x->leK LT y x)
  (h:∀r a0,Mrg LT a b r->SameG st a0->Q r a0):wpS (model prog w) A E s (mlo' a b) Q st:=by
 have la:↑a.toList=a.size:=vd7;have lb:↑b.toList=b.size:=vd7;have ga:∀i,i<a.size->a.toList[i]?=some (a.toList[i]?.getD default):=fun i hi=>by rw[zz2 (by lia)];rfl
 have gb:∀i,i<b.size->b.toList[i]?=some (b.toList[i]?.getD default):=fun i hi=>by rw[zz2 (by lia)];rfl
 have a8:∀{i:Nat}{x y:Keyed},a.toList[i]?=some y->leK LT x y->∀z∈a.toList.drop i,leK LT x z:=fun {i x y} hy a9 z hz=>by
  obtain⟨t,ht,e⟩:=zq4 hz;rcases vg9 ht with e' | e'
  .subst e';rw[hy]at e;cases e;exact a9
  .exact C.tr _ _ _ a9 (zp1 sa e' hy e)
 have ad:∀{i:Nat}{x y:Keyed},b.toList[i]?=some y->leK LT x y->∀z∈b.toList.drop i,leK LT x z:=fun {i x y} hy a9 z hz=>by
  obtain⟨t,ht,e⟩:=zq4 hz;rcases vg9 ht with e' | e'
  .subst e';rw[hy]at e;cases e;exact a9
  .exact C.tr _ _ _ a9 (zp1 sb e' hy e)
 have dn:∀{out:Array Keyed}{ia ib:Nat},Gd (leK LT) a.toList b.toList out.toList ia ib->(ib=b.size\/ia=a.size)->Mrg LT a b (out++a.extract ia a.size++b.extract ib b.size):=fun {out ia ib} g hc=>by
  unfold Mrg;rw[vg3,vg3,yb7,yb7];refine g.done sa sb fun x hx y hy=>?_;rcases hc with hc | hc
  .rw[yb4 _ (by lia)]at hy;exact absurd hy wz1
  .rw[yb4 _ (by lia)]at hx;exact absurd hx wz1
 have ls:∀{out:Array Keyed}{ia ib:Nat},Gd (leK LT) a.toList b.toList out.toList ia ib->ia+1=a.size->Mrg LT a b (out++b.extract ib b.size++a.extract ia a.size):=fun {out ia ib} g hc=>by
  unfold Mrg;rw[vg3,vg3,yb7,yb7];refine g.last sa sb fun y hy x hx=>?_;obtain⟨t,ht,e⟩:=zq4 hx;have:t<↑a.toList:=(wz2.mp e).1;have et:t=a.size-1:=by lia
  subst et;exact hl y (vw8 hy) x e
 have ab:∀{out:Array Keyed}{ia ib:Nat}{x:Keyed},Gd (leK LT) a.toList b.toList out.toList ia ib->b.toList[ib]?=some x->(∀z∈a.toList.drop ia,leK LT x z)->Gd (leK LT) a.toList b.toList (out.push x).toList ia (ib+1):=fun {out ia ib x} g hx hz=>by
  have:=g.b sb 1 (by rw[yd4 hx];intro x' aj;rw[vc7.mp aj];exact hz);rw[yd4 hx]at this;rw[vw3];exact this
 have ag:∀{out:Array Keyed}{ia ib:Nat}{x:Keyed},Gd (leK LT) a.toList b.toList out.toList ia ib->a.toList[ia]?=some x->(∀z∈b.toList.drop ib,leK LT x z)->Gd (leK LT) a.toList b.toList (out.push x).toList (ia+1) ib:=fun {out ia ib x} g hx hz=>by
  have:=g.a sa 1 (by rw[yd4 hx];intro x' aj;rw[vc7.mp aj];exact hz);rw[yd4 hx]at this;rw[vw3];exact this
 unfold mlo' wpS
 wp_delta
 wp_delta
 show wpS (model prog w) A E s (_ >>= _) Q st;refine vc3 (wpS_lift (vp2 ⟨rfl,?_⟩));refine vc3 (m:=elem' b 0) (zd2 (gb 0 nb) ?_);have g0:Gd (leK LT) a.toList b.toList (#[b.toList[0]?.getD default]:Array Keyed).toList 0 1:=by
  have:=ab (out:=#[]) Gd.start (gb 0 nb) (a8 (ga 0 na) (C.as _ _ (hf _ _ (gb 0 nb) (ga 0 na))));exact this
 by_cases c1:b.size=1
 .have e:((1:Nat) == b.size)=true:=by rw[c1];rfl
  rw[vd3 e];exact vc8 (h _ _ (dn g0 (.inl c1.symm)) SameG.refl)
 rw[vd0 (by intro z;exact c1 (vd6.mp z).symm)]
 by_cases c2:a.size=1
 .have e:((0+1:Nat) == a.size)=true:=by rw[c2];rfl
  rw[vd3 e];exact vc8 (h _ _ (ls g0 c2.symm) SameG.refl)
 rw[vd0 (by intro z;exact c2 (vd6.mp z).symm)];refine vc3 (uc6 ?_);refine vc3 (vx5 (vk3
  (I:=fun x c a0=>SameG st a0/\∃out ia ib mg,c=(none,out,ia,ib,mg)/\Gd (leK LT) a.toList b.toList out.toList ia ib/\ia+1<a.size/\ib<b.size/\x+1<=ia+ib)
  (Q:=fun c a0=>SameG st a0/\∃r rest,c=(some r,rest)/\Mrg LT a b r) ?step ?fin ⟨SameG.refl,_,_,_,_,rfl,g0,by lia,by lia,by lia⟩) ?post)
 case fin=>
  rintro c a0 ⟨_,out,ia,ib,mg,rfl,_,h1,h2,h3⟩;exfalso;have:max 0 (a.size+b.size)=a.size+b.size:=by lia
  lia
 case post=>
  rintro c a0 ⟨hs,r,rest,rfl,hr⟩;exact vc8 (h r a0 hr hs)
 case step=>
  rintro x c a0 _ hx ⟨hs,out,ia,ib,mg,rfl,g,a6,a4,aa⟩;dsimp only;refine vc3 (vx5 (vk3
   (I:=fun y c a0=>SameG st a0/\∃out ia ib ac bc,c=(none,out,ia,ib,ac,bc)/\Gd (leK LT) a.toList b.toList out.toList ia ib/\ia+1<a.size/\ib<b.size/\x+1+y<=ia+ib)
   (Q:=fun c a0=>SameG st a0/\((∃r rest,c=(some r,rest)/\Mrg LT a b r)\/∃out ia ib ac bc,c=(none,out,ia,ib,ac,bc)/\Gd (leK LT) a.toList b.toList out.toList ia ib/\ia+1<a.size/\ib<b.size/\x+2<=ia+ib)) ?step1 ?fin1 ⟨hs,_,_,_,_,_,rfl,g,a6,a4,by lia⟩) ?post1)
  case fin1=>
   rintro c a0 ⟨_,out,ia,ib,ac,bc,rfl,_,h1,h2,h3⟩;exfalso;have:max 0 (a.size+b.size)=a.size+b.size:=by lia
   lia
  case step1=>
   rintro y c a0 _ hy ⟨hs,out,ia,ib,ac,bc,rfl,g,a6,a4,aa⟩;dsimp only;have an:kindOf a0=kd:=hs.kd.trans hk;have xa:=ga ia (by lia);have xb:=gb ib a4;refine vc3 (m:=elem' b ib) (zd2 xb (vc3 (m:=elem' a ia) (zd2 xa (vc3 (C.lt (ub _ (vb0 xb)) (ua _ (vb0 xa)) an ?_)))));cases hb:LT (b.toList[ib]?.getD default) (a.toList[ia]?.getD default)with
   | true=>
    dsimp only;rw[vd3 rfl];refine vc3 (m:=elem' b ib) (zd2 xb ?_);have g':=ab g xb (a8 xa (C.as _ _ hb))
    by_cases c:ib+1=b.size
    .rw[vd3 (by rw[c];exact vr3 _)];exact vc8 ⟨hs,.inl ⟨_,_,rfl,dn g' (.inl c)⟩⟩
    .rw[vd0 (by intro z;exact c (vd6.mp z))]
     split
     .exact vc8 ⟨hs,.inr ⟨_,_,_,_,_,rfl,g',a6,by lia,by lia⟩⟩
     .exact vc8 ⟨hs,_,_,_,_,_,rfl,g',a6,by lia,by lia⟩
   | false=>
    dsimp only;rw[vd0 vb6];refine vc3 (m:=elem' a ia) (zd2 xa ?_);have g':=ag g xa (ad xb hb)
    by_cases c:ia+1+1=a.size
    .rw[vd3 (by rw[c];exact vr3 _)];exact vc8 ⟨hs,.inl ⟨_,_,rfl,ls g' c⟩⟩
    .rw[vd0 (by intro z;exact c (vd6.mp z))]
     split
     .exact vc8 ⟨hs,.inr ⟨_,_,_,_,_,rfl,g',by lia,a4,by lia⟩⟩
     .exact vc8 ⟨hs,_,_,_,_,_,rfl,g',by lia,a4,by lia⟩
  case post1=>
   rintro c a0 ⟨hs,⟨r,rest,rfl,hr⟩ | ⟨out,ia,ib,ac,bc,rfl,g,a6,a4,aa⟩⟩
   .exact vc8 ⟨hs,_,_,rfl,hr⟩
   .dsimp only;refine vc3 (wpS_lift (vp2 ⟨rfl,?_⟩));refine vc3 (vx5 (vk3
     (I:=fun y c a0=>SameG st a0/\∃out ia ib mg ac bc,c=(none,out,ia,ib,mg,ac,bc)/\Gd (leK LT) a.toList b.toList out.toList ia ib/\ia+1<a.size/\ib<b.size/\x+2+y<=ia+ib)
     (Q:=fun c a0=>SameG st a0/\((∃r rest,c=(some r,rest)/\Mrg LT a b r)\/∃out ia ib mg ac bc,c=(none,out,ia,ib,mg,ac,bc)/\Gd (leK LT) a.toList b.toList out.toList ia ib/\ia+1<a.size/\ib<b.size/\x+2<=ia+ib)) ?step2 ?fin2 ⟨hs,_,_,_,_,_,_,rfl,g,a6,a4,by lia⟩) ?post2)
    case fin2=>
     rintro c a0 ⟨_,out,ia,ib,mg,ac,bc,rfl,_,h1,h2,h3⟩;exfalso;have:max 0 (a.size+b.size)=a.size+b.size:=by lia
     lia
    case post2=>
     rintro c a0 ⟨hs,⟨r,rest,rfl,hr⟩ | ⟨out,ia,ib,mg,ac,bc,rfl,g,a6,a4,aa⟩⟩
     .exact vc8 ⟨hs,_,_,rfl,hr⟩
     .dsimp only;refine vc3 (m:=smg' _) (xd8 hs fun am a1=>?_);exact vc8 ⟨a1,_,_,_,_,rfl,g,a6,a4,by lia⟩
    case step2=>
     rintro y c a0 _ hy ⟨hs,out,ia,ib,mg,ac,bc,rfl,g,a6,a4,aa⟩;refine zc9 (fun _=>?_) (fun _=>?_)
     all_goals
      refine vc3 (m:=smg' _) (xd8 hs fun am a1=>?_);have ai:kindOf am=kd:=a1.kd.trans hk;have xb:=gb ib a4;have ao:=ub _ (vb0 xb);refine vc3 (m:=elem' b ib) (zd2 xb ?_);refine vc3 (m:=gal' false (b.toList[ib]?.getD default) a ia (a.size-ia) 0) (wr5 C ai (by lia) (by lia) ua ao (fun i j x y al hj hx hy=>zp1 sa (by lia) hx hy) fun k ap p1 p2=>?_);have g1:Gd (leK LT) a.toList b.toList (out++a.extract ia (ia+k)).toList (ia+k) ib:=by
       rw[vg3,yn3];refine g.a sa k fun z hz=>?_;obtain⟨t,ht,e⟩:=yx0 hz;exact ad xb (p1 t z ht e)
      have q1:∀x,ia+k<a.size->a.toList[ia+k]?=some x->LT (b.toList[ib]?.getD default) x=true:=fun x hi hx=>p2 k x (wz6 _) (by lia) hx
      refine zc9 (c:=k > 0) (fun ck=>zc9 (c:=(ia+k+1 == a.size)=true) (fun c=>vc8 ⟨a1,.inl ⟨_,_,rfl,ls g1 (vd6.mp c)⟩⟩) fun c=>zc9 (c:=(ia+k == a.size)=true) (fun c'=>vc8 ⟨a1,.inl ⟨_,_,rfl,dn g1 (.inr (vd6.mp c'))⟩⟩) fun c'=>?_) (fun ck=>?_)
      rotate_left
      .have ek:k=0:=by lia
       subst ek;have xa:=ga ia (by lia);have ak:=q1 _ (by lia) xa;refine vc3 (m:=elem' b ib) (zd2 xb ?_);have g2:=ab g xb (a8 xa (C.as _ _ ak));refine zc9 (c:=(ib+1 == b.size)=true) (fun c=>vc8 ⟨a1,.inl ⟨_,_,rfl,dn g2 (.inl (vd6.mp c))⟩⟩) fun c=>?_;have a2:ib+1<b.size:=by
        have:¬ib+1=b.size:=fun z=>c (vd6.mpr z);lia
       refine vc3 (m:=elem' a ia) (zd2 xa ?_);refine vc3 (m:=gal' true (a.toList[ia]?.getD default) b (ib+1) (b.size-(ib+1)) 0) (xj5 C ai (by lia) (by lia) ub (ua _ (vb0 xa)) (fun i j x y al hj hx hy=>zp1 sb (by lia) hx hy) fun k2 ae p3 p4=>?_);have g3:Gd (leK LT) a.toList b.toList (out.push (b.toList[ib]?.getD default)++b.extract (ib+1) (ib+1+k2)).toList ia (ib+1+k2):=by
        rw[vg3,yn3];refine g2.b sb k2 fun z hz=>?_;obtain⟨t,ht,e⟩:=yx0 hz;exact a8 xa (C.as _ _ (p3 t z ht e))
       have tl:∀{o:Array Keyed}{a3:Nat},Gd (leK LT) a.toList b.toList o.toList ia a3->a3<b.size->(∀x,b.toList[a3]?=some x->leK LT (a.toList[ia]?.getD default) x)->Gd (leK LT) a.toList b.toList (o.push (a.toList[ia]?.getD default)).toList (ia+1) a3:=fun {o a3} gg hb hc=>ag gg xa (ad (gb a3 hb) (hc _ (gb a3 hb)));have q2:∀x,ib+1+k2<b.size->b.toList[ib+1+k2]?=some x->leK LT (a.toList[ia]?.getD default) x:=fun x hi hx=>p4 k2 x (wz6 _) (by lia) hx
       refine zc9 (c:=k2 > 0) (fun ah=>zc9 (c:=(ib+1+k2 == b.size)=true) (fun c=>vc8 ⟨a1,.inl ⟨_,_,rfl,dn g3 (.inl (vd6.mp c))⟩⟩) fun c=>?_) (fun ah=>?_)
       .have a5:ib+1+k2<b.size:=by
         have:¬ib+1+k2=b.size:=fun z=>c (vd6.mpr z);lia
        refine vc3 (m:=elem' a ia) (zd2 xa ?_);have g4:=tl g3 a5 fun x hx=>q2 x a5 hx;refine zc9 (c:=(ia+1+1 == a.size)=true) (fun c=>vc8 ⟨a1,.inl ⟨_,_,rfl,ls g4 (vd6.mp c)⟩⟩) fun c=>?_;have a7:¬ia+1+1=a.size:=fun z=>c (vd6.mpr z);have w1:ia+1+1<a.size:=by lia
        have w2:x+2<=ia+1+(ib+1+k2):=by lia
        have w3:x+2+(y+1)<=ia+1+(ib+1+k2):=by lia
        exact zc9 (fun _=>vc8 ⟨a1,.inr ⟨_,_,_,_,_,_,rfl,g4,w1,a5,w2⟩⟩) fun _=>vc8 ⟨a1,_,_,_,_,_,_,rfl,g4,w1,a5,w3⟩
       .have af:k2=0:=by lia
        subst af;refine vc3 (m:=elem' a ia) (zd2 xa ?_);have g4:=tl g2 a2 fun x hx=>q2 x a2 hx;refine zc9 (c:=(ia+1+1 == a.size)=true) (fun c=>vc8 ⟨a1,.inl ⟨_,_,rfl,ls g4 (vd6.mp c)⟩⟩) fun c=>?_;have a7:¬ia+1+1=a.size:=fun z=>c (vd6.mpr z);have w1:ia+1+1<a.size:=by lia
        have w2:x+2<=ia+1+(ib+1):=by lia
        have w3:x+2+(y+1)<=ia+1+(ib+1):=by lia
        exact zc9 (fun _=>vc8 ⟨a1,.inr ⟨_,_,_,_,_,_,rfl,g4,w1,a2,w2⟩⟩) fun _=>vc8 ⟨a1,_,_,_,_,_,_,rfl,g4,w1,a2,w3⟩
      .have hI:ia+k+1<a.size:=by
        have:¬ia+k+1=a.size:=fun z=>c (vd6.mpr z);have:¬ia+k=a.size:=fun z=>c' (vd6.mpr z);lia
       have xa:=ga (ia+k) (by lia);have ak:=q1 _ (by lia) xa;refine vc3 (m:=elem' b ib) (zd2 xb ?_);have g2:=ab g1 xb (a8 xa (C.as _ _ ak));refine zc9 (c:=(ib+1 == b.size)=true) (fun c=>vc8 ⟨a1,.inl ⟨_,_,rfl,dn g2 (.inl (vd6.mp c))⟩⟩) fun c=>?_;have a2:ib+1<b.size:=by
        have:¬ib+1=b.size:=fun z=>c (vd6.mpr z);lia
       refine vc3 (m:=elem' a (ia+k)) (zd2 xa ?_);refine vc3 (m:=gal' true (a.toList[ia+k]?.getD default) b (ib+1) (b.size-(ib+1)) 0) (xj5 C ai (by lia) (by lia) ub (ua _ (vb0 xa)) (fun i j x y al hj hx hy=>zp1 sb (by lia) hx hy) fun k2 ae p3 p4=>?_);have g3:Gd (leK LT) a.toList b.toList ((out++a.extract ia (ia+k)).push (b.toList[ib]?.getD default)++b.extract (ib+1) (ib+1+k2)).toList (ia+k) (ib+1+k2):=by
        rw[vg3,yn3];refine g2.b sb k2 fun z hz=>?_;obtain⟨t,ht,e⟩:=yx0 hz;exact a8 xa (C.as _ _ (p3 t z ht e))
       have tl:∀{o:Array Keyed}{a3:Nat},Gd (leK LT) a.toList b.toList o.toList (ia+k) a3->a3<b.size->(∀x,b.toList[a3]?=some x->leK LT (a.toList[ia+k]?.getD default) x)->Gd (leK LT) a.toList b.toList (o.push (a.toList[ia+k]?.getD default)).toList (ia+k+1) a3:=fun {o a3} gg hb hc=>ag gg xa (ad (gb a3 hb) (hc _ (gb a3 hb)));have q2:∀x,ib+1+k2<b.size->b.toList[ib+1+k2]?=some x->leK LT (a.toList[ia+k]?.getD default) x:=fun x hi hx=>p4 k2 x (wz6 _) (by lia) hx
       refine zc9 (c:=k2 > 0) (fun ah=>zc9 (c:=(ib+1+k2 == b.size)=true) (fun c=>vc8 ⟨a1,.inl ⟨_,_,rfl,dn g3 (.inl (vd6.mp c))⟩⟩) fun c=>?_) (fun ah=>?_)
       .have a5:ib+1+k2<b.size:=by
         have:¬ib+1+k2=b.size:=fun z=>c (vd6.mpr z);lia
        refine vc3 (m:=elem' a (ia+k)) (zd2 xa ?_);have g4:=tl g3 a5 fun x hx=>q2 x a5 hx;refine zc9 (c:=(ia+k+1+1 == a.size)=true) (fun c=>vc8 ⟨a1,.inl ⟨_,_,rfl,ls g4 (vd6.mp c)⟩⟩) fun c=>?_;have a7:¬ia+k+1+1=a.size:=fun z=>c (vd6.mpr z);have w1:ia+k+1+1<a.size:=by lia
        have w2:x+2<=ia+k+1+(ib+1+k2):=by lia
        have w3:x+2+(y+1)<=ia+k+1+(ib+1+k2):=by lia
        exact zc9 (fun _=>vc8 ⟨a1,.inr ⟨_,_,_,_,_,_,rfl,g4,w1,a5,w2⟩⟩) fun _=>vc8 ⟨a1,_,_,_,_,_,_,rfl,g4,w1,a5,w3⟩
       .have af:k2=0:=by lia
        subst af;refine vc3 (m:=elem' a (ia+k)) (zd2 xa ?_);have g4:=tl g2 a2 fun x hx=>q2 x a2 hx;refine zc9 (c:=(ia+k+1+1 == a.size)=true) (fun c=>vc8 ⟨a1,.inl ⟨_,_,rfl,ls g4 (vd6.mp c)⟩⟩) fun c=>?_;have a7:¬ia+k+1+1=a.size:=fun z=>c (vd6.mpr z);have w1:ia+k+1+1<a.size:=by lia
        have w2:x+2<=ia+k+1+(ib+1):=by lia
        have w3:x+2+(y+1)<=ia+k+1+(ib+1):=by lia
        exact zc9 (fun _=>vc8 ⟨a1,.inr ⟨_,_,_,_,_,_,rfl,g4,w1,a2,w2⟩⟩) fun _=>vc8 ⟨a1,_,_,_,_,_,_,rfl,g4,w1,a2,w3⟩
end
section
variable{α:Type}{le:α->α->Prop}{al bl o:List α}{na nb:Nat}
structure Hd(le:α->α->Prop)(al bl o:List α)(na nb:Nat):Prop where
 pm:o.Perm (al.drop na++bl.drop nb)
 so:o.Pairwise le
 la:∀y∈al.take na,∀x∈o,le y x
 lb:∀y∈bl.take nb,∀x∈o,le y x
def zq7(l:List α){p n:Nat}(h:p<=n):l.take n=l.take p++(l.take n).drop p:=by
 have e:=vg0 p (l.take n);rw[List.take_take,vv9 h]at e;exact e.symm
def yw9(l:List α){p n:Nat}(h:p<=n):l.drop p=(l.take n).drop p++l.drop n:=by
 have e:l.drop n=(l.drop p).drop (n-p):=by rw[List.drop_drop];congr 1;lia
 rw[e,List.drop_take,vg0]
def Hd.a(g:Hd le al bl o na nb)(sa:al.Pairwise le){p:Nat}(hp:p<=na)(h:∀y∈bl.take nb,∀x∈(al.take na).drop p,le y x):Hd le al bl ((al.take na).drop p++o) p nb:=by
 have st:(al.take na).Pairwise le:=sa.sublist (vq2 _ _);rw[zq7 al hp,vh5]at st;exists ?_,?_,?_
 .rw[yw9 al hp,vd8];exact vp0 _ g.pm
 .rw[vh5];exact⟨st.2.1,g.so,fun x hx y hy=>g.la x (by rw[zq7 al hp];exact vd4 _ hx) y hy⟩
 .intro y hy x hx;rcases vc4.mp hx with hx | hx
  .exact st.2.2 y hy x hx
  .exact g.la y (by rw[zq7 al hp];exact vp6 _ hy) x hx
 .intro y hy x hx;rcases vc4.mp hx with hx | hx
  .exact h y hy x hx
  .exact g.lb y hy x hx
def Hd.flip(g:Hd le al bl o na nb):Hd le bl al o nb na:=⟨g.pm.trans vm0,g.so,g.lb,g.la⟩
def Hd.b(g:Hd le al bl o na nb)(sb:bl.Pairwise le){p:Nat}(hp:p<=nb)(h:∀y∈al.take na,∀x∈(bl.take nb).drop p,le y x):Hd le al bl ((bl.take nb).drop p++o) na p:=(g.flip.a sb hp h).flip
def Hd.done(g:Hd le al bl o na nb)(sa:al.Pairwise le)(sb:bl.Pairwise le)(h:∀x∈al.take na,∀y∈bl.take nb,le x y):(al.take na++bl.take nb++o).Perm (al++bl)/\(al.take na++bl.take nb++o).Pairwise le:=by
 exists ?_
 .refine(vp0 _ g.pm).trans ?_
  conv=>rhs;rw[<-vg0 na al,<-vg0 nb bl]
  rw[vd8,vd8];refine vp0 _ ?_;rw[<-vd8,<-vd8];exact List.Perm.append_right _ vm0
 .rw[vh5,vh5];refine⟨⟨sa.sublist (vq2 _ _),sb.sublist (vq2 _ _),h⟩,g.so,fun x hx y hy=>?_⟩;rcases vc4.mp hx with hx | hx
  .exact g.la x hx y hy
  .exact g.lb x hx y hy
def Hd.first(g:Hd le al bl o na nb)(sa:al.Pairwise le)(sb:bl.Pairwise le)(h:∀y∈bl.take nb,∀x∈al.take na,le y x):(bl.take nb++al.take na++o).Perm (al++bl)/\(bl.take nb++al.take na++o).Pairwise le:=
 have q:=g.flip.done sb sa h
 ⟨q.1.trans vm0,q.2⟩
def zq3{α:Type}{l:List α}{i:Nat}{x:α}(h:x∈l.take i):∃t,t<i/\l[t]?=some x:=by
 obtain⟨t,ht,e⟩:=vf8 h;rw[vc2]at ht;refine⟨t,by lia,?_⟩;rw[vq5]at e;rw[zz2 (by lia),e]
def ym2{α:Type}{l:List α}{p n:Nat}{x:α}(h:x∈(l.take n).drop p):∃t,p<=t/\t<n/\l[t]?=some x:=by
 obtain⟨t,ht,e⟩:=zq4 h;have h1:=(wz2.mp e).1;rw[vc2]at h1;refine⟨t,ht,by lia,?_⟩;rw[List.getElem?_take,vd3 (by lia)]at e;exact e
end
def mhi':Array Keyed->Array Keyed->StateT SortSt Sem (Array Keyed):=sortPriv% PySem.Builtin.mergeHi
def yb1{l:List Keyed}{n:Nat}{x:Keyed}(hn:1<=n)(h:l[n-1]?=some x):(l.take n).drop (n-1)=[x]:=by
 obtain⟨m,rfl⟩:∃m,n=m+1:=⟨n-1,by lia⟩;rw[Nat.add_sub_cancel]at h ⊢;rw[List.drop_take,Nat.add_sub_cancel_left];exact yd4 h
def yb5(a:Array Keyed)(i:Nat):(a.extract 0 i).toList=a.toList.take i:=by
 rw[vw7];simp[List.extract]
def yb6(a:Array Keyed){p n:Nat}:(a.extract p n).toList=(a.toList.take n).drop p:=by
 rw[vw7];simp only[List.extract];rw[List.drop_take]
section
variable{kd:SortKind}{U:Keyed->Prop}{LT:Keyed->Keyed->Bool}{st:SortSt}
def mhi_ok(C:Cmp (model prog w) A E s kd U LT){a b:Array Keyed}{Q:Array Keyed->SortSt->Prop}(hk:kindOf st=kd)(ua:∀x∈a.toList,U x)(ub:∀x∈b.toList,U x)(sa:a.toList.Pairwise (leK LT))(sb:b.toList.Pairwise (leK LT))(na:0<a.size)(nb:0<b.size)
  (hf:∀y x,b.toList[0]?=some y->a.toList[0]?=some x->LT y x=true) (hl:∀y∈b.toList,∀x,a.toList[a.size-1]?=some x->leK LT y x)
  (h:∀r a0,Mrg LT a b r->SameG st a0->Q r a0):wpS (model prog w) A E s (mhi' a b) Q st:=by
 have la:↑a.toList=a.size:=vd7;have lb:↑b.toList=b.size:=vd7;have ga:∀i,i<a.size->a.toList[i]?=some (a.toList[i]?.getD default):=fun i hi=>by rw[zz2 (by lia)];rfl
 have gb:∀i,i<b.size->b.toList[i]?=some (b.toList[i]?.getD default):=fun i hi=>by rw[zz2 (by lia)];rfl
 have af:∀{n:Nat}{x y:Keyed},a.toList[n-1]?=some y->leK LT y x->∀z∈a.toList.take n,leK LT z x:=fun {n x y} hy a8 z hz=>by
  obtain⟨t,ht,e⟩:=zq3 hz;rcases vg9 (show t<=n-1 by lia)with e' | e'
  .rw[<-e',e]at hy;cases hy;exact a8
  .exact C.tr _ _ _ (zp1 sa e' e hy) a8
 have a5:∀{n:Nat}{x y:Keyed},b.toList[n-1]?=some y->leK LT y x->∀z∈b.toList.take n,leK LT z x:=fun {n x y} hy a8 z hz=>by
  obtain⟨t,ht,e⟩:=zq3 hz;rcases vg9 (show t<=n-1 by lia)with e' | e'
  .rw[<-e',e]at hy;cases hy;exact a8
  .exact C.tr _ _ _ (zp1 sb e' e hy) a8
 have dn:∀{out:Array Keyed}{m n:Nat},Hd (leK LT) a.toList b.toList out.toList.reverse m n->(m=0\/n=0)->Mrg LT a b (a.extract 0 m++b.extract 0 n++out.reverse):=fun {out m n} g hc=>by
  unfold Mrg;rw[vg3,vg3,yb5,yb5,vr9];refine g.done sa sb fun x hx y hy=>?_;rcases hc with rfl | rfl
  .exact absurd hx (by rw[uc1];exact wz1)
  .exact absurd hy (by rw[uc1];exact wz1)
 have fs:∀{out:Array Keyed}{m n:Nat},Hd (leK LT) a.toList b.toList out.toList.reverse m n->n=1->Mrg LT a b (b.extract 0 n++a.extract 0 m++out.reverse):=fun {out m n} g hc=>by
  unfold Mrg;rw[vg3,vg3,yb5,yb5,vr9];refine g.first sa sb fun y hy x hx=>?_;subst hc;obtain⟨t,ht,e⟩:=zq3 hy;have et:t=0:=by lia
  subst et;obtain⟨u,hu,e2⟩:=zq3 hx;have h0:=C.as _ _ (hf _ _ e (ga 0 na));rcases vg9 (vc9 u)with e' | e'
  .subst e';rw[ga 0 na]at e2;cases e2;exact h0
  .exact C.tr _ _ _ h0 (zp1 sa e' (ga 0 na) e2)
 have a4:∀{out:Array Keyed}{m n:Nat}{x:Keyed},Hd (leK LT) a.toList b.toList out.toList.reverse m n->1<=m->a.toList[m-1]?=some x->(∀z∈b.toList.take n,leK LT z x)->Hd (leK LT) a.toList b.toList (out.push x).toList.reverse (m-1) n:=fun {out m n x} g hm hx hz=>by
  have:=g.a sa (p:=m-1) (by lia) (by rw[yb1 hm hx];intro y hy x' aj;rw[vc7.mp aj];exact hz y hy);rw[yb1 hm hx]at this;rw[vw3,vt1];exact this
 have am:∀{out:Array Keyed}{m n:Nat}{x:Keyed},Hd (leK LT) a.toList b.toList out.toList.reverse m n->1<=n->b.toList[n-1]?=some x->(∀z∈a.toList.take m,leK LT z x)->Hd (leK LT) a.toList b.toList (out.push x).toList.reverse m (n-1):=fun {out m n x} g hm hx hz=>by
  have:=g.b sb (p:=n-1) (by lia) (by rw[yb1 hm hx];intro y hy x' aj;rw[vc7.mp aj];exact hz y hy);rw[yb1 hm hx]at this;rw[vw3,vt1];exact this
 unfold mhi' wpS
 wp_delta
 wp_delta
 show wpS (model prog w) A E s (_ >>= _) Q st;refine vc3 (wpS_lift (vp2 ⟨rfl,?_⟩));refine vc3 (m:=elem' a (a.size-1)) (zd2 (ga (a.size-1) (by lia)) ?_);have g0:Hd (leK LT) a.toList b.toList (#[a.toList[a.size-1]?.getD default]:Array Keyed).toList.reverse (a.size-1) b.size:=by
  have gs:Hd (leK LT) a.toList b.toList (#[]:Array Keyed).toList.reverse a.size b.size:=by
   refine⟨?_,.nil,fun _ _ x hx=>absurd hx (by simp),fun _ _ x hx=>absurd hx (by simp)⟩;rw[yb4 _ la.symm,yb4 _ lb.symm];exact List.Perm.refl _
  exact a4 gs na (ga (a.size-1) (by lia)) fun z hz=>hl z (vk4 hz) _ (ga (a.size-1) (by lia))
 by_cases c1:a.size-1=0
 .rw[vd3 (by rw[c1];rfl)];exact vc8 (h _ _ (dn g0 (.inl c1)) SameG.refl)
 rw[vd0 (by intro z;exact c1 (vd6.mp z))]
 by_cases c2:b.size=1
 .rw[vd3 (by rw[c2];rfl)];exact vc8 (h _ _ (fs g0 c2) SameG.refl)
 rw[vd0 (by intro z;exact c2 (vd6.mp z))];refine vc3 (uc6 ?_);refine vc3 (vx5 (vk3
  (I:=fun x c a0=>SameG st a0/\∃m n out mg,c=(none,m,n,out,mg)/\Hd (leK LT) a.toList b.toList out.toList.reverse m n/\1<=m/\2<=n/\m<=a.size/\n<=b.size/\m+n+x+1<=a.size+b.size)
  (Q:=fun c a0=>SameG st a0/\∃r rest,c=(some r,rest)/\Mrg LT a b r) ?step ?fin ⟨SameG.refl,_,_,_,_,rfl,g0,by lia,by lia,by lia,by lia,by lia⟩) ?post)
 case fin=>
  rintro c a0 ⟨_,m,n,out,mg,rfl,_,h1,h2,h3,h4,h5⟩;exfalso;have:max 0 (a.size+b.size)=a.size+b.size:=by lia
  lia
 case post=>
  rintro c a0 ⟨hs,r,rest,rfl,hr⟩;exact vc8 (h r a0 hr hs)
 case step=>
  rintro x c a0 _ hx ⟨hs,m,n,out,mg,rfl,g,hm,hn,a3,a2,ad⟩;dsimp only;refine vc3 (vx5 (vk3
   (I:=fun y c a0=>SameG st a0/\∃m n out ac bc,c=(none,m,n,out,ac,bc)/\Hd (leK LT) a.toList b.toList out.toList.reverse m n/\1<=m/\2<=n/\m<=a.size/\n<=b.size/\m+n+x+y+1<=a.size+b.size)
   (Q:=fun c a0=>SameG st a0/\((∃r rest,c=(some r,rest)/\Mrg LT a b r)\/∃m n out ac bc,c=(none,m,n,out,ac,bc)/\Hd (leK LT) a.toList b.toList out.toList.reverse m n/\1<=m/\2<=n/\m<=a.size/\n<=b.size/\m+n+x+2<=a.size+b.size)) ?step1 ?fin1 ⟨hs,_,_,_,_,_,rfl,g,hm,hn,a3,a2,by lia⟩) ?post1)
  case fin1=>
   rintro c a0 ⟨_,m,n,out,ac,bc,rfl,_,h1,h2,h3,h4,h5⟩;exfalso;have:max 0 (a.size+b.size)=a.size+b.size:=by lia
   lia
  case step1=>
   rintro y c a0 _ hy ⟨hs,m,n,out,ac,bc,rfl,g,hm,hn,a3,a2,ad⟩;dsimp only;have ap:kindOf a0=kd:=hs.kd.trans hk;have xa:=ga (m-1) (by lia);have xb:=gb (n-1) (by lia);refine vc3 (m:=elem' b (n-1)) (zd2 xb (vc3 (m:=elem' a (m-1)) (zd2 xa (vc3 (C.lt (ub _ (vb0 xb)) (ua _ (vb0 xa)) ap ?_)))));cases hb:LT (b.toList[n-1]?.getD default) (a.toList[m-1]?.getD default)with
   | true=>
    dsimp only;rw[vd3 rfl];refine vc3 (m:=elem' a (m-1)) (zd2 xa ?_);have g':=a4 g hm xa (a5 xb (C.as _ _ hb))
    by_cases c:m-1=0
    .rw[vd3 (by rw[c];rfl)];exact vc8 ⟨hs,.inl ⟨_,_,rfl,dn g' (.inl c)⟩⟩
    .rw[vd0 (by intro z;exact c (vd6.mp z))]
     split
     .exact vc8 ⟨hs,.inr ⟨_,_,_,_,_,rfl,g',by lia,hn,by lia,a2,by lia⟩⟩
     .exact vc8 ⟨hs,_,_,_,_,_,rfl,g',by lia,hn,by lia,a2,by lia⟩
   | false=>
    dsimp only;rw[vd0 vb6];refine vc3 (m:=elem' b (n-1)) (zd2 xb ?_);have g':=am g (by lia) xb (af xa hb)
    by_cases c:n-1=1
    .rw[vd3 (by rw[c];rfl)];exact vc8 ⟨hs,.inl ⟨_,_,rfl,fs g' c⟩⟩
    .rw[vd0 (by intro z;exact c (vd6.mp z))]
     split
     .exact vc8 ⟨hs,.inr ⟨_,_,_,_,_,rfl,g',hm,by lia,a3,by lia,by lia⟩⟩
     .exact vc8 ⟨hs,_,_,_,_,_,rfl,g',hm,by lia,a3,by lia,by lia⟩
  case post1=>
   rintro c a0 ⟨hs,⟨r,rest,rfl,hr⟩ | ⟨m,n,out,ac,bc,rfl,g,hm,hn,a3,a2,ad⟩⟩
   .exact vc8 ⟨hs,_,_,rfl,hr⟩
   .dsimp only;refine vc3 (wpS_lift (vp2 ⟨rfl,?_⟩));refine vc3 (vx5 (vk3
     (I:=fun y c a0=>SameG st a0/\∃m n out mg ac bc,c=(none,m,n,out,mg,ac,bc)/\Hd (leK LT) a.toList b.toList out.toList.reverse m n/\1<=m/\2<=n/\m<=a.size/\n<=b.size/\m+n+x+2+y<=a.size+b.size)
     (Q:=fun c a0=>SameG st a0/\((∃r rest,c=(some r,rest)/\Mrg LT a b r)\/∃m n out mg ac bc,c=(none,m,n,out,mg,ac,bc)/\Hd (leK LT) a.toList b.toList out.toList.reverse m n/\1<=m/\2<=n/\m<=a.size/\n<=b.size/\m+n+x+2<=a.size+b.size)) ?step2 ?fin2 ⟨hs,_,_,_,_,_,_,rfl,g,hm,hn,a3,a2,by lia⟩) ?post2)
    case fin2=>
     rintro c a0 ⟨_,m,n,out,mg,ac,bc,rfl,_,h1,h2,h3,h4,h5⟩;exfalso;have:max 0 (a.size+b.size)=a.size+b.size:=by lia
     lia
    case post2=>
     rintro c a0 ⟨hs,⟨r,rest,rfl,hr⟩ | ⟨m,n,out,mg,ac,bc,rfl,g,hm,hn,a3,a2,ad⟩⟩
     .exact vc8 ⟨hs,_,_,rfl,hr⟩
     .dsimp only;refine vc3 (m:=smg' _) (xd8 hs fun ao a1=>?_);exact vc8 ⟨a1,_,_,_,_,rfl,g,hm,hn,a3,a2,by lia⟩
    case step2=>
     rintro y c a0 _ hy ⟨hs,m,n,out,mg,ac,bc,rfl,g,hm,hn,a3,a2,ad⟩;refine zc9 (fun _=>?_) (fun _=>?_)
     all_goals
      refine vc3 (m:=smg' _) (xd8 hs fun ao a1=>?_);have ai:kindOf ao=kd:=a1.kd.trans hk;have xb:=gb (n-1) (by lia);have aq:=ub _ (vb0 xb);refine vc3 (m:=elem' b (n-1)) (zd2 xb ?_);refine vc3 (m:=gal' false (b.toList[n-1]?.getD default) a 0 m (m-1)) (wr5 C ai (by lia) (by lia) ua aq (fun i j x y al hj hx hy=>zp1 sa (by lia) hx hy) fun p an p1 p2=>?_);have g1:Hd (leK LT) a.toList b.toList (out++(a.extract p m).reverse).toList.reverse p n:=by
       rw[vg3,vt1,vr9,vw9,yb6];refine g.a sa an fun y' a9 z hz=>?_;obtain⟨t,a6,aa,e⟩:=ym2 hz;exact a5 xb (C.as _ _ (p2 t z a6 aa (by rw[vj8];exact e))) y' a9
      have q1:∀x,1<=p->a.toList[p-1]?=some x->leK LT x (b.toList[n-1]?.getD default):=fun x hi hx=>p1 (p-1) x (by lia) (by rw[vj8];exact hx)
      have tail:∀{o:Array Keyed}{m':Nat},Hd (leK LT) a.toList b.toList o.toList.reverse m' n->1<=m'->m'<=m->(∀x,a.toList[m'-1]?=some x->leK LT x (b.toList[n-1]?.getD default))->
        Hd (leK LT) a.toList b.toList (o.push (b.toList[n-1]?.getD default)).toList.reverse m' (n-1):=fun {o m'} gg h1 h2 h3=>am gg (by lia) xb (af (ga (m'-1) (by lia)) (h3 _ (ga (m'-1) (by lia))))
      refine zc9 (c:=m-p > 0) (fun ck=>zc9 (c:=(p == 0)=true) (fun c=>vc8 ⟨a1,.inl ⟨_,_,rfl,dn g1 (.inl (vd6.mp c))⟩⟩) fun c=>?_) (fun ck=>?_)
      .have ae:1<=p:=by
        have:¬p=0:=fun z=>c (vd6.mpr z);lia
       have xa:=ga (p-1) (by lia);refine vc3 (m:=elem' b (n-1)) (zd2 xb ?_);have g2:=tail g1 ae an fun x hx=>q1 x ae hx;refine zc9 (c:=(n-1 == 1)=true) (fun c=>vc8 ⟨a1,.inl ⟨_,_,rfl,fs g2 (vd6.mp c)⟩⟩) fun c=>?_;have a7:2<=n-1:=by
        have:¬n-1=1:=fun z=>c (vd6.mpr z);lia
       refine vc3 (m:=elem' a (p-1)) (zd2 xa ?_);refine vc3 (m:=gal' true (a.toList[p-1]?.getD default) b 0 (n-1) (n-1-1)) (xj5 C ai (by lia) (by lia) ub (ua _ (vb0 xa)) (fun i j x y al hj hx hy=>zp1 sb (by lia) hx hy) fun u ak p3 p4=>?_);have g3:Hd (leK LT) a.toList b.toList ((out++(a.extract p m).reverse).push (b.toList[n-1]?.getD default)++(b.extract u (n-1)).reverse).toList.reverse p u:=by
        rw[vg3,vt1,vr9,vw9,yb6];refine g2.b sb ak fun y' a9 z hz=>?_;obtain⟨t,a6,aa,e⟩:=ym2 hz;exact af xa (p4 t z a6 aa (by rw[vj8];exact e)) y' a9
       have q2:∀x,1<=u->b.toList[u-1]?=some x->LT x (a.toList[p-1]?.getD default)=true:=fun x hi hx=>p3 (u-1) x (by lia) (by rw[vj8];exact hx)
       refine zc9 (c:=n-1-u > 0) (fun ah=>zc9 (c:=(u == 1)=true) (fun c=>vc8 ⟨a1,.inl ⟨_,_,rfl,fs g3 (vd6.mp c)⟩⟩) fun c=>zc9 (c:=(u == 0)=true) (fun c'=>vc8 ⟨a1,.inl ⟨_,_,rfl,dn g3 (.inr (vd6.mp c'))⟩⟩) fun c'=>?_) (fun ah=>?_)
       .have ab:2<=u:=by
         have:¬u=1:=fun z=>c (vd6.mpr z);have:¬u=0:=fun z=>c' (vd6.mpr z);lia
        refine vc3 (m:=elem' a (p-1)) (zd2 xa ?_);have g4:=a4 g3 ae xa (a5 (gb (u-1) (by lia)) (C.as _ _ (q2 _ (by lia) (gb (u-1) (by lia)))));refine zc9 (c:=(p-1 == 0)=true) (fun c=>vc8 ⟨a1,.inl ⟨_,_,rfl,dn g4 (.inl (vd6.mp c))⟩⟩) fun c=>?_;have ag:¬p-1=0:=fun z=>c (vd6.mpr z);have w1:1<=p-1:=by lia
        have w2:p-1<=a.size:=by lia
        have w3:u<=b.size:=by lia
        have w4:p-1+u+x+2<=a.size+b.size:=by lia
        have w5:p-1+u+x+2+(y+1)<=a.size+b.size:=by lia
        exact zc9 (fun _=>vc8 ⟨a1,.inr ⟨_,_,_,_,_,_,rfl,g4,w1,ab,w2,w3,w4⟩⟩) fun _=>vc8 ⟨a1,_,_,_,_,_,_,rfl,g4,w1,ab,w2,w3,w5⟩
       .have eu:u=n-1:=by lia
        subst eu;refine vc3 (m:=elem' a (p-1)) (zd2 xa ?_);have g4:=a4 g2 ae xa (a5 (gb (n-1-1) (by lia)) (C.as _ _ (q2 _ (by lia) (gb (n-1-1) (by lia)))));refine zc9 (c:=(p-1 == 0)=true) (fun c=>vc8 ⟨a1,.inl ⟨_,_,rfl,dn g4 (.inl (vd6.mp c))⟩⟩) fun c=>?_;have ag:¬p-1=0:=fun z=>c (vd6.mpr z);have w1:1<=p-1:=by lia
        have w2:p-1<=a.size:=by lia
        have w3:n-1<=b.size:=by lia
        have w4:p-1+(n-1)+x+2<=a.size+b.size:=by lia
        have w5:p-1+(n-1)+x+2+(y+1)<=a.size+b.size:=by lia
        exact zc9 (fun _=>vc8 ⟨a1,.inr ⟨_,_,_,_,_,_,rfl,g4,w1,a7,w2,w3,w4⟩⟩) fun _=>vc8 ⟨a1,_,_,_,_,_,_,rfl,g4,w1,a7,w2,w3,w5⟩
      .have ep:p=m:=by lia
       subst ep;have xa:=ga (p-1) (by lia);refine vc3 (m:=elem' b (n-1)) (zd2 xb ?_);have g2:=tail g hm (wz6 _) fun x hx=>q1 x hm hx;refine zc9 (c:=(n-1 == 1)=true) (fun c=>vc8 ⟨a1,.inl ⟨_,_,rfl,fs g2 (vd6.mp c)⟩⟩) fun c=>?_;have a7:2<=n-1:=by
        have:¬n-1=1:=fun z=>c (vd6.mpr z);lia
       refine vc3 (m:=elem' a (p-1)) (zd2 xa ?_);refine vc3 (m:=gal' true (a.toList[p-1]?.getD default) b 0 (n-1) (n-1-1)) (xj5 C ai (by lia) (by lia) ub (ua _ (vb0 xa)) (fun i j x y al hj hx hy=>zp1 sb (by lia) hx hy) fun u ak p3 p4=>?_);have g3:Hd (leK LT) a.toList b.toList (out.push (b.toList[n-1]?.getD default)++(b.extract u (n-1)).reverse).toList.reverse p u:=by
        rw[vg3,vt1,vr9,vw9,yb6];refine g2.b sb ak fun y' a9 z hz=>?_;obtain⟨t,a6,aa,e⟩:=ym2 hz;exact af xa (p4 t z a6 aa (by rw[vj8];exact e)) y' a9
       have q2:∀x,1<=u->b.toList[u-1]?=some x->LT x (a.toList[p-1]?.getD default)=true:=fun x hi hx=>p3 (u-1) x (by lia) (by rw[vj8];exact hx)
       refine zc9 (c:=n-1-u > 0) (fun ah=>zc9 (c:=(u == 1)=true) (fun c=>vc8 ⟨a1,.inl ⟨_,_,rfl,fs g3 (vd6.mp c)⟩⟩) fun c=>zc9 (c:=(u == 0)=true) (fun c'=>vc8 ⟨a1,.inl ⟨_,_,rfl,dn g3 (.inr (vd6.mp c'))⟩⟩) fun c'=>?_) (fun ah=>?_)
       .have ab:2<=u:=by
         have:¬u=1:=fun z=>c (vd6.mpr z);have:¬u=0:=fun z=>c' (vd6.mpr z);lia
        refine vc3 (m:=elem' a (p-1)) (zd2 xa ?_);have g4:=a4 g3 hm xa (a5 (gb (u-1) (by lia)) (C.as _ _ (q2 _ (by lia) (gb (u-1) (by lia)))));refine zc9 (c:=(p-1 == 0)=true) (fun c=>vc8 ⟨a1,.inl ⟨_,_,rfl,dn g4 (.inl (vd6.mp c))⟩⟩) fun c=>?_;have ag:¬p-1=0:=fun z=>c (vd6.mpr z);have w1:1<=p-1:=by lia
        have w2:p-1<=a.size:=by lia
        have w3:u<=b.size:=by lia
        have w4:p-1+u+x+2<=a.size+b.size:=by lia
        have w5:p-1+u+x+2+(y+1)<=a.size+b.size:=by lia
        exact zc9 (fun _=>vc8 ⟨a1,.inr ⟨_,_,_,_,_,_,rfl,g4,w1,ab,w2,w3,w4⟩⟩) fun _=>vc8 ⟨a1,_,_,_,_,_,_,rfl,g4,w1,ab,w2,w3,w5⟩
       .have eu:u=n-1:=by lia
        subst eu;refine vc3 (m:=elem' a (p-1)) (zd2 xa ?_);have g4:=a4 g2 hm xa (a5 (gb (n-1-1) (by lia)) (C.as _ _ (q2 _ (by lia) (gb (n-1-1) (by lia)))));refine zc9 (c:=(p-1 == 0)=true) (fun c=>vc8 ⟨a1,.inl ⟨_,_,rfl,dn g4 (.inl (vd6.mp c))⟩⟩) fun c=>?_;have ag:¬p-1=0:=fun z=>c (vd6.mpr z);have w1:1<=p-1:=by lia
        have w2:p-1<=a.size:=by lia
        have w3:n-1<=b.size:=by lia
        have w4:p-1+(n-1)+x+2<=a.size+b.size:=by lia
        have w5:p-1+(n-1)+x+2+(y+1)<=a.size+b.size:=by lia
        exact zc9 (fun _=>vc8 ⟨a1,.inr ⟨_,_,_,_,_,_,rfl,g4,w1,a7,w2,w3,w4⟩⟩) fun _=>vc8 ⟨a1,_,_,_,_,_,_,rfl,g4,w1,a7,w2,w3,w5⟩
end
def aK(xs:Array Keyed)(i:Nat):Keyed:=xs[i]?.getD default
def zv6{xs:Array Keyed}{i:Nat}(h:i<xs.size):xs[i]?=some (aK xs i):=by unfold aK;rw[vx0 h];rfl
def zs9{xs ys:Array Keyed}{i j:Nat}(h:xs[i]?=ys[j]?):aK xs i=aK ys j:=by unfold aK;rw[h]
def SegS(LT:Keyed->Keyed->Bool)(xs:Array Keyed)(lo m:Nat):Prop:=∀i j,i<j->j<m->leK LT (aK xs (lo+i)) (aK xs (lo+j))
structure SB(kd:SortKind)(a₀:Array Keyed)(lo:Nat)(st0 st:SortSt):Prop where
 pm:(arrOf st).Perm a₀
 kd:kindOf st=kd
 fa:failedOf st=none
 pe:pendingOf st=pendingOf st0
 lw:∀i,i<lo->(arrOf st)[i]?=(arrOf st0)[i]?
def SB.size{kd:SortKind}{a₀:Array Keyed}{lo:Nat}{a0 st:SortSt}(h:SB kd a₀ lo a0 st):(arrOf st).size=a₀.size:=h.pm.size_eq
def SB.put{kd:SortKind}{a₀:Array Keyed}{lo:Nat}{a0 st:SortSt}(h:SB kd a₀ lo a0 st){xs:Array Keyed}(hp:xs.Perm (arrOf st))(hl:∀i,i<lo->xs[i]?=(arrOf st)[i]?):SB kd a₀ lo a0 (setArr st xs):=
 ⟨hp.trans h.pm,h.kd,h.fa,h.pe,fun i hi=>(hl i hi).trans (h.lw i hi)⟩
def ys9{xs:Array Keyed}{src d:Nat}(hs:src<xs.size)(hd:d<=src)(k:Nat):
  aK (bubble xs src d) k=if k=src-d then aK xs src else if src-d<k/\k<=src then aK xs (k-1) else aK xs k:=by
 have e:=getElem?_bubble hs d hd k
 by_cases h1:k=src-d
 .rw[vd3 h1]at e ⊢;exact zs9 e
 .rw[vd0 h1]at e ⊢
  by_cases h2:src-d<k/\k<=src
  .rw[vd3 h2]at e ⊢;exact zs9 e
  .rw[vd0 h2]at e ⊢;exact zs9 e
def yp7{xs:Array Keyed}{i j:Nat}(hj:j<=xs.size)(k:Nat):aK (mirror xs i j ((j-i) / 2)) k=if i<=k/\k<j then aK xs (i+j-1-k) else aK xs k:=by
 have e:=getElem?_mirror_all (i:=i) hj k
 by_cases h1:i<=k/\k<j
 .rw[vd3 h1]at e ⊢;exact zs9 e
 .rw[vd0 h1]at e ⊢;exact zs9 e
section
variable{kd:SortKind}{LT:Keyed->Keyed->Bool}{a₀:Array Keyed}{st0 st:SortSt}{lo:Nat}
def SB.mem(h:SB kd a₀ lo st0 st){i:Nat}(hi:i<a₀.size):aK (arrOf st) i∈a₀.toList:=by
 have e:=zv6 (xs:=arrOf st) (i:=i) (by rw[h.size];exact hi);have:aK (arrOf st) i∈(arrOf st).toList:=by
  obtain⟨h1,h2⟩:=Array.getElem?_eq_some_iff.mp e;rw[<-h2];simp
 exact(vm9.mp h.pm).mem_iff.mp this
def yc3(C:Cmp (model prog w) A E s kd (·∈a₀.toList) LT){i j:Nat}{Q:Option Bool->SortSt->Prop}(h:SB kd a₀ lo st0 st)(hi:i<a₀.size)(hj:j<a₀.size)(q:Q (some (LT (aK (arrOf st) i) (aK (arrOf st) j))) st):wpS (model prog w) A E s (ltAt' i j) Q st:=by
 rw[ltAt'_eq];refine vc3 (uc6 ?_);show wpS _ _ _ _ (do let x <-elem' (arrOf st) i;let y <-elem' (arrOf st) j;lt' x y) Q st;rw[elem'_eq,elem'_eq,zv6 (by rw[h.size];exact hi),zv6 (by rw[h.size];exact hj)];exact vc3 (vc8 (vc3 (vc8 (C.lt (h.mem hi) (h.mem hj) h.kd q))))
def bin_ok(C:Cmp (model prog w) A E s kd (·∈a₀.toList) LT){n ok:Nat}{Q:Bool->SortSt->Prop}(hn:lo+n<=a₀.size)(hok:ok<=n)(hB:SB kd a₀ lo st0 st)(hs:SegS LT (arrOf st) lo ok)
  (h:∀a1,SB kd a₀ lo st0 a1->SegS LT (arrOf a1) lo n->Q true a1):wpS (model prog w) A E s (binarySort' lo n ok) Q st:=by
 rw[binarySort'_eq];refine vc3 (vx5 (vk3 (I:=fun k c a1=>c=(none,())/\SB kd a₀ lo st0 a1/\SegS LT (arrOf a1) lo (min k n))
  (Q:=fun c a1=>c=(none,())/\SB kd a₀ lo st0 a1/\SegS LT (arrOf a1) lo n) ?step ?fin ?init) ?post)
 case post=>
  rintro c a1 ⟨rfl,a3,a2⟩;exact vc8 (h a1 a3 a2)
 case init=>
  refine⟨rfl,hB,fun i j a7 hj=>?_⟩;exact hs i j a7 (by lia)
 case fin=>
  rintro c a1 ⟨hc,a3,a2⟩;exists hc,a3;rwa [show min (max (max ok 1) n) n=n by lia]at a2
 case step=>
  rintro k c a1 ad ae ⟨rfl,a3,a2⟩;rw[show min k n=k by lia]at a2;have hk:lo+k<a₀.size:=by lia
  refine vc3 (vx5 (vk3 (I:=fun x c a0=>a0=a1/\∃l r,c=(none,l,r)/\l<=r/\r<=k/\r-l<=k-x/\
    (∀i,i<l->leK LT (aK (arrOf a1) (lo+i)) (aK (arrOf a1) (lo+k)))/\(∀i,r<=i->i<k->LT (aK (arrOf a1) (lo+k)) (aK (arrOf a1) (lo+i))=true))
   (Q:=fun c a0=>a0=a1/\∃l r,c=(none,l,r)/\l<=k/\
    (∀i,i<l->leK LT (aK (arrOf a1) (lo+i)) (aK (arrOf a1) (lo+k)))/\(∀i,l<=i->i<k->LT (aK (arrOf a1) (lo+k)) (aK (arrOf a1) (lo+i))=true)) ?istep ?ifin ?iinit) ?ipost)
  case iinit=>exact⟨rfl,0,k,rfl,by lia,by lia,by lia,fun i hi=>by lia,fun i h1 h2=>by lia⟩
  case ifin=>
   rintro c a0 ⟨rfl,l,r,rfl,aa,a8,hm,a4,a5⟩;have:l=r:=by lia
   subst this;exact⟨rfl,l,l,rfl,a8,a4,a5⟩
  case istep=>
   rintro x c a0 _ ab ⟨rfl,l,r,rfl,aa,a8,hm,a4,a5⟩;dsimp only
   by_cases a9:l≥r
   .rw[vd3 a9];have:l=r:=by lia
    subst this;exact vc8 ⟨rfl,l,l,rfl,a8,a4,a5⟩
   .rw[vd0 a9];refine vc3 (yc3 C a3 hk (by lia) ?_);cases hless:LT (aK (arrOf a0) (lo+k)) (aK (arrOf a0) (lo+(l+r) / 2))
    case true=>
     simp only[if_true];refine vc8 ⟨rfl,l,(l+r) / 2,rfl,by lia,by lia,by lia,a4,fun i h1 h2=>?_⟩;rcases vg9 h1 with e | e
     .rw[<-e];exact hless
     .cases hc:LT (aK (arrOf a0) (lo+k)) (aK (arrOf a0) (lo+i))with
      | true=>rfl
      | false=>
       have:=C.tr _ _ _ (a2 _ _ e h2) hc;rw[this]at hless;cases hless
    case false=>
     simp only[vj6,vp8];refine vc8 ⟨rfl,(l+r) / 2+1,r,rfl,by lia,by lia,by lia,fun i h1=>?_,a5⟩;rcases vg9 (show i<=(l+r) / 2 by lia)with e | e
     .rw[e];exact hless
     .exact C.tr _ _ _ (a2 i _ e (by lia)) hless
  case ipost=>
   rintro c a0 ⟨rfl,l,r,rfl,ac,a4,a5⟩;show wpS _ _ _ _ (do moveDown' (lo+k) (lo+l);pure (ForInStep.yield (none,()))) _ _;rw[moveDown'_eq];have a6:lo+k<(arrOf a0).size:=by rw[a3.size];exact hk
   refine vc3 (uc5 (vc8 ⟨rfl,a3.put (bubble_perm _ _ _) fun i hi=>?_,?_⟩))
   .rw[getElem?_bubble a6 _ (by lia),vd0 (by lia),vd0 (by lia)]
   rw[show min (k+1) n=k+1 by lia];intro i j a7 hj;show leK LT (aK (bubble (arrOf a0) (lo+k) (lo+k-(lo+l))) (lo+i)) (aK (bubble (arrOf a0) (lo+k) (lo+k-(lo+l))) (lo+j));rw[ys9 a6 (by lia),ys9 a6 (by lia),show lo+k-(lo+k-(lo+l))=lo+l by lia]
   by_cases i1:lo+i=lo+l
   .rw[vd3 i1,vd0 (by lia),vd3 (by lia)];rw[show lo+j-1=lo+(j-1) by lia];exact C.as _ _ (a5 (j-1) (by lia) (by lia))
   .rw[vd0 i1]
    by_cases i2:lo+l<lo+i/\lo+i<=lo+k
    .rw[vd3 i2,vd0 (by lia),vd3 (by lia),show lo+i-1=lo+(i-1) by lia,show lo+j-1=lo+(j-1) by lia];exact a2 _ _ (by lia) (by lia)
    .rw[vd0 i2]
     by_cases j1:lo+j=lo+l
     .rw[vd3 j1];exact a4 i (by lia)
     .rw[vd0 j1]
      by_cases j2:lo+l<lo+j/\lo+j<=lo+k
      .rw[vd3 j2,show lo+j-1=lo+(j-1) by lia];rcases vg9 (show i<=j-1 by lia)with e | e
       .exfalso;lia
       .exact a2 _ _ e (by lia)
      .rw[vd0 j2];exact a2 _ _ a7 (by lia)
end
section
variable{kd:SortKind}{LT:Keyed->Keyed->Bool}{a₀:Array Keyed}{st0 st:SortSt}{lo:Nat}
def Unl(LT:Keyed->Keyed->Bool)(l:List Keyed):Prop:=l.Pairwise fun x y=>LT x y=true\/LT y x=true
def SB.unl(h:SB kd a₀ lo st0 st)(u:Unl LT a₀.toList){i j:Nat}(a0:i<j)(hj:j<a₀.size):LT (aK (arrOf st) i) (aK (arrOf st) j)=true\/LT (aK (arrOf st) j) (aK (arrOf st) i)=true:=by
 have u2:Unl LT (arrOf st).toList:=(List.Perm.pairwise_iff (fun {x y} h=>h.symm) (vm9.mp h.pm)).mpr u;have e1:=zv6 (xs:=arrOf st) (i:=i) (by rw[h.size];lia);have e2:=zv6 (xs:=arrOf st) (i:=j) (by rw[h.size];lia);exact zp1 (le:=fun x y=>LT x y=true\/LT y x=true) u2 a0 (by simpa using e1) (by simpa using e2)
def wh8(C:Cmp (model prog w) A E s kd (·∈a₀.toList) LT){nrem n0:Nat}{Q:(Option (Option Nat)×Nat)->SortSt->Prop}(hn:lo+nrem<=a₀.size)(h1:1<=n0)(h2:n0<=nrem)(hB:SB kd a₀ lo st0 st)(hs:SegS LT (arrOf st) lo n0)
  (h:∀n,n0<=n->n<=nrem->SegS LT (arrOf st) lo n->(n=nrem\/LT (aK (arrOf st) (lo+n)) (aK (arrOf st) (lo+n-1))=true)->Q (none,n) st):
  wpS (model prog w) A E s (forIn [n0:nrem] ((none:Option (Option Nat)),n0) fun _ c=>ltAt' (lo+c.2) (lo+c.2-1) >>= fun r=>match r with
   | some smaller=>if smaller=true then pure (ForInStep.done (none,c.2)) else pure (ForInStep.yield (none,c.2+1))
   | _=>pure (ForInStep.done (some none,c.2))) Q st:=by
 refine vk3 (I:=fun x c a0=>st=a0/\c=(none,x)/\n0<=x/\x<=nrem/\SegS LT (arrOf st) lo x) ?_ ?_ ⟨rfl,rfl,wz6 _,h2,hs⟩
 .rintro x c _ _ hx ⟨rfl,rfl,g1,g2,g3⟩;dsimp only;refine vc3 (yc3 C hB (by lia) (by lia) ?_);cases hb:LT (aK (arrOf st) (lo+x)) (aK (arrOf st) (lo+x-1))with
  | true=>
   dsimp only;rw[vd3 rfl];exact vc8 (h x g1 g2 g3 (.inr hb))
  | false=>
   dsimp only;rw[vd0 vb6];refine vc8 ⟨rfl,rfl,by lia,by lia,fun i j a1 hj=>?_⟩;rcases vq1 j x with hjx | hjx
   .exact g3 i j a1 hjx
   .have ej:j=x:=by lia
    subst ej;rw[show lo+j-1=lo+(j-1) by lia]at hb;rcases vg9 (show i<=j-1 by lia)with e | e
    .rw[e];exact hb
    .exact C.tr _ _ _ (g3 i (j-1) e (by lia)) hb
 .rintro c _ ⟨rfl,rfl,g1,g2,g3⟩;have e:max n0 nrem=nrem:=by lia
  rw[e]at g3 ⊢;exact h nrem h2 (wz6 _) g3 (.inl rfl)
def run_ok(C:Cmp (model prog w) A E s kd (·∈a₀.toList) LT)(u:Unl LT a₀.toList){nrem:Nat}{Q:Option Nat->SortSt->Prop}(hn:lo+nrem<=a₀.size)(h1:1<=nrem)(hB:SB kd a₀ lo st0 st)
  (h:∀m a0,SB kd a₀ lo st0 a0->1<=m->m<=nrem->SegS LT (arrOf a0) lo m->Q (some m) a0):wpS (model prog w) A E s (countRun' lo nrem) Q st:=by
 rw[countRun'_eq];refine vc3 (wh8 C hn (wz6 1) h1 hB (fun i j a1 hj=>by lia) fun n g1 g2 g3 g4=>?_);dsimp only
 by_cases c1:n=nrem
 .rw[vd3 (by rw[c1];exact vr3 _)];exact vc8 (h n st hB g1 g2 g3)
 rw[vd0 (by intro z;exact c1 (vd6.mp z))];have a4:LT (aK (arrOf st) (lo+n)) (aK (arrOf st) (lo+n-1))=true:=g4.resolve_left c1
 by_cases c2:n > 1
 .rw[vd3 c2];refine vc3 (yc3 C hB (by lia) (by lia) ?_);have e:LT (aK (arrOf st) lo) (aK (arrOf st) (lo+n-1))=true:=by
   have a3:=g3 0 (n-1) (by lia) (by lia);rw[Nat.add_zero,show lo+(n-1)=lo+n-1 by lia]at a3;rcases hB.unl u (show lo<lo+n-1 by lia) (by lia)with e | e
   .exact e
   .rw[a3]at e;cases e
  rw[e];dsimp only;rw[vd3 rfl];exact vc8 (h n st hB g1 g2 g3)
 rw[vd0 c2];have en:n=1:=by lia
 subst en;refine vc3 (wpS_lift (vp2 ⟨rfl,?_⟩));rw[Nat.add_sub_cancel]at a4;refine vc3 (vx5 (vk3 (I:=fun x c a0=>st=a0/\c=(none,x,0)/\2<=x/\x<=nrem/\∀i j,i<j->j<x->LT (aK (arrOf st) (lo+j)) (aK (arrOf st) (lo+i))=true)
  (Q:=fun c a0=>st=a0/\∃n,c=(none,n,0)/\2<=n/\n<=nrem/\∀i j,i<j->j<n->LT (aK (arrOf st) (lo+j)) (aK (arrOf st) (lo+i))=true) ?step ?fin ?init) ?post)
 case init=>
  refine⟨rfl,rfl,wz6 _,by lia,fun i j a1 hj=>?_⟩;have ei:i=0:=by lia
  have ej:j=1:=by lia
  subst ei ej;exact a4
 case fin=>
  rintro c _ ⟨rfl,rfl,f1,f2,f3⟩;exact⟨rfl,_,rfl,f1,f2,f3⟩
 case step=>
  rintro x c _ _ hx ⟨rfl,rfl,f1,f2,f3⟩;dsimp only;refine vc3 (yc3 C hB (by lia) (by lia) ?_);cases hb:LT (aK (arrOf st) (lo+x)) (aK (arrOf st) (lo+x-1))with
  | true=>
   dsimp only;rw[vd3 rfl,vd0 (by decide)];refine vc8 ⟨rfl,rfl,by lia,by lia,fun i j a1 hj=>?_⟩;rcases vq1 j x with hjx | hjx
   .exact f3 i j a1 hjx
   .have ej:j=x:=by lia
    subst ej;rw[show lo+j-1=lo+(j-1) by lia]at hb;rcases vg9 (show i<=j-1 by lia)with e | e
    .rw[e];exact hb
    .have h3:=f3 i (j-1) e (by lia);cases hc:LT (aK (arrOf st) (lo+j)) (aK (arrOf st) (lo+i))with
     | true=>rfl
     | false=>
      have:=C.tr _ _ _ hc (C.as _ _ hb);rw[this]at h3;cases h3
  | false=>
   dsimp only;rw[vd0 vb6];refine vc3 (yc3 C hB (by lia) (by lia) ?_);have e:LT (aK (arrOf st) (lo+x-1)) (aK (arrOf st) (lo+x))=true:=by
    rcases hB.unl u (show lo+x-1<lo+x by lia) (by lia)with e | e
    .exact e
    .rw[hb]at e;cases e
   rw[e];dsimp only;rw[vd3 rfl];exact vc8 ⟨rfl,_,rfl,f1,f2,f3⟩
 case post=>
  rintro c _ ⟨rfl,n,rfl,f1,f2,f3⟩;dsimp only;rw[vd0 (by decide)];rw[reverseSlice'_eq];have hsz:lo+n<=(arrOf st).size:=by rw[hB.size];lia
  refine vc3 (uc5 ?_);have a2:SB kd a₀ lo st0 (setArr st (mirror (arrOf st) lo (lo+n) ((lo+n-lo) / 2))):=hB.put (mirror_perm _ _ _ _) fun i hi=>by rw[getElem?_mirror_all hsz,vd0 (by lia)]
  have a5:SegS LT (arrOf (setArr st (mirror (arrOf st) lo (lo+n) ((lo+n-lo) / 2)))) lo n:=by
   intro i j a1 hj;show leK LT (aK (mirror (arrOf st) lo (lo+n) ((lo+n-lo) / 2)) (lo+i)) (aK (mirror (arrOf st) lo (lo+n) ((lo+n-lo) / 2)) (lo+j));rw[yp7 hsz,yp7 hsz,vd3 (by lia),vd3 (by lia),show lo+(lo+n)-1-(lo+i)=lo+(n-1-i) by lia,show lo+(lo+n)-1-(lo+j)=lo+(n-1-j) by lia];exact C.as _ _ (f3 (n-1-j) (n-1-i) (by lia) (by lia))
  refine vc3 (wh8 C hn (by lia) f2 a2 a5 fun m k1 k2 k3 k4=>?_);exact vc8 (h m _ a2 (by lia) k2 k3)
end
def xd4{α:Type}:∀(ms:List α)(i o:Nat)(a0:Array α),o+i+↑ms<=a0.size->
  ((ms.zipIdx i).foldl (fun a x=>a.setIfInBounds (o+x.2) x.1) a0).toList=a0.toList.take (o+i)++ms++a0.toList.drop (o+i+↑ms)
 | [],i,o,a0,_=>by simp
 | x::ms,i,o,a0,h=>by
  have hl:o+i<a0.size:=by rw[vc6]at h;lia
  rw[List.zipIdx_cons,List.foldl_cons];have:=xd4 ms (i+1) o (a0.setIfInBounds (o+i) x) (by rw[Array.size_setIfInBounds];rw[vc6]at h;lia);rw[this,Array.toList_setIfInBounds,vc6];have a1:o+i<↑a0.toList:=by rw[vd7];exact hl
  rw[List.take_set,List.drop_set_of_lt (by lia)];have e1:(a0.toList.take (o+(i+1))).set (o+i) x=a0.toList.take (o+i)++[x]:=by
   rw[show o+(i+1)=o+i+1 by lia,vc5,zz2 a1];rw[List.set_append_right _ _ (by rw[vc2];lia)];have e0:o+i-↑(a0.toList.take (o+i))=0:=by rw[vc2];lia
   rw[e0];rfl
  rw[e1,show o+(i+1)+↑ms=o+i+(↑ms+1) by lia,vd8,vd8];simp
def yv6{xs:Array Keyed}{i:Nat}(h:i<xs.size):xs.toList[i]?=some (aK xs i):=by
 have:=zv6 h;simpa using this
def xk4{LT:Keyed->Keyed->Bool}{xs:Array Keyed}{lo n:Nat}(h:SegS LT xs lo n)(hn:lo+n<=xs.size):((xs.toList.drop lo).take n).Pairwise (leK LT):=by
 rw[List.pairwise_iff_getElem];intro i j hi hj a0;rw[vc2,vh2,vd7]at hi hj;rw[vq5,vq5,ub9,ub9];have e1:=yv6 (xs:=xs) (i:=lo+i) (by lia);have e2:=yv6 (xs:=xs) (i:=lo+j) (by lia);rw[zz2 (by rw[vd7];lia)]at e1 e2;have a1:=vf7 e1;have a2:=vf7 e2;rw[a1,a2];exact h i j a0 (by lia)
section
variable{kd:SortKind}{LT:Keyed->Keyed->Bool}{a₀:Array Keyed}{st:SortSt}
def ws5{σ:Type}{M:Model}{st a0:σ}{Q:PUnit->σ->Prop}(h:Q ⟨⟩ a0):wpS M A E s (set a0:StateT σ Sem PUnit) Q st:=by
 unfold wpS;exact wz7 ⟨rfl,h⟩
def mat_ok(C:Cmp (model prog w) A E s kd (·∈a₀.toList) LT){m r pw:Nat}{Q:Bool->SortSt->Prop}(hk:kindOf st=kd)(hf:failedOf st=none)(hp:(arrOf st).Perm a₀)(ah:pendingOf st=#[(0,m,pw),(m,r,0)])(hm:1<=m)(hr:1<=r)(hz:m+r=a₀.size)(s1:SegS LT (arrOf st) 0 m)(s2:SegS LT (arrOf st) m r)
  (h:∀st',(arrOf st').Perm a₀->failedOf st'=none->(pendingOf st').size=1->(arrOf st').toList.Pairwise (leK LT)->Q true st'):wpS (model prog w) A E s (mergeAt' 0) Q st:=by
 have hsz:(arrOf st).size=m+r:=by rw[hp.size_eq];exact hz.symm
 have aa:=vm9.mp hp;have hu:∀x∈(arrOf st).toList,x∈a₀.toList:=fun x hx=>aa.mem_iff.mp hx;have gx:∀i,i<m+r->(arrOf st).toList[i]?=some (aK (arrOf st) i):=fun i hi=>yv6 (by lia)
 have lL:(arrOf st).toList.length=m+r:=by rw[vd7];exact hsz
 have pA:((arrOf st).toList.take m).Pairwise (leK LT):=by have:=xk4 s1 (by lia);rwa [List.drop_zero]at this
 have pB:((arrOf st).toList.drop m).Pairwise (leK LT):=by
  have:=xk4 s2 (by lia);rwa [vb2 (by rw[vh2,lL];lia)]at this
 have a6:∀i j,i<=j->j<m->leK LT (aK (arrOf st) i) (aK (arrOf st) j):=fun i j a3 hj=>by
  rcases vg9 a3 with e | e
  .rw[e];exact xd1 C _
  .have:=s1 i j e hj;rwa [vj8,vj8]at this
 have a5:∀i j,i<=j->j<r->leK LT (aK (arrOf st) (m+i)) (aK (arrOf st) (m+j)):=fun i j a3 hj=>by
  rcases vg9 a3 with e | e
  .rw[e];exact xd1 C _
  .exact s2 i j e hj
 have a4:leK LT (aK (arrOf st) (m-1)) (aK (arrOf st) m)->(arrOf st).toList.Pairwise (leK LT):=fun ai=>by
  rw[<-vg0 m (arrOf st).toList,vh5];refine⟨pA,pB,fun x hx y hy=>?_⟩;obtain⟨t,ht,ex⟩:=zq3 hx;obtain⟨u,ae,ey⟩:=zq4 hy;have a7:u<m+r:=by rw[<-lL];exact(wz2.mp ey).1
  rw[gx t (by lia)]at ex;rw[gx u a7]at ey;cases ex;cases ey;have h2:=a5 0 (u-m) (vc9 _) (by lia);rw[Nat.add_zero,show m+(u-m)=u by lia]at h2;exact C.tr _ _ _ (C.tr _ _ _ (a6 t (m-1) (by lia) (by lia)) ai) h2
 unfold mergeAt' wpS
 wp_delta
 wp_delta
 show wpS (model prog w) A E s (get >>= _) Q st;refine vc3 (uc6 ?_);have a9:(((#[(0,m,pw),(m,r,0)]:Array (Nat×Nat×Nat)).setIfInBounds 0 (0,m+r,pw)).eraseIdxIfInBounds (0+1)).size=1:=by simp[Array.eraseIdxIfInBounds]
 have a2:=ah;unfold pendingOf at a2;rw[a2];refine vc3 (ws5 ?_);refine vc3 (m:=elem' (arrOf st) m) (zd2 (gx m (by lia)) ?_);have um:aK (arrOf st) m∈a₀.toList:=hu _ (vb0 (gx m (by lia)));refine vc3 (m:=gal' false (aK (arrOf st) m) (arrOf st) 0 m 0) (wr5 C hk (by lia) (by lia) hu um (fun i j x y a3 hj hx hy=>?_) fun k aj p1 p2=>?_)
 .rw[vj8,gx _ (by lia)]at hx hy;cases hx;cases hy;exact a6 i j (by lia) hj
 refine zc9 (c:=(m-k == 0)=true) (fun c=>vc8 ?_) (fun c=>?_)
 .have ek:k=m:=by have:=vd6.mp c;lia
  refine h _ hp hf a9 (a4 ?_);have:=p1 (m-1) _ (by lia) (by rw[vj8];exact gx (m-1) (by lia));exact this
 have a8:k<m:=by
  have:¬m-k=0:=fun z=>c (vd6.mpr z);lia
 refine vc3 (m:=elem' (arrOf st) (0+k+(m-k)-1)) (zd2 (gx (0+k+(m-k)-1) (by lia)) ?_);have ue:0+k+(m-k)-1=m-1:=by lia
 rw[ue];have ul:aK (arrOf st) (m-1)∈a₀.toList:=hu _ (vb0 (gx (m-1) (by lia)));refine vc3 (m:=gal' true (aK (arrOf st) (m-1)) (arrOf st) m r (r-1)) (xj5 C hk (by lia) (by lia) hu ul (fun i j x y a3 hj hx hy=>?_) fun b al p3 p4=>?_)
 .rw[gx _ (by lia)]at hx hy;cases hx;cases hy;exact a5 i j (by lia) hj
 refine zc9 (c:=(b == 0)=true) (fun c=>vc8 ?_) (fun c=>?_)
 .have eb:b=0:=vd6.mp c;refine h _ hp hf a9 (a4 ?_);have:=p4 0 _ (by lia) (by lia) (by rw[Nat.add_zero];exact gx m (by lia));exact this
 have ak:1<=b:=by
  have:¬b=0:=fun z=>c (vd6.mpr z);lia
 have eX:((arrOf st).extract (0+k) m).toList=((arrOf st).toList.take m).drop k:=by rw[vj8];exact yb6 _
 have eY:((arrOf st).extract m (m+b)).toList=((arrOf st).toList.drop m).take b:=yn3 _ _ _;have sX:((arrOf st).extract (0+k) m).toList.Pairwise (leK LT):=by rw[eX];exact pA.sublist (vw2 _ _)
 have sY:((arrOf st).extract m (m+b)).toList.Pairwise (leK LT):=by rw[eY];exact pB.sublist (vq2 _ _)
 have zX:((arrOf st).extract (0+k) m).size=m-k:=by rw[<-vd7,eX,vh2,vc2,lL];lia
 have zY:((arrOf st).extract m (m+b)).size=b:=by rw[<-vd7,eY,vc2,vh2,lL];lia
 have uX:∀x∈((arrOf st).extract (0+k) m).toList,x∈a₀.toList:=fun x hx=>hu x (by rw[eX]at hx;exact vk4 (vw8 hx))
 have uY:∀x∈((arrOf st).extract m (m+b)).toList,x∈a₀.toList:=fun x hx=>hu x (by rw[eY]at hx;exact vw8 (vk4 hx))
 have gX:∀{t:Nat}{x:Keyed},((arrOf st).extract (0+k) m).toList[t]?=some x->t<m-k/\x=aK (arrOf st) (k+t):=fun {t x} hx=>by
  have ht:t<m-k:=by rw[<-zX,<-vd7];exact(wz2.mp hx).1
  rw[eX,List.getElem?_drop,List.getElem?_take,vd3 (by lia),gx _ (by lia)]at hx;exact⟨ht,(vf7 hx).symm⟩
 have gY:∀{t:Nat}{x:Keyed},((arrOf st).extract m (m+b)).toList[t]?=some x->t<b/\x=aK (arrOf st) (m+t):=fun {t x} hx=>by
  have ht:t<b:=by rw[<-zY,<-vd7];exact(wz2.mp hx).1
  rw[eY,List.getElem?_take,vd3 ht,List.getElem?_drop,gx _ (by lia)]at hx;exact⟨ht,(vf7 hx).symm⟩
 have hF:∀y x,((arrOf st).extract m (m+b)).toList[0]?=some y->((arrOf st).extract (0+k) m).toList[0]?=some x->LT y x=true:=fun y x hy hx=>by
  obtain⟨_,rfl⟩:=gX hx;obtain⟨_,rfl⟩:=gY hy;exact p2 k _ (wz6 _) a8 (by rw[vj8];exact gx k (by lia))
 have hL:∀y∈((arrOf st).extract m (m+b)).toList,∀x,((arrOf st).extract (0+k) m).toList[((arrOf st).extract (0+k) m).size-1]?=some x->leK LT y x:=fun y hy x hx=>by
  obtain⟨h1,rfl⟩:=gX hx;obtain⟨t,ht,ey⟩:=vf8 hy;obtain⟨h2,rfl⟩:=gY (t:=t) (by rw[zz2 ht,ey]);rw[zX,show k+(m-k-1)=m-1 by lia];exact C.as _ _ (p3 t _ h2 (gx (m+t) (by lia)))
 have ag:∀(mg:Array Keyed)(a0:SortSt),Mrg LT ((arrOf st).extract (0+k) m) ((arrOf st).extract m (m+b)) mg->arrOf a0=arrOf st->
   ((mg.toList.zipIdx).foldl (fun a x=>a.setIfInBounds (0+k+x.2) x.1) (arrOf a0)).Perm a₀/\((mg.toList.zipIdx).foldl (fun a x=>a.setIfInBounds (0+k+x.2) x.1) (arrOf a0)).toList.Pairwise (leK LT):=fun mg a0 a1 ha=>by
  rw[ha];obtain⟨m1,m2⟩:=a1;have zm:↑mg.toList=m-k+b:=by
   rw[m1.length_eq,wz4,vd7,vd7,zX,zY]
  have e:=xd4 mg.toList 0 (0+k) (arrOf st) (by rw[zm];lia);rw[Nat.add_zero,vj8,zm,show k+(m-k+b)=m+b by lia]at e;rw[vj8];have eL:(arrOf st).toList=(arrOf st).toList.take k++(((arrOf st).toList.take m).drop k++((arrOf st).toList.drop m).take b)++(arrOf st).toList.drop (m+b):=by
   rw[vd8,vd8,<-zw6,<-vd8,<-zq7 _ (by lia:k<=m),vg0]
  exists ?_
  .rw[vm9,e];refine List.Perm.trans ?_ aa
   conv=>rhs;rw[eL]
   refine List.Perm.append_right _ (vp0 _ ?_);rw[<-eX,<-eY];exact m1
  .rw[e,vh5,vh5];have ac:∀y∈mg.toList,(∃t,k<=t/\t<m/\y=aK (arrOf st) t)\/∃t,t<b/\y=aK (arrOf st) (m+t):=fun y hy=>by
    rcases vc4.mp (m1.mem_iff.mp hy)with hy | hy
    .obtain⟨t,ht,ey⟩:=vf8 hy;obtain⟨h2,e2⟩:=gX (t:=t) (by rw[zz2 ht,ey]);exact .inl ⟨k+t,by lia,by lia,e2⟩
    .obtain⟨t,ht,ey⟩:=vf8 hy;obtain⟨h2,e2⟩:=gY (t:=t) (by rw[zz2 ht,ey]);exact .inr ⟨t,h2,e2⟩
   have ab:∀x∈(arrOf st).toList.take k,∃t,t<k/\x=aK (arrOf st) t:=fun x hx=>by
    obtain⟨t,ht,ex⟩:=zq3 hx;rw[gx t (by lia)]at ex;exact⟨t,ht,(vf7 ex).symm⟩
   have af:∀x∈(arrOf st).toList.drop (m+b),∃t,b<=t/\t<r/\x=aK (arrOf st) (m+t):=fun x hx=>by
    obtain⟨t,ht,ex⟩:=zq4 hx;have a7:t<m+r:=by rw[<-lL];exact(wz2.mp ex).1
    rw[gx t a7]at ex;exact⟨t-m,by lia,by lia,by rw[show m+(t-m)=t by lia];exact(vf7 ex).symm⟩
   have ad:∀t,t<k->leK LT (aK (arrOf st) t) (aK (arrOf st) m):=fun t ht=>p1 t _ ht (by rw[vj8];exact gx t (by lia))
   have b0:∀t,t<r->leK LT (aK (arrOf st) m) (aK (arrOf st) (m+t)):=fun t ht=>a5 0 t (vc9 _) ht;have zA:∀t,b<=t->t<r->leK LT (aK (arrOf st) (m-1)) (aK (arrOf st) (m+t)):=fun t h1 h2=>p4 t _ h1 h2 (gx (m+t) (by lia))
   refine⟨⟨pA.sublist ?_,m2,fun x hx y hy=>?_⟩,pB.sublist ?_,fun x hx y hy=>?_⟩
   .have e9:(arrOf st).toList.take k=((arrOf st).toList.take m).take k:=by rw[List.take_take,vv9 (by lia)]
    rw[e9];exact vq2 _ _
   .obtain⟨t,ht,rfl⟩:=ab x hx;rcases ac y hy with ⟨u,h1,h2,rfl⟩ | ⟨u,h1,rfl⟩
    .exact a6 t u (by lia) h2
    .exact C.tr _ _ _ (ad t ht) (b0 u (by lia))
   .rw[<-List.drop_drop];exact vw2 _ _
   .obtain⟨t,h1,h2,rfl⟩:=af y hy;rcases vc4.mp hx with hx | hx
    .obtain⟨u,ae,rfl⟩:=ab x hx;exact C.tr _ _ _ (ad u ae) (b0 t h2)
    .rcases ac x hx with ⟨u,h3,h4,rfl⟩ | ⟨u,h3,rfl⟩
     .exact C.tr _ _ _ (a6 u (m-1) (by lia) (by lia)) (zA t h1 h2)
     .exact a5 u t (by lia) h2
 have last:∀(mg:Array Keyed)(a0:SortSt),Mrg LT ((arrOf st).extract (0+k) m) ((arrOf st).extract m (m+b)) mg->SameG (setPending st (((#[(0,m,pw),(m,r,0)]:Array (Nat×Nat×Nat)).setIfInBounds 0 (0,m+r,pw)).eraseIdxIfInBounds (0+1))) a0->
   Q (failedOf a0).isNone (setArr a0 ((mg.toList.zipIdx).foldl (fun a x=>a.setIfInBounds (0+k+x.2) x.1) (arrOf a0))):=fun mg a0 a1 hs=>by
  obtain⟨q1,q2⟩:=ag mg a0 a1 hs.ar;have ef:failedOf a0=none:=hs.fa.trans hf;rw[ef];refine h _ q1 ef ?_ q2;show(pendingOf a0).size=1;rw[hs.pe];exact a9
 refine zc9 (fun _=>?_) (fun _=>?_)
 .refine vc3 (m:=mlo' ((arrOf st).extract (0+k) m) ((arrOf st).extract m (m+b))) (mlo_ok C hk uX uY sX sY (by rw[zX];lia) (by rw[zY];lia) hF hL fun mg a0 a1 hs=>?_);exact vc3 (uc5 (vc3 (uc6 (vc8 (last mg a0 a1 hs)))))
 .refine vc3 (m:=mhi' ((arrOf st).extract (0+k) m) ((arrOf st).extract m (m+b))) (mhi_ok C hk uX uY sX sY (by rw[zX];lia) (by rw[zY];lia) hF hL fun mg a0 a1 hs=>?_);exact vc3 (uc5 (vc3 (uc6 (vc8 (last mg a0 a1 hs)))))
end
def xr2{n:Nat}(h:2<=n)(h2:n<128):∃m,minRun' n n 0=m/\1<=m/\m<=n/\n<=2*m:=by
 exists _,rfl;obtain⟨f,rfl⟩:∃f,n=f+1+1:=⟨n-2,by lia⟩;rw[minRun'_succ]
 by_cases c:f+1+1<64
 .rw[vd3 c];lia
 .rw[vd0 c,minRun'_succ,vd3 (by lia)];have:max 0 ((f+1+1) % 2)=(f+1+1) % 2:=by lia
  rw[this];lia
section
variable{kd:SortKind}{LT:Keyed->Keyed->Bool}{a₀:Array Keyed}{st:SortSt}
inductive Rn(LT:Keyed->Keyed->Bool)(n mr lo:Nat)(st:SortSt):Prop
 | zero:lo=0->pendingOf st=#[]->Rn LT n mr lo st
 | one (p:Nat):1<=lo->lo<=n->(lo=n\/mr<=lo)->pendingOf st=#[(0,lo,p)]->SegS LT (arrOf st) 0 lo->Rn LT n mr lo st
 | two (m r p:Nat):lo=n->m+r=n->1<=m->1<=r->pendingOf st=#[(0,m,p),(m,r,0)]->SegS LT (arrOf st) 0 m->SegS LT (arrOf st) m r->Rn LT n mr lo st
def SegS.low{a b:Array Keyed}{m:Nat}(h:SegS LT a 0 m)(e:∀i,i<m->b[i]?=a[i]?):SegS LT b 0 m:=by
 intro i j a0 hj;have e1:aK b (0+i)=aK a (0+i):=by unfold aK;rw[e (0+i) (by lia)]
 have e2:aK b (0+j)=aK a (0+j):=by unfold aK;rw[e (0+j) (by lia)]
 rw[e1,e2];exact h i j a0 hj
def wp1(C:Cmp (model prog w) A E s kd (·∈a₀.toList) LT)(u:Unl LT a₀.toList){Q:Unit->SortSt->Prop}(hk:kindOf st=kd)(hf:failedOf st=none)(hp:(arrOf st).Perm a₀)(a8:pendingOf st=#[])(h2:2<=a₀.size)(a6:a₀.size<128)
  (h:∀a1,(arrOf a1).Perm a₀->failedOf a1=none->(arrOf a1).toList.Pairwise (leK LT)->Q () a1):wpS (model prog w) A E s sortRuns' Q st:=by
 rw[sortRuns'_eq];refine vc3 (uc6 ?_);have hsz:(arrOf st).size=a₀.size:=hp.size_eq;obtain⟨mr,a7,m1,m2,m3⟩:=xr2 h2 a6;dsimp only;rw[hsz,a7];refine vc3 (vx5 (vk3 (I:=fun x c a1=>∃lo,c=(none,lo)/\x<=lo/\lo<=a₀.size/\kindOf a1=kd/\failedOf a1=none/\(arrOf a1).Perm a₀/\Rn LT a₀.size mr lo a1)
  (Q:=fun c a1=>c=(none,a₀.size)/\kindOf a1=kd/\failedOf a1=none/\(arrOf a1).Perm a₀/\Rn LT a₀.size mr a₀.size a1) ?step ?fin ?init) ?post)
 case init=>exact⟨0,rfl,wz6 _,vc9 _,hk,hf,hp,.zero rfl a8⟩
 case fin=>
  rintro c a1 ⟨lo,rfl,f1,f2,f3,f4,f5,f6⟩;have e:lo=a₀.size:=by lia
  subst e;exact⟨rfl,f3,f4,f5,f6⟩
 case step=>
  rintro x c a1 _ hx ⟨lo,rfl,f1,f2,f3,f4,f5,f6⟩;dsimp only
  by_cases c0:lo≥a₀.size
  .rw[vd3 c0];have e:lo=a₀.size:=by lia
   subst e;exact vc8 ⟨rfl,f3,f4,f5,f6⟩
  rw[vd0 c0];have hB:SB kd a₀ lo a1 a1:=⟨f5,f3,f4,rfl,fun _ _=>rfl⟩;refine vc3 (run_ok C u (nrem:=a₀.size-lo) (by lia) (by lia) hB fun n a3 a2 k1 k2 k4=>?_);dsimp only;refine zc9 (fun c1=>vc3 (wpS_lift (vp2 ⟨rfl,?g1⟩))) (fun c1=>?g2)
  case' g1=>
   have a4:min (a₀.size-lo) mr<=a₀.size-lo:=Nat.min_le_left _ _;refine vc3 (bin_ok C (n:=min (a₀.size-lo) mr) (by lia) (by lia) a2 k4 fun a3 a2 k4=>?_);rw[vd0 (by decide)];have k3:min (a₀.size-lo) mr=a₀.size-lo\/mr<=min (a₀.size-lo) mr:=by lia
   have k1:1<=min (a₀.size-lo) mr:=by lia
   have k2:min (a₀.size-lo) mr<=a₀.size-lo:=a4;generalize min (a₀.size-lo) mr=n at *
  case' g2=>
   have k3:n=a₀.size-lo\/mr<=n:=by lia
  all_goals
   refine vc3 (uc6 ?_);have ep:=a2.pe;cases f6 with
   | zero el el2=>
    subst el;rw[el2]at ep;rw[ep];refine vc3 (uc5 (vc8 ⟨0+n,rfl,by lia,by lia,a2.kd,a2.fa,a2.pm,(.one 0 (by lia) (by lia) (by lia) ?_ ?_)⟩))
    .show(pendingOf a3).push (0,n,0)=_;rw[ep,vj8];rfl
    .rw[vj8];exact k4
   | one p q1 q2 q3 q4 q5=>
    have en:n=a₀.size-lo:=by lia
    rw[q4]at ep;rw[ep];have eb:(#[(0,lo,p)]:Array (Nat×Nat×Nat)).back?=some (0,lo,p):=rfl;rw[eb];refine vc3 (vx5 (vk3 (I:=fun x c a0=>a3=a0/\c=(none,())) (Q:=fun c a0=>a3=a0/\c=(none,())) ?_ ?_ ⟨rfl,rfl⟩) ?_)
    .rintro x c _ _ hx ⟨rfl,rfl⟩;refine vc3 (uc6 ?_);rw[ep];exact vc8 ⟨rfl,rfl⟩
    .rintro c _ ⟨rfl,rfl⟩;exact⟨rfl,rfl⟩
    rintro c _ ⟨rfl,rfl⟩;dsimp only;refine vc3 (uc5 (vc3 (uc5 (vc8 ⟨lo+n,rfl,by lia,by lia,a2.kd,a2.fa,a2.pm,(.two lo n (power' a₀.size (2*0+lo) (2*0+lo+lo+n) a₀.size) (by lia) (by lia) (by lia) (by lia) ?_ ?_ ?_)⟩))))
    .show((pendingOf a3).modify ((pendingOf a3).size-1) _).push (lo,n,0)=_;rw[ep];simp[Array.modify,Array.modifyM,Id.run];rfl
    .exact q5.low a2.lw
    .exact k4
   | two m' r p q1=>lia
 case post=>
  rintro c a5 ⟨rfl,f3,f4,f5,f6⟩;dsimp only;cases f6 with
  | zero e=>lia
  | one p q1 q2 q3 q4 q5=>
   refine vc3 (vx5 (vk3 (I:=fun x c a0=>a5=a0/\c=(none,())) (Q:=fun c a0=>a5=a0/\c=(none,())) ?_ ?_ ⟨rfl,rfl⟩) ?_)
   .rintro x c _ _ hx ⟨rfl,rfl⟩;refine vc3 (uc6 ?_);rw[q4];exact vc8 ⟨rfl,rfl⟩
   .rintro c _ ⟨rfl,rfl⟩;exact⟨rfl,rfl⟩
   rintro c _ ⟨rfl,rfl⟩;dsimp only;refine vc8 (h _ f5 f4 ?_);have:=xk4 q5 (by rw[f5.size_eq];lia);rwa [List.drop_zero,vb2 (by rw[vd7,f5.size_eq];exact wz6 _)]at this
  | two m r p q0 q1 q2 q3 q4 q5 q6=>
   refine vc3 (vx5 (vk3 (I:=fun x c a0=>c=(none,())/\(x=0->a5=a0)/\(x≠0->(arrOf a0).Perm a₀/\failedOf a0=none/\(pendingOf a0).size=1/\(arrOf a0).toList.Pairwise (leK LT)))
    (Q:=fun c a0=>c=(none,())/\(arrOf a0).Perm a₀/\failedOf a0=none/\(arrOf a0).toList.Pairwise (leK LT)) ?_ ?_ ⟨rfl,fun _=>rfl,fun z=>absurd rfl z⟩) ?_)
   .rintro x c a3 _ hx ⟨rfl,t1,t2⟩;refine vc3 (uc6 ?_)
    by_cases ex:x=0
    .cases t1 ex;rw[q4];refine zc9 (fun z=>absurd z (show ¬2<=1 by decide)) (fun _=>?_);refine vc3 (m:=mergeAt' 0) (mat_ok C f3 f4 f5 q4 q2 q3 q1 q5 q6 fun a9 k1 k2 k3 k4=>?_);rw[vd0 (by decide)];exact vc8 ⟨rfl,fun z=>by lia,fun _=>⟨k1,k2,k3,k4⟩⟩
    .obtain⟨k1,k2,k3,k4⟩:=t2 ex;refine zc9 (fun _=>vc8 ⟨rfl,k1,k2,k4⟩) (fun z=>absurd (by rw[k3];exact wz6 _) z)
   .rintro c a3 ⟨rfl,t1,t2⟩;obtain⟨k1,k2,k3,k4⟩:=t2 (by lia);exact⟨rfl,k1,k2,k4⟩
   rintro c a3 ⟨rfl,k1,k2,k4⟩;dsimp only;exact vc8 (h _ k1 k2 k4)
end
def pw_lt2{α:Type}{R:α->α->Prop}:∀{l:List α},↑l<2->l.Pairwise R
 | [],_=>.nil
 | [_],_=>List.pairwise_singleton _ _
 | _::_::_,h=>by simp at h;lia
section
variable{kd:SortKind}{LT:Keyed->Keyed->Bool}
def zn8(h:Heap)(a:Addr)(vs:List Value):Heap:=((h.update a (Obj.mapSeq fun _=>#[])).push (seqObj "tuple" vs.toArray 0)).push (seqObj "list" #[] 0)
def wf1{a:Addr}{vs:List Value}{n:Nat}{P:PySem.Fin->Shared->Prop}(ho:s.heap.get? a=some (seqObj "list" vs.toArray n))(hl:↑vs<128)
  (a5:2<=↑vs->∀Q:SortKind->Shared->Prop,Q kd {s with heap:=zn8 s.heap a vs}->wpAny (model prog w) A (keyKind' vs.toArray) Q E {s with heap:=zn8 s.heap a vs})
  (C:Cmp (model prog w) A E {s with heap:=zn8 s.heap a vs} kd (·∈(pairsOf vs).toList) LT) (u:Unl LT (pairsOf vs).toList)
  (h:∀out:Array Keyed,out.Perm (pairsOf vs)->out.toList.Pairwise (leK LT)->P (.done (.ret .none)) {s with heap:=sortedHeap s.heap a vs (out.map (·.2))}):
  wpAny (model prog w) A (Builtin.«list.sort» {pos:=[.ref a]}) P E s:=by
 rw[list_sort_plain];have ha:=vb1 ho;have hv:vs.toArray.size<=sizeLine:=by rw[vs7,vc0];lia
 refine zz1 (listItems_at ho rfl (zz1 (listUpdate_at ho rfl ?_ hv (vc9 _))));obtain⟨e1,a1⟩:∃e,(s.heap.update a (Obj.mapSeq fun _=>#[])).get? a=some (seqObj "list" #[] e):=⟨_,get?_update_seq ho fun _=>#[]⟩;refine zz1 (seqEpoch_at a1 rfl (zz1 (wpAny_newTuple (zz1 (wpAny_newList (vg8 ?_))))));have a2:(zn8 s.heap a vs).get? a=some (seqObj "list" #[] e1):=by
  unfold zn8;rw[Heap.get?_push_ne _ _ _ (by rw[size_push',Heap.size_update];exact vb7 (Nat.lt_succ_of_lt ha)),Heap.get?_push_ne _ _ _ (by rw[Heap.size_update];exact vb7 ha)];exact a1
 have a3:∀(mm:Sem PySem.Fin)(st:SortSt),failedOf st=none->(arrOf st).Perm (pairsOf vs)->(arrOf st).toList.Pairwise (leK LT)->
   wpAny (model prog w) A (seqEpoch a >>= fun l=>Builtin.List.listUpdate (.ref a) (fun _=>(arrOf st).map (·.2)) >>= fun _=>if (l != e1)=true then mm else ret Value.none) P E {s with heap:=zn8 s.heap a vs}:=fun mm st h1 h2 h3=>by
  refine zz1 (seqEpoch_at a2 rfl (zz1 (listUpdate_at a2 rfl ?_ (vc9 _) ?_)))
  .simp only[bne_self_eq_false,vj6,vp8];exact wz7 (h _ h2 h3)
  .rw[Array.size_map,h2.size_eq,pairsOf_size,vs7];lia
 dsimp only
 by_cases h2:vs.toArray.size<2
 .rw[vd3 h2,vd3 h2];refine zz1 (wz7 ?_);rw[StateT.run_pure];refine zz1 (wz7 ?_);refine a3 _ (SortSt.mk' general' (pairsOf vs) #[] 7 none) rfl (Array.Perm.refl _) ?_;exact pw_lt2 (by rw[vd7,pairsOf_size];simpa using h2)
 .rw[vd0 h2,vd0 h2];have a4:2<=↑vs:=by simpa using h2
  refine zz1 (a5 a4 _ ?_);refine zz1 ?_;have hz:(pairsOf vs).size=↑vs:=pairsOf_size vs;have:=wp1 (Q:=fun _ a0=>failedOf a0=none/\(arrOf a0).Perm (pairsOf vs)/\(arrOf a0).toList.Pairwise (leK LT)) (st:=SortSt.mk' kd (pairsOf vs) #[] 7 none) C u rfl rfl (Array.Perm.refl _) rfl (by lia) (by lia) fun a0 k1 k2 k3=>⟨k2,k1,k3⟩
  unfold wpS at this;refine vj4 this ?_ (fun _ _ z=>z);rintro⟨⟨⟩,a0⟩ s' ⟨rfl,k2,k1,k3⟩;dsimp only at k1 k2 k3 ⊢;rw[k2];exact a3 _ a0 k2 k1 k3
end
def sLt(a b:Str):Bool:=decide (a.cps.toList<b.cps.toList)
abbrev Pr:=Str×Str
def pLt(x y:Pr):Bool:=if x.1=y.1 then sLt x.2 y.2 else sLt x.1 y.1
def yw2(a:Str):sLt a a=false:=strKind.irrefl _
def xx2(h:sLt a b=true)(g:sLt b c=true):sLt a c=true:=strKind.trans _ _ _ h g
def xt4(h:sLt a b=false)(g:sLt b a=false):a=b:=by
 have:=strKind.total _ _ h g;cases a;cases b;exact vg1 Str.mk (Array.toList_inj.mp this)
def wj3(h:sLt a b=true):sLt b a=false:=by
 cases e:sLt b a with
 | false=>rfl
 | true=>have:=xx2 h e;rw[yw2]at this;cases this
def pLt_as(h:pLt x y=true):pLt y x=false:=by
 unfold pLt at h ⊢
 by_cases e:x.1=y.1
 .rw[vd3 e]at h;rw[vd3 e.symm];exact wj3 h
 .rw[vd0 e]at h;rw[vd0 (fun z=>e z.symm)];exact wj3 h
def pLt_tr(h:pLt x y=true)(g:pLt y z=true):pLt x z=true:=by
 unfold pLt at h g ⊢
 by_cases e:x.1=y.1
 .rw[vd3 e]at h
  by_cases e2:y.1=z.1
  .rw[vd3 e2]at g;rw[vd3 (e.trans e2)];exact xx2 h g
  .rw[vd0 e2]at g;rw[vd0 (fun q=>e2 (e.symm.trans q)),e];exact g
 .rw[vd0 e]at h
  by_cases e2:y.1=z.1
  .rw[vd0 (fun q=>e (q.trans e2.symm)),<-e2];exact h
  .rw[vd0 e2]at g;have k:=xx2 h g
   by_cases e3:x.1=z.1
   .rw[e3,yw2]at k;cases k
   .rw[vd0 e3];exact k
def yt6(h:pLt x y=false)(g:pLt y x=false):x=y:=by
 unfold pLt at h g
 by_cases e:x.1=y.1
 .rw[vd3 e]at h;rw[vd3 e.symm]at g;exact Prod.ext e (xt4 h g)
 .rw[vd0 e]at h;rw[vd0 (fun z=>e z.symm)]at g;exact absurd (xt4 h g) e
def wr3(h:pLt y x=false)(g:pLt z y=false):pLt z x=false:=by
 cases e:pLt z x with
 | false=>rfl
 | true=>
  cases e2:pLt x y with
  | true=>have:=pLt_tr e e2;rw[this]at g;cases g
  | false=>have:=yt6 e2 h;subst this;rw[e]at g;cases g
def IsP(h:Heap)(v:Value)(p:Pr):Prop:=∃a o n t u,v=.ref a/\h.get? a=some o/\o.cls=.type "tuple"/\o.data=.seq #[.str p.1 t,.str p.2 u] n
def IsP.keep(x:IsP h v p)(k:∀b o,h.get? b=some o->h'.get? b=some o):IsP h' v p:=by
 obtain⟨a,o,n,t,u,e,g,c,d⟩:=x;exact⟨a,o,n,t,u,e,k _ _ g,c,d⟩
section
def xj0{dec:Value->Pr}{vs:List Value}{Q:SortKind->Shared->Prop}(hv:∀v∈vs,IsP s.heap v (dec v))(h1:vs≠[])(h:Q (tuples' true) s):wpAny (model prog w) A (keyKind' vs.toArray) Q E s:=by
 have key:∀vs:List Value,(∀v∈vs,IsP s.heap v (dec v))->∃fs:List Value,↑fs=↑vs/\PySem.W.KatTups s.heap vs fs/\∀v∈fs,∃x t,v=.str x t:=by
  intro vs
  induction vs with
  | nil=>intro _;exact⟨[],rfl,.nil,fun _ h=>nomatch h⟩
  | cons v vs ih=>
   intro hv;obtain⟨fs,l,k,c⟩:=ih fun v h=>hv v (.tail _ h);obtain⟨a,o,n,t,u,rfl,g,cl,d⟩:=hv v (.head _);refine⟨.str (dec (.ref a)).1 t::fs,vg1 (·+1) l,.cons g cl d rfl k,fun v hv=>?_⟩;rcases vb4.mp hv with e | hv
   .exact⟨_,_,e⟩
   .exact c v hv
 obtain⟨fs,l,k,c⟩:=key vs hv;have h0:0<↑fs:=by rw[l];exact vz0.mpr h1
 refine PySem.W.kat_kind (T:=.type "str") k h0 (fun v hv=>?_) (by decide) h;obtain⟨x,t,rfl⟩:=c v hv;intro A Q E s _ hq;exact wz7 hq
def xq1{dec:Value->Pr}{vs:List Value}(hv:∀v∈vs,IsP s.heap v (dec v)):Cmp (model prog w) A E s (tuples' true) (·∈(pairsOf vs).toList) (fun x y=>pLt (dec x.1) (dec y.1)) where
 lt:=by
  intro x y st Q hx hy hk h;have mem:∀z:Keyed,z∈(pairsOf vs).toList->z.1∈vs:=fun z hz=>by
   have:=Array.mem_toList_iff.mp hz;unfold pairsOf at this;rw[List.zip_toArray]at this;exact(vv3 (by simpa using this)).1
  obtain⟨a,o,n,t,u,ea,g,c,d⟩:=hv _ (mem x hx);obtain⟨b,o',n',t',u',eb,g',c',d'⟩:=hv _ (mem y hy);rw[lt'_eq];refine vc3 (uc6 ?_);rw[hk];have hl:wpAny (model prog w) A (keyLt' (tuples' true) x.1 y.1) (fun b s'=>s'=s/\b=pLt (dec x.1) (dec y.1)) (fun _ _=>False) s:=by
   rw[ea,eb];refine PySem.W.kat_lt g d g' d' ?_;rw[<-ea,<-eb];have z:decide ((#[Value.str (dec x.1).1 t,Value.str (dec x.1).2 u]:Array Value).size<(#[Value.str (dec y.1).1 t',Value.str (dec y.1).2 u']:Array Value).size)=false:=rfl;rw[z];show PySem.W.KatLex prog w A true false _ [(Value.str (dec x.1).1 t,Value.str (dec y.1).1 t'),(Value.str (dec x.1).2 u,Value.str (dec y.1).2 u')] 0 s;unfold pLt;refine PySem.W.kat_cons (wpAny_eqBool_str ?_)
   by_cases e:(dec x.1).1=(dec y.1).1
   .rw[vd1 e,vd3 e];refine PySem.W.kat_yes (PySem.W.kat_cons (wpAny_eqBool_str ?_))
    by_cases e2:(dec x.1).2=(dec y.1).2
    .rw[vd1 e2,e2,yw2];exact PySem.W.kat_yes (PySem.W.kat_nil ⟨rfl,rfl⟩)
    .rw[vf4 e2];exact PySem.W.kat_no (PySem.W.kat_one _ _ (lt_str ⟨rfl,rfl⟩))
   .rw[vf4 e,vd0 e];exact PySem.W.kat_no (oneLt_str ⟨rfl,rfl⟩)
  refine vc3 (wpS_lift (vp9 (vj4 hl ?_ ?_)))
  .rintro r s' ⟨rfl,rfl⟩;exact⟨rfl,vc8 h⟩
  .intro _ _ z;exact z.elim
 tr:=fun x y z h g=>wr3 h g
 as:=fun x y h=>pLt_as h
end
section
def wr4(a2:s.heap.IsKeyIter it d i es.size ep)(a3:s.heap.get? d=some od)(a5:od.data=.dict es ep)(he:es[i]?=some e)(hQ:∀h',h'.IsKeyIter it d (i+1) es.size ep->Heap.SameBut it s.heap h'->Q (some e.key) {s with heap:=h'}):wpAny (model prog w) A (pyNext (.ref it)) Q E s:=by
 obtain⟨⟨c0,d0,a8,a7⟩,ho,hc,hd⟩:=a2;dsimp only at hc hd;subst hc hd;have hd:(Obj.mk (.type "dict_keyiterator") d0 (.fields #[.ref d,.int (i:Int) 0,.int (es.size:Int) 0,.int (ep:Int) 0]) a7).data=.fields #[.ref d,.int (i:Int) 0,.int (es.size:Int) 0,.int (ep:Int) 0]:=rfl;have a2:s.heap.IsKeyIter it d i es.size ep:=⟨_,ho,rfl,rfl⟩;have tI:=a2.typeIs;unfold pyNext;refine zz1 (vp9 (vg2 tI vm5 (vg4 vm5 tI F.entry_dict_keyiterator_next ?_ (F.args_dict_keyiterator_next_1 (.ref it)))));refine zz1 (wz7 (zz1 (zz1 (zz1 (vp5 tI (wz7 (zz1 (wpAny_fieldsOf ho hd ?_))))))));have a0:Builtin.Dict_items.ownsTuple "dict_keyiterator"=false:=by decide
 simp only[a0,vj6,vp8];show wpAny _ _ (if (Value.ref d == Value.none)=true then _ else _) _ _ s;rw[vd0 (by exact vb6)];refine zz1 (wz7 (zz1 (vn3 a3 a5 ?_)));rw[vd0 (by simp)];refine zz1 (wz7 (zz1 (vz8 a3 a5 ?_)));rw[vd0 (by simp)];refine wz7 ?_;dsimp only;have hi:i<es.size:=(Array.getElem?_eq_some_iff.mp he).1;have e1:(if (i:Int)<0 then none else es[(i:Int).toNat]?)=some e:=by rw[vd0 (by lia),vq3];exact he
 rw[e1];dsimp only;refine zz1 (zz1 (vp5 tI (wz7 ?_)));simp only[a0,vj6,vp8];refine zz1 (wpAny_isOneOf_keyiter tI ?_);have a4:=vj7 (Obj.mapFields fun x=>x.setIfInBounds (0+1) (rawInt (i+1))) ho rfl;refine zz1 (wpAny_setField (x:=rawInt (i+1)) ho hd (show 0+1<4 by decide) ?_);have a1:(s.heap.update it (Obj.mapFields fun x=>x.setIfInBounds (0+1) (rawInt (i+1)))).IsKeyIter it d (i+1) es.size ep:=⟨_,a4,rfl,rfl⟩;have a6:Shared.TypeIs {s with heap:=s.heap.update it (Obj.mapFields fun x=>x.setIfInBounds (0+1) (rawInt (i+1)))} (.ref it) "dict_keyiterator":=⟨_,a4,rfl⟩;refine zz1 (vg8 ?_);refine zz1 (wpAny_isOneOf_keyiter a6 ?_);rw[vd3 (by decide)];exact wz7 (wz7 ⟨_,rfl,wz7 (hQ _ a1 (vq7 _ _ _))⟩)
def dn_end(hh:A.handled=none)(a1:s.heap.IsKeyIter it d i es.size ep)(a2:s.heap.get? d=some od)(a3:od.data=.dict es ep)(he:es[i]?=none)(hQ:∀h',Heap.ExtBut it s.heap h'->Q none {s with heap:=h'}):wpAny (model prog w) A (pyNext (.ref it)) Q E s:=by
 obtain⟨⟨c0,d0,a5,a4⟩,ho,hc,hd⟩:=a1;dsimp only at hc hd;subst hc hd;have hd:(Obj.mk (.type "dict_keyiterator") d0 (.fields #[.ref d,.int (i:Int) 0,.int (es.size:Int) 0,.int (ep:Int) 0]) a4).data=.fields #[.ref d,.int (i:Int) 0,.int (es.size:Int) 0,.int (ep:Int) 0]:=rfl;have a1:s.heap.IsKeyIter it d i es.size ep:=⟨_,ho,rfl,rfl⟩;have tI:=a1.typeIs;unfold pyNext;refine zz1 (vp9 (vg2 tI vm5 (vg4 vm5 tI F.entry_dict_keyiterator_next ?_ (F.args_dict_keyiterator_next_1 (.ref it)))));refine zz1 (wz7 (zz1 (zz1 (zz1 (vp5 tI (wz7 (zz1 (wpAny_fieldsOf ho hd ?_))))))));have a0:Builtin.Dict_items.ownsTuple "dict_keyiterator"=false:=by decide
 simp only[a0,vj6,vp8];show wpAny _ _ (if (Value.ref d == Value.none)=true then _ else _) _ _ s;rw[vd0 (by exact vb6)];refine zz1 (wz7 (zz1 (vn3 a2 a3 ?_)));rw[vd0 (by simp)];refine zz1 (wz7 (zz1 (vz8 a2 a3 ?_)));rw[vd0 (by simp)];refine wz7 ?_;dsimp only;have e1:(if (i:Int)<0 then none else es[(i:Int).toNat]?)=none:=by rw[vd0 (by lia),vq3];exact he
 rw[e1];dsimp only;refine zz1 (zz1 (vp5 tI (wz7 ?_)));simp only[a0,vj6,vp8];refine zz1 (wpAny_setField (x:=.none) ho hd (show 0<4 by decide) ?_);refine ww8 (s:={s with heap:=_}) (s0:=s) hh (Heap.SameBut.extBut (vq7 _ _ _)) fun a h' k ty=>?_;refine zz1 (vt5 (T:="StopIteration") (b:=true) ty isSubtype_stop ?_);exact wz7 (hQ h' k)
def wr2(lo:(d == sysModules)=false)(a0:s.heap.get? d=some od)(hc:od.cls=.type "dict")(a1:od.data=.dict es ep)(hQ:Q (.ref s⁻¹) {s with heap:=s.heap.push {cls:=.type "dict_keyiterator",data:=.fields #[.ref d,.int 0 0,.int (es.size:Int) 0,.int (ep:Int) 0]}}):wpAny (model prog w) A (pyIter (.ref d)) Q E s:=by
 have tD:s.TypeIs (.ref d) "dict":=⟨_,a0,hc⟩;refine wpAny_pyIter_slot tD F.slot_dict_iter (vg4 F.slot_dict_iter tD F.entry_dict_iter ?_ (F.args_dict_iter_1 _));unfold Builtin.«dict.__iter__» Builtin.Dict.dictSlotNone;refine zz1 (zz1 (vv8 tD ?_));refine zz1 (wz7 (wz7 (zz1 (wz7 ?_))));refine zz1 (m:=Builtin.Dict.showsAll d) ?_;unfold Builtin.Dict.showsAll;rw[vd0 (by rw[lo];exact vb6)];refine wz7 ?_;refine zz1 (vn3 a0 a1 (zz1 (vz8 a0 a1 (zz1 (vg5 (wz7 ⟨_,rfl,"dict_keyiterator",_,⟨_,vb8 _ rfl,rfl⟩,vm5.lookup,hQ⟩))))))
def DE(h:Heap)(d:Addr)(es:Array DictEntry)(ep:Nat):Prop:=∃od,h.get? d=some od/\od.cls=.type "dict"/\od.data=.dict es ep
def DE.at(x:DE h d es ep)(k:∀o,h.get? d=some o->h'.get? d=some o):DE h' d es ep:=by
 obtain⟨od,a,b⟩:=x;exact⟨od,k _ a,b⟩
def DE.lt(x:DE h d es ep):d<h.objs.size:=by obtain⟨od,a,b⟩:=x;exact vb1 a
def xw3(hh:A.handled=none)(I:Addr)(a0:d≠I):Walks prog w A I [I,d] [I] es.size (fun i v=>∃e,es[i]?=some e/\v=e.key) (fun i h=>h.IsKeyIter I d i es.size ep/\DE h d es ep) where
 sub:=fun b hb=>by simp at hb;simp[hb]
 frame:=fun i h h' st hk=>⟨st.1.at fun o e=>hk I (by simp) o e,st.2.at fun o e=>hk d (by simp) o e⟩
 item:=fun i s Q E hi st hQ=>by
  obtain⟨od,a,b,c⟩:=st.2;refine wr4 st.1 a c (vx0 hi) fun h' k1 k2=>?_;exact hQ _ h' s.toks ⟨_,vx0 hi,rfl⟩ ⟨k1,st.2.at fun o e=>k2.extBut _ _ a0 e⟩ fun b o hb e=>k2.extBut b o (fun z=>hb (by simp[z])) e
 done:=fun s Q E st hQ=>by
  obtain⟨od,a,b,c⟩:=st.2;exact dn_end hh st.1 a c (Array.getElem?_eq_none_iff.mpr (wz6 _)) fun h' k=>hQ h' s.toks fun b o hb e=>k b o (fun z=>hb (by simp[z])) e
 self:=fun _ _ _ _ st hQ=>wpAny_pyIter_keyiter st.1 hQ
def wf0(lo:(d == sysModules)=false):PySem.W.KdlSrc prog w "dict" d d es.size (fun i v=>∃e,es[i]?=some e/\v=e.key) (fun h=>DE h d es ep) where
 type:=fun s x=>by obtain⟨od,a,b,c⟩:=x;exact⟨od,a,b⟩
 there:=fun h x=>⟨x.lt,x.lt⟩
 keep:=fun h h' x k=>x.at fun o e=>k d (.inl rfl) o e
 notList:=by decide
 notTuple:=by decide
 hint:=fun A E s Q x hq=>by
  obtain⟨od,a,b,c⟩:=x;exact PySem.W.kdl_hint_dict ⟨od,a,b⟩ hq
 iter:=fun A s hh x=>by
  obtain⟨od,a,b,c⟩:=x;refine⟨{cls:=.type "dict_keyiterator",data:=.fields #[.ref d,.int 0 0,.int (es.size:Int) 0,.int (ep:Int) 0]},fun i h=>h.IsKeyIter s⁻¹ d i es.size ep/\DE h d es ep,fun E Q hq=>wr2 lo a b c hq,xw3 hh _ (vb7 (vb1 a)),⟨_,vb8 _ rfl,rfl,rfl⟩,od,wz3 _ a,b,c⟩
end
section
def yc7(S:PySem.W.KdlSrc prog w T r d n P OK)(hh:A.handled=none)(ok:OK s.heap)(hn:n<=sizeLine)(hQ:∀h' tk (a0:Array Value),(∀b o,s.heap.get? b=some o->h'.get? b=some o)->ItemsOf P a0 n->s⁻¹<h'.objs.size->Q a0.toList {s with heap:=h',toks:=tk}):wpAny (model prog w) A (collect (.ref r)) Q E s:=by
 unfold collect;refine zz1 (wpAny_runValue (vv7 F.entry_proto_collect ?_));rw[vp7 F.plain_proto_collect _];show wpAny _ A.in1 (newList [] >>= fun l=>again (.builtin "list.__iadd__" ⟨[l,.ref r],[]⟩)) _ _ s;refine zz1 (vg5 ?_);refine wz7 ⟨uc3 F.plain_list_iadd _,vv7 F.entry_list_iadd ?_⟩;rw[vp7 F.plain_list_iadd _];have th:=S.there _ ok;have a1:(s.heap.push {cls:=.type "list",data:=.seq ([]:List Value).toArray}).get? s⁻¹=some {cls:=.type "list",data:=.seq ([]:List Value).toArray}:=vb8 _ rfl;have a2:OK (s.heap.push {cls:=.type "list",data:=.seq ([]:List Value).toArray}):=S.keep _ _ ok fun b hb o e=>wz3 _ e;show wpAny _ A.in1 (Builtin.List.listExtendWith (.ref s⁻¹) (.ref r) (.ref s⁻¹)) _ _ _;refine PySem.W.kdl_extend (R:=fun r s'=>match r with
    | .ok (.ret v)=>wpAny (model prog w) A (match v with
      | .ref a=>do
       match (<-load a).data with
        | .seq xs _=>pure xs.toList
        | _=>unsupported "internal:collect"
      | _=>unsupported "internal:collect") Q E s'
    | .ok _=>False
    | .error e=>E e s') (s:={s with heap:=s.heap.push {cls:=.type "list",data:=.seq ([]:List Value).toArray}}) S hh a2 s⁻¹ (vf1 th.1) (vf1 th.2) _ 0 a1 (fun h' tk a0 c' k1 k2 k3=>?_) hn
 show wpAny _ A (load s⁻¹ >>= _) _ _ _;refine zz1 (wpAny_load (s:={s with heap:=h',toks:=tk}) k2 ?_);exact wz7 (hQ h' tk a0 (fun b o e=>k1 b o (vb7 (vb1 e)) (wz3 _ e)) k3 (vb1 k2))
end
section
def yv0(hz:z∈(pairsOf vs).toList):z.1∈vs/\z.2=z.1:=by
 have:=Array.mem_toList_iff.mp hz;unfold pairsOf at this;rw[List.zip_toArray]at this;have h:z∈List.zip vs vs:=by simpa using this
 exists (vv3 h).1;obtain⟨i,hi,e⟩:=vf8 h;rw[<-e,List.getElem_zip]
def zx3(vs:List Value):(pairsOf vs).toList=vs.map fun v=>(v,v):=by
 unfold pairsOf;rw[List.zip_toArray];show List.zip vs vs=_
 induction vs with
 | nil=>rfl
 | cons v vs ih=>rw[vz9,ih];rfl
def ys7 (a3:wpAny (model prog w) A.in1 (collect x) (fun vs s1=>↑vs<128/\(∀v∈vs,IsP s1.heap v (dec v))/\(vs.map dec).Nodup/\
   ∀h' e (a4:List Value),a4.Perm vs->a4.Pairwise (fun a b=>pLt (dec b) (dec a)=false)->(∀b o,s1.heap.get? b=some o->h'.get? b=some o)->h'.get? s1⁻¹=some (seqObj "list" a4.toArray e)->Q (.ref s1⁻¹) {s1 with heap:=h'}) E s):
  wpAny (model prog w) A (call (.builtin "sorted") [x]) Q E s:=by
 refine vx1 kind_sorted plain_sorted entry_sorted (args_sorted1 x) ?_;unfold Builtin.«sorted»;refine zz1 (m:=checkCount "sorted" 1 1 _) (wz7 ?_);refine zz1 (vj4 a3 ?_ fun _ _ z=>z);rintro vs s1 ⟨hz,hP,hn,hQ⟩;have hv:↑vs<=sizeLine:=by rw[vs7];lia
 refine zz1 (wpAny_newList ?_ hv);have a0:(s1.heap.push (seqObj "list" vs.toArray 0)).get? s1⁻¹=some (seqObj "list" vs.toArray 0):=vb8 _ rfl;have k6:∀b o,s1.heap.get? b=some o->(zn8 (s1.heap.push (seqObj "list" vs.toArray 0)) s1⁻¹ vs).get? b=some o:=fun b o e=>by
  have hb:=vb1 e;unfold zn8;refine wz3 _ (wz3 _ ?_);rw[vh9 _ _ (vf1 hb)];exact wz3 _ e
 have a5:∀v∈vs,IsP (zn8 (s1.heap.push (seqObj "list" vs.toArray 0)) s1⁻¹ vs) v (dec v):=fun v hv=>(hP v hv).keep k6;have hu:Unl (fun x y:Keyed=>pLt (dec x.1) (dec y.1)) (pairsOf vs).toList:=by
  unfold Unl;rw[zx3,vn4];have:=vn4.mp hn;refine this.imp fun {a b} h=>?_;show pLt (dec a) (dec b)=true\/pLt (dec b) (dec a)=true;cases e1:pLt (dec a) (dec b)with
  | true=>exact .inl rfl
  | false=>
   cases e2:pLt (dec b) (dec a)with
   | true=>exact .inr rfl
   | false=>exact absurd (yt6 e1 e2) h
 refine zz1 (vg8 (vg4 slot_list_sort (s:={s1 with heap:=s1.heap.push (seqObj "list" vs.toArray 0)}) ⟨_,a0,rfl⟩ entry_list_sort (wf1 (kd:=tuples' true) (s:={s1 with heap:=s1.heap.push (seqObj "list" vs.toArray 0)}) a0 hz (fun h2 Q' q=>xj0 (dec:=dec) a5 (fun z=>by rw[z]at h2;simp at h2) q) (xq1 a5) hu fun out a1 a2=>⟨_,rfl,?_⟩) (args_list_sort _)));obtain⟨e,he⟩:=sortedHeap_at (out:=out.map (·.2)) a0;have pl:=vm9.mp a1;have e2:out.toList.map (·.2)=out.toList.map (·.1):=vn5 fun z hz=>(yv0 (pl.mem_iff.mp hz)).2;have p2:(out.toList.map (·.1)).Perm vs:=by
  have:=pl.map (·.1);rw[zx3,vj9]at this;have e9:vs.map ((fun x:Keyed=>x.1)∘fun v=>(v,v))=vs:=by
   show vs.map (fun v=>v)=vs;exact List.map_id' vs
  rwa [e9]at this
 refine wz7 ⟨_,rfl,hQ _ e (out.toList.map (·.1)) p2 (vn4.mpr a2) (fun b o eb=>?_) ?_⟩
 .have hb:=vb1 eb;rw[sortedHeap_old (vb7 hb) (by rw[size_push'];exact Nat.lt_succ_of_lt hb)];exact wz3 _ eb
 .rw[<-e2];have e3:(out.toList.map (·.2)).toArray=out.map (·.2):=by rw[<-Array.toList_map,Array.toArray_toList]
  rw[e3];exact he
end
def xp3(J:It)(g:TG)(tt:TT)(tk te:TE)(D:Addr)(σ0:St)(H0:Hp)(Q:Hp->Prop):Prop:=
 ∃W:Nat->Nat->St->Hp->Prop,(∃m,W 0 m σ0 H0)/\∀i m σ H,W i m σ H->
 (J.stop i H/\Q H)\/(J.go i H/\∃N:St->Hp->Prop,(∀σ' H',N σ' H'->∃m',m'<m/\W (i+1) m' σ' H')/\∀x H',J.yld i H x H'->g x σ H' fun σ2 H2=>tt σ2 H2 fun b H3=>
  if b=true then tk σ2 H3 fun kx H4=>te σ2 H4 fun v H5=>∃kvs k b,kx=.ref b/\H5 b=some (.tup (k.map kV))/\H5 D=some (.dT kvs)/\↑kvs<sizeLine/\N σ2 (upd H5 D (.dT (putK kvs k v))) else N σ2 H3)
section
def yz0{kx vx tg a7:Expr}{ag:List Expr}{pos:Pos}{it:Addr}{fp:List Addr}{tn:Nat->Heap->Prop}{J:It}{g:TG}{tt:TT}{an te:TE}{Q:Addr->Hp->Prop}
  {RR:Value->Addr->Result->Shared->Prop} {E:Vp} (hc:X.calm=true) (hu:(tupleKind (zc4 X.prog X.w)).room X.A)
  (B:BlkN X scope N' src) (b6:∀x k,(x,k)∈scope.names->k=.free->∀k',(x,k')∈scope.names->k'=.free) (T:Turn X.prog X.w X.K tg J fp it tn) (I:Inv X pins σ H2 s2) (h0:tn 0 s2.heap) (hf:∀b∈fp,FpOk X pins H2 b)
  (hg:∀s3 H3 C,PG (blk X scope N' s3 H3 C fp) tg g) (ht:∀s3 H3 C,PTs (blk X scope N' s3 H3 C fp) ag tt) (hk:∀s3 H3 C,PE (blk X scope N' s3 H3 C fp) kx an) (he:∀s3 H3 C,PE (blk X scope N' s3 H3 C fp) vx te)
  (hw:∀D,H2 D=none->xp3 J g tt an te D (sub src σ) (upd H2 D (.dT [])) (Q D))
  (hQ:∀D C H' s',C≠D->(∃m,s'.heap.Ns C m)->(∀af ,Heap.SameBut C s'.heap af->Inv X pins σ H' {s' with heap:=af})->Inv X pins σ H' s'->H' C=none->C≠X.env.locals->(∀x c,X.env.cells.lookup x=some c->c≠C)->X.s₀⁻¹<=C->(∀p∈X.pn++pins,p.1≠C)->Q D H'->RR (.ref D) C (.ok .next) s'):
  wpAny (model X.prog X.w) X.A (newDict) (fun ai s₃=>wpAny (model X.prog X.w) X.A (newFunctionEnv scope X.env.globals (clOf X.env scope.names) [] X.env.qual none .none (some X.env)) (fun a6 s₄=>
   codeAny (model X.prog X.w) X.A (.compStart (.DictComp kx vx [⟨tg,a7,ag,0⟩] scope pos) 0 (.ref it) ai {a6 with scope:=relabel scope X.env}) (RR ai a6.locals) s₄) E s₃) E s2:=by
 have a9:∀y∈scope.names,y.2≠.cell:=fun y hy=>vb3 (vf2.mp B.nocell y hy);refine vg5 (wpAny_newFunctionEnv a9 (by intro y hy;simp at hy) (fun h₁ a5 a2=>?_) B.kind);dsimp only at a5 a2 ⊢;have b4:H2 s2⁻¹=none:=I.hok.fresh (wz6 _);have I3:Inv X pins σ (upd H2 s2⁻¹ (.dT [])) {s2 with heap:=s2.heap.push {cls:=.type "dict",data:=.dict #[]}}:=
  I.laid (t':=s2.toks) (fun b o e=>wz3 _ e) (wz6 _) (xd7 s2.heap I.big)
 generalize hH3:(s2.heap.push {cls:=.type "dict",data:=.dict #[]})=a0 at a5 a2 I3 ⊢;have ad:a0.objs.size=s2⁻¹+1:=by rw[<-hH3,vt6]
 have a3:∀b o,s2.heap.get? b=some o->a0.get? b=some o:=fun b o e=>by rw[<-hH3];exact wz3 _ e
 have a1:∀b o,a0.get? b=some o->h₁.get? b=some o:=fun b o e=>a2.extBut b o (vb7 (vb1 e)) (wz3 _ e);have a4:s2⁻¹<a0.objs.size:=by rw[ad];exact Nat.lt_succ_self _
 have am:∀b∈fp,FpOk X pins (upd H2 s2⁻¹ (.dT [])) b:=fun b hb=>by
  obtain⟨o,e,_⟩:=T.obj _ _ h0 b hb;refine⟨?_,(hf b hb).2⟩;rw[zb5 (vb7 (vb1 e))];exact(hf b hb).1
 have a8:∀b∈fp,b<a0.objs.size:=fun b hb=>by
  obtain⟨o,e,_⟩:=T.obj _ _ h0 b hb;exact vj0 (vb1 e) a4
 have b7:=yf6 (fp:=fp) (C:=a0.objs.size) (s4:={s2 with heap:=h₁,toks:=s2.toks+↑([]:List (Str×Value))}) B I3 am a8 b6 rfl a5 a1 rfl rfl;have ap:tn 0 h₁:=T.keep _ _ _ h0 fun b hb o e=>a1 b o (a3 b o e);obtain⟨W,⟨m0,w0⟩,turn⟩:=hw s2⁻¹ b4;have aa:∀{H':Hp},(∀b∈fp,H' b=none)->∀b∈fp,FpOk (blk X scope N' {s2 with heap:=a0} (upd H2 s2⁻¹ (.dT [])) a0.objs.size fp) [] H' b:=fun hn b hb=>by
  refine⟨hn b hb,vb7 (a8 b hb),?_,.inl hb,fun x c h=>(hf b hb).2.2.2.2.1 x c (B.back I.ok h).1,fun p hp=>absurd (show p∈([]:List (Addr×Obj)) from hp) (by simp)⟩;intro z;rcases vb4.mp (I3.stkSub b z)with y | y
  .exact(hf b hb).2.1 y
  .exact(hf b hb).2.2.1 y
 have au:∀(s':Shared)(σ':St)(H':Hp),Inv (blk X scope N' {s2 with heap:=a0} (upd H2 s2⁻¹ (.dT [])) a0.objs.size fp) [] σ' H' s'->Q s2⁻¹ H'->RR (.ref s2⁻¹) a0.objs.size (.ok .next) s':=fun s' σ' H' J' q=>by
  obtain⟨hh,gg,dd,ae,b0⟩:=s';have b8:b0=s2.os:=J'.os;subst b8;have IX:Inv X pins σ H' {({s2 with heap:=a0}:Shared)with heap:=hh,gens:=gg,drawn:=dd,toks:=ae}:=Inv.call (s:={s2 with heap:=a0}) I3 (h':=hh) (g':=gg) (d':=dd) (t':=ae) (ch:=fp) J'.base J'.hok J'.bare fun b hb=>⟨(hf b hb).2.2.2.1,(hf b hb).2.1,(hf b hb).2.2.2.2.1,(hf b hb).2.2.2.2.2⟩;have bc:s2⁻¹<=a0.objs.size:=vb5 a4;have aj:a0.objs.size≠X.env.locals:=vf1 I3.lt;have ao:∀x c,X.env.cells.lookup x=some c->c≠a0.objs.size:=fun x c e z=>by
   obtain⟨v,q⟩:=I3.cell x c e;exact absurd (show c<a0.objs.size from q.lt) (by rw[z];exact vj1 _)
  have ah:∀p∈X.pn++pins,p.1≠a0.objs.size:=fun p hp z=>by
   have:=vb1 (I3.pin p hp).1;exact absurd (show p.1<a0.objs.size from this) (by rw[z];exact vj1 _)
  have al:H' a0.objs.size=none:=J'.free;obtain⟨m,hm,_⟩:=J'.loc;refine hQ _ _ H' _ (vf1 a4) ⟨m,hm⟩ (fun af sb=>?_) IX al aj ao (vh1 I3.sz (wz6 _)) ah q;exact IX.turned (t':=ae) (fun b o hb e=>(sb.2 b hb).trans e) al aj (.inr (vh1 I3.sz (wz6 _))) ao ah
 have loop:∀s₃:Shared,s₃={s2 with heap:=h₁,toks:=s2.toks+↑([]:List (Str×Value))}->
   codeAny (model X.prog X.w) X.A (.compLoop (.DictComp kx vx [⟨tg,a7,ag,0⟩] scope pos) 0 (.ref it) (.ref s2⁻¹) (compEnvC scope (clOf X.env scope.names) a0.objs.size X.env))
    (RR (.ref s2⁻¹) a0.objs.size) s₃:=by
  rintro s₃ rfl;refine zv0 (fun n s'=>∃i σ' H',Inv (blk X scope N' {s2 with heap:=a0} (upd H2 s2⁻¹ (.dT [])) a0.objs.size fp) [] σ' H' s'/\tn i s'.heap/\(∀b∈fp,H' b=none)/\W i n σ' H') ?_ m0 ⟨0,_,_,b7,ap,fun b hb=>(am b hb).1,w0⟩;rintro n s5 ⟨i,σ5,H5,I5,ar,ak,w5⟩;rcases turn i n σ5 H5 w5 with ⟨stop,qn⟩ | ⟨go,Nx,hN,step⟩
  .refine thn (T.done (blk X scope N' {s2 with heap:=a0} (upd H2 s2⁻¹ (.dT [])) a0.objs.size fp) rfl rfl rfl hc i [] s5 σ5 H5 _ I5 (aa ak) ar stop) fun r s6 ⟨hr,I6⟩=>?_;subst hr;exact au s6 σ5 H5 I6 qn
  .refine thn (T.item (blk X scope N' {s2 with heap:=a0} (upd H2 s2⁻¹ (.dT [])) a0.objs.size fp) rfl rfl rfl hc i [] s5 σ5 H5 _ I5 (aa ak) ar go) fun r s6 ⟨u,hr,h6⟩=>?_;subst hr;refine thn h6 fun _ s7 ⟨x,H7,I7,r7,y7,ab,av⟩=>?_;have bb:=I7.pinned (aa av) (T.obj _ _ ab);refine thn (hg _ _ _ _ s7 σ5 H7 x u _ bb r7 (step x H7 y7)) fun _ s8 ⟨σ8,H8,I8,q8⟩=>?_;refine thn (ht _ _ _ _ s8 σ8 H8 _ I8 q8) fun ok s9 ⟨H9,I9,q9⟩=>?_;have again:∀{σa:St}{Ha:Hp}{sa:Shared},Inv (blk X scope N' {s2 with heap:=a0} (upd H2 s2⁻¹ (.dT [])) a0.objs.size fp) ([]++yf5 fp s7.heap) σa Ha sa->Nx σa Ha->
     ∃m,m<n/\∃i σ' H',Inv (blk X scope N' {s2 with heap:=a0} (upd H2 s2⁻¹ (.dT [])) a0.objs.size fp) [] σ' H' sa/\tn i sa.heap/\(∀b∈fp,H' b=none)/\W i m σ' H':=fun {σa Ha sa} Ia na=>by
    obtain⟨m',hm,wa⟩:=hN σa Ha na;refine⟨m',hm,i+1,σa,Ha,Ia.unpinned,T.keep _ _ _ ab fun b hb o e=>(Ia.pin (b,o) (vd4 _ (vd4 _ (zj1 hb e)))).1,fun b hb=>?_,wa⟩;obtain⟨o,e,d⟩:=T.obj _ _ ab b hb;exact(Ia.pin (b,o) (vd4 _ (vd4 _ (zj1 hb e)))).2.1
   cases ok with
   | false=>exact again I9 q9
   | true=>
    refine thn (hk _ _ _ _ s9 σ8 H9 _ I9 q9) fun kv ay ⟨kk,b1,aw,rk,ba⟩=>?_;refine thn (he _ _ _ _ ay σ8 b1 _ aw ba) fun y b5 ⟨v,b2,ac,ax,kvs,k,b,ek,eb,hx,hl,b3⟩=>?_;subst ek;cases (show kv=Value.ref b from rk);obtain⟨z,hd,xs,aq,dd⟩:=wx9 ac.hok hx;have hz:↑xs<=sizeLine:=by rw[<-uc2 aq];exact z
    have az:↑(putK kvs k v)<=sizeLine:=by have:=zg5 kvs k v;lia
    refine wpAny_dictSet_heap (hsz:=hz) hu (yj1 ac.hok eb) dd fun h' as hs=>?_;obtain⟨q,es,ep,hq,h2,h3,h4,_,h5⟩:=as;have b9:=zn4 (t':=b5.toks+(tupleKind (zc4 X.prog X.w)).draws k) ac (by rw[hx];exact vm7) hs ⟨q,hq⟩ (show ObjOk X.prog X.w (upd b2 s2⁻¹ (.dT (putK kvs k v))) h' s2⁻¹ (.dT (putK kvs k v)) from ⟨az,hd,_,(aq.put k eb ax).keeps fun c ys ec=>by
     rw[zb5 (wr1 ec hx (fun z=>nomatch z))];exact ec,q,es,ep,hq,h2,h3,h4,h5⟩)
    exact again b9 b3
 exact codeAny_compStart_dict (loop _ rfl) (T.self _ 0 _ _ _ ap (loop _ rfl))
def tTComp(wi:TI)(src:List (Option Nat))(g:TG)(tt:TT)(tkx te:TE):TE:=fun σ H Q=>wi σ H fun J H2=>∀D,H2 D=none->xp3 J g tt tkx te D (sub src σ) (upd H2 D (.dT [])) fun H'=>Q (.ref D) H'
def xz5(hc:X.calm=true)(hu:(tupleKind (zc4 X.prog X.w)).room X.A)(B:BlkN X scope N' src)(hi:PI X tg iter wi)(hg:∀s3 H3 C fp,PG (blk X scope N' s3 H3 C fp) tg g)(ht:∀s3 H3 C fp,PTs (blk X scope N' s3 H3 C fp) ifs tt)(hk:∀s3 H3 C fp,PE (blk X scope N' s3 H3 C fp) kx tkx)(he:∀s3 H3 C fp,PE (blk X scope N' s3 H3 C fp) vx te)(a5:(scope.names.all fun y=>decide (y.2=.free->∀z∈scope.names,z.1=y.1->z.2=.free))=true:=by rfl')(hs:∀x,foldedSetIterable iter X.env x=pure x:=by intro _;rfl):
  PE X (.DictComp kx vx [⟨tg,iter,ifs,0⟩] scope pos) (tTComp wi src g tt tkx te):=by
 intro a2 s σ H Q I h;have a3:∀x k,(x,k)∈scope.names->k=.free->∀k',(x,k')∈scope.names->k'=.free:=fun x k hm hk k' a4=>vb3 (vf2.mp a5 (x,k) hm) hk (x,k') a4 rfl;have a1:closureFor scope X.env=pure (clOf X.env scope.names):=zj2 fun y hy hf=>I.ok.has y.1 (vb3 (vf2.mp B.frees y hy) hf);have a0:∀y∈scope.names,y.2=.local->scope.names.lookup y.1=some .local:=fun y hy=>vb3 (vf2.mp B.locs y hy);rw[arm_eval_DictComp];refine vp3 (use:=none) rfl hs a1 B.kind a0 (thn (hi a2 s σ H _ I h) fun xv s₁ h₁=>thn h₁ fun aa s2 h2=>?_);obtain⟨it,fp,tn,J,H2,rfl,I2,T,h0,hf,hw⟩:=h2;refine yz0 (RR:=fun a6 C=>compPost (model X.prog X.w) X.A X.xe none (EP X a2 σ Q) a6 C) (Q:=fun D H'=>Q (.ref D) H') hc hu B a3 T I2 h0 hf (fun a b c=>hg a b c fp) (fun a b c=>ht a b c fp) (fun a b c=>hk a b c fp) (fun a b c=>he a b c fp) hw ?_;intro D C H' s' ab hm a7 IX ad a9 af ae ac q;obtain⟨m,hm⟩:=hm;exact⟨m,hm,fun a8 sb=>⟨.ref D,H',a7 a8 sb,rfl,q⟩⟩
end
section
variable{KK:Type}[DecidableEq KK]{knd:HeapKind prog w KK}
def yq9(hr:knd.room A)(hk:knd.is s.heap k a)(hd:s.heap.DictOfH knd d xs)(hsz:↑xs<=sizeLine)(hQ:∀h',h'.DictOfH knd d (storedH xs k a v)->Heap.SameBut d s.heap h'->Q () {s with heap:=h'}):wpAny (model prog w) A (dictSetHashed d (.ref a) (knd.hash k) v) Q E s:=by
 obtain⟨o,es,ep,h1,h2,h3,h4,h5,h6⟩:=hd;unfold dictSetHashed;refine vg8 (zz1 (wpAny_dictFind_heap hr hk h1 h3 h4 h5 h6 (fun hn=>?_) (fun j p hj=>?_)))
 .refine zz1 (vp2 ?_);refine wpAny_updateDictKeys h1 h3 ?_ (by rw[ub0 h4];exact hsz) (by simp);have sb:Heap.SameBut d s.heap (s.heap.update d (Obj.mapDictKeys fun x=>x.push ⟨knd.hash k,.ref a,v⟩)):=vq7 _ _ _;have g:=vj7 (Obj.mapDictKeys fun x=>x.push ⟨knd.hash k,.ref a,v⟩) h1 (Obj.isFreed_of_dict (Obj.data_mapDictKeys h3 _));refine hQ _ ⟨_,_,_,g,h2.mapDictKeys _,Obj.data_mapDictKeys h3 _,?_,fun x hx=>?_,?_⟩ sb
  .rw[storedH_new (atKey_none_of_get hn),vw3,h4,wz9];rfl
  .rw[storedH_new (atKey_none_of_get hn)]at hx;rcases vc4.mp hx with hx | hx
   .exact knd.keeps (h5 x hx) h1 h3 sb
   .cases vc7.mp hx;exact knd.keeps hk h1 h3 sb
  .rw[storedH_new (atKey_none_of_get hn),wz9];exact yf7 h6 (not_mem_keys_of_get hn)
 .refine zz1 (vp2 (zz1 (wpAny_updateDict h1 h3 (wpAny_point ?_) (by simp))));have sb:Heap.SameBut d s.heap (s.heap.update d (Obj.mapDict fun x=>x.modify j fun e=>⟨e.hash,e.key,v⟩)):=vq7 _ _ _;have g:=vj7 (Obj.mapDict fun x=>x.modify j fun e=>⟨e.hash,e.key,v⟩) h1 (Obj.isFreed_of_dict (Obj.data_mapDict h3 _));refine hQ _ ⟨_,_,_,g,h2.mapDict _,Obj.data_mapDict h3 _,?_,fun x hx=>?_,?_⟩ sb
  .rw[storedH_old (atKey_of_get h6 hj),Array.toList_modify,h4];exact modify_map_putAt (entryOfKey knd) (fun e=>⟨e.hash,e.key,v⟩) k v (fun a v₀=>rfl) h6 hj
  .rw[storedH_old (atKey_of_get h6 hj)]at hx;obtain⟨y,hy,rfl⟩:=vb9.mp hx;have:=knd.keeps (h5 y hy) h1 h3 sb;unfold putAt
   split
   .exact this
   .exact this
  .rw[storedH_old (atKey_of_get h6 hj),keys_map_putAt];exact h6
def zk3(xs more:List (KK×Addr×Value)):List (KK×Addr×Value):=more.foldl (fun a x=>storedH a x.1 x.2.1 x.2.2) xs
def yz2(xs:List (KK×Addr×Value))(k:KK)(a:Addr)(v:Value):↑(storedH xs k a v)<=↑xs+1:=by
 unfold storedH
 split
 .rw[lqm];lia
 .rw[wz4];exact wz6 _
def xf9(hr:knd.room A)(a3:d≠o)(hs:(o == sysModules)=false)(hd:s.heap.DictOfH knd d xs)(ho:s.heap.DictOfH knd o more)(h0:xs≠[])(hsz:↑xs+↑more<=sizeLine)(hQ:∀h',h'.DictOfH knd d (zk3 xs more)->Heap.SameBut d s.heap h'->Q () {s with heap:=h'}):wpAny (model prog w) A (Builtin.Dict.mergeDict nm d o) Q E s:=by
 obtain⟨od,a6,a9,d1,d2,d3,d4,d5,d6⟩:=id hd;obtain⟨oo,a4,a8,o1,o2,o3,o4,o5,o6⟩:=id ho;unfold Builtin.Dict.mergeDict;rw[vd0 (by rw[vd6];exact a3)];refine zz1 (m:=Builtin.Dict.showsAll o) ?_;unfold Builtin.Dict.showsAll;rw[vd0 (by rw[hs];exact vb6)];refine wz7 (zz1 (vn3 o1 o3 ?_));have go:wpAny (model prog w) A (dictEpoch o >>= fun a0=>dictEntries o >>= fun l=>(forIn [:l.size] PUnit.unit fun i _=>dictEntries o >>= fun l2=>match l2[i]? with
   | some e=>holding [e.key,e.val] (dictSetHashed d e.key e.hash e.val) >>= fun _=>dictEpoch o >>= fun l3=>if (l3 != a0)=true then unsupported (toString nm++toString ":source-changed-during-callback") >>= fun(_:Unit)=>pure (ForInStep.yield PUnit.unit) else pure (ForInStep.yield PUnit.unit)
   | _=>unsupported "internal:dict-merge" >>= fun(_:Unit)=>pure (ForInStep.yield PUnit.unit)) >>= fun _=>pure ()) Q E s:=by
  refine zz1 (vz8 o1 o3 (zz1 (vn3 o1 o3 (zz1 ?_))));have a2:a4.size=↑more:=ub0 o4;rw[Std.Legacy.Range.forIn_eq_forIn_range'];refine wpAny_forIn_list _ (fun rest _ s1=>∃j h1,rest=List.range' j (↑more-j)/\j<=↑more/\s1={s with heap:=h1}/\h1.DictOfH knd d (zk3 xs (more.take j))/\Heap.SameBut d s.heap h1) _ ?_ ?_ _ _ ?_
  .rintro i rest b s1 ⟨j,h1,e1,hj,rfl,k1,k2⟩;have a1:j<↑more:=by
    rcases vq1 j ↑more with z | z
    .exact z
    .rw[Nat.sub_eq_zero_of_le z]at e1;cases e1
   rw[show ↑more-j=(↑more-(j+1))+1 by lia,List.range'_succ]at e1;injection e1 with ei er;subst er;subst ei;obtain⟨j,rfl⟩:∃j,j=i:=⟨i,rfl⟩;have g1:h1.get? o=some oo:=k2.extBut _ _ (vj3 a3) o1;refine zz1 (vn3 (s:={s with heap:=h1}) g1 o3 ?_);have ge:a4[j]?=some (entryOfKey knd more[j]):=by
    rw[<-vn7,o4,wz5,zz2 a1];rfl
   rw[ge];have a7:↑(zk3 xs (more.take j))<=↑xs+j:=by
    have key:∀(l ys:List (KK×Addr×Value)),↑(zk3 ys l)<=↑ys+↑l:=by
     intro l
     induction l with
     | nil=>intro ys;exact wz6 _
     | cons x l ih=>
      intro ys;have:=ih (storedH ys x.1 x.2.1 x.2.2);have h2:=yz2 ys x.1 x.2.1 x.2.2;show(zk3 (storedH ys x.1 x.2.1 x.2.2) l).length<=_;rw[vc6];lia
    have:=key (more.take j) xs;rw[vc2]at this;lia
   have hm:more[j]∈more:=vg6 a1;refine zz1 (vg8 (yq9 (s:={s with heap:=h1}) hr (knd.keeps (o5 _ hm) d1 d3 k2) k1 (by lia) fun h2 q1 q2=>?_));have a5:=k2.trans q2;refine zz1 (vz8 (s:={s with heap:=h2}) (a5.extBut _ _ (vj3 a3) o1) o3 ?_);rw[vd0 (by simp)];refine wz7 ⟨j+1,h2,rfl,a1,rfl,?_,a5⟩;have e2:zk3 xs (more.take (j+1))=storedH (zk3 xs (more.take j)) more[j].1 more[j].2.1 more[j].2.2:=by
    unfold zk3;rw[vc5,zz2 a1,List.foldl_append];rfl
   rw[e2];exact q1
  .rintro b s1 ⟨j,h1,e1,hj,rfl,k1,k2⟩;have ej:j=↑more:=by
    rcases vq1 j ↑more with z | z
    .rw[show ↑more-j=(↑more-(j+1))+1 by lia,List.range'_succ]at e1;cases e1
    .lia
   subst ej;rw[List.take_length]at k1;exact wz7 (hQ h1 k1 k2)
  .refine⟨0,s.heap,?_,vc9 _,rfl,hd,Heap.SameBut.refl _ _⟩;show List.range' 0 ((a4.size-0+1-1) / 1)=List.range' 0 (↑more-0);rw[a2,Nat.div_one];rfl
 have he:a6.isEmpty=false:=by
  have:=ub0 d4;cases e:a6.isEmpty with
  | false=>rfl
  | true=>
   rw[Array.isEmpty_iff_size_eq_zero]at e;rw[e]at this;exact absurd (vq0.mp this.symm) h0
 dsimp only;refine wpAny_ite_split (fun _=>?_) (fun _=>go);refine zz1 (vn3 d1 d3 ?_);rw[vd0 (by rw[he];exact vb6)];exact go
end
def kyP(p:Pr):List Key:=[Sum.inr p.1,Sum.inr p.2]
def xm7(h:kyP p=kyP q):p=q:=by
 unfold kyP at h;injection h with h1 h2;injection h2 with h2 _;exact Prod.ext (vv2 h1) (vv2 h2)
abbrev tkd(P:Program)(w:World):=tupleKind (zc4 P w)
def pdP(P:Program)(w:World)(a:Addr)(qs:List (Pr×Addr))(h:Heap):Prop:=↑qs<=sizeLine/\(a == sysModules)=false/\∃xs:List (List Key×Addr×Value),xs.map (fun x=>(x.1,x.2.1))=qs.map (fun q=>(kyP q.1,q.2))/\
 ∃o es ep,h.get? a=some o/\o.ExactDict/\o.data=.dict es ep/\es.toList=xs.map (entryOfKey (tkd P w))/\(xs.map (·.1)).Nodup
def pdO(P:Program)(w:World)(a:Addr)(qs:List (Pr×Addr)):HO:=.ext (pdP P w a qs)
def xt3(x:pdP P w a qs h):ObjOk P w H h a (pdO P w a qs):=by
 refine⟨x,?_,fun h1 h2 y k=>?_⟩
 .obtain⟨_,_,xs,_,o,_,_,e,_⟩:=x;exact⟨o,e⟩
 .obtain⟨z,hd,vs,r,ob,es,ep,e,c⟩:=y;exact⟨z,hd,vs,r,ob,es,ep,k _ e,c⟩
def PdOk(K:Fg)(H:Hp)(qs:List (Pr×Addr)):Prop:=∀q∈qs,SqT K H q.2 [.str q.1.1,.str q.1.2]
section
def ym5(I:Inv X pins σ H s)(h:SqT X.K H b [.str n.1,.str n.2]):(tkd X.prog X.w).is s.heap (kyP n) b:=by
 obtain⟨its,r,⟨o,h1,h2,m,h3⟩,_⟩:=I.tuple h;exact⟨o,its.toArray,m,h1,h2,h3,by simpa using yd5 (ks:=kyP n) r⟩
def yx6(I:Inv X pins σ H s)(hx:H a=some (pdO X.prog X.w a qs))(ok:PdOk X.K H qs):↑qs<=sizeLine/\(a == sysModules)=false/\
  ∃xs:List (List Key×Addr×Value),xs.map (fun x=>(x.1,x.2.1))=qs.map (fun q=>(kyP q.1,q.2))/\s.heap.DictOfH (tkd X.prog X.w) a xs:=by
 obtain⟨z,hd,xs,r,o,es,ep,h1,h2,h3,h4,h5⟩:=(I.hok a _ hx).1;refine⟨z,hd,xs,r,o,es,ep,h1,h2,h3,h4,fun x hm=>?_,h5⟩;have:(x.1,x.2.1)∈qs.map (fun q=>(kyP q.1,q.2)):=by rw[<-r];exact vb9.mpr ⟨x,hm,rfl⟩
 obtain⟨q,hq,e⟩:=vb9.mp this;injection e with e1 e2;rw[<-e1,<-e2];exact ym5 I (ok q hq)
def at_pd{xs:List (List Key×Addr×Value)}{qs:List (Pr×Addr)}{n:Pr}(r:xs.map (fun x=>(x.1,x.2.1))=qs.map (fun q=>(kyP q.1,q.2))):(atKey xs (kyP n)).isSome=decide (n∈qs.map (·.1)):=by
 unfold atKey;rw[Option.isSome_map,vm6,vv0,List.find?_isSome]
 constructor
 .rintro⟨x,hx,e⟩;have e:=vb3 e;have:(x.1,x.2.1)∈qs.map (fun q=>(kyP q.1,q.2)):=by rw[<-r];exact vb9.mpr ⟨x,hx,rfl⟩
  obtain⟨q,hq,e2⟩:=vb9.mp this;injection e2 with e1 e2;rw[e]at e1;exact vb9.mpr ⟨q,hq,xm7 e1⟩
 .intro h;obtain⟨q,hq,e⟩:=vb9.mp h;have:(kyP q.1,q.2)∈xs.map (fun x=>(x.1,x.2.1)):=by rw[r];exact vb9.mpr ⟨q,hq,rfl⟩
  obtain⟨x,hx,e2⟩:=vb9.mp this;injection e2 with e1 e2;exact⟨x,hx,vd1 (by rw[e1,e])⟩
end
section
def tPIn(P:Program)(w:World)(K:Fg)(ty td:TE):TE:=fun σ H Q=>ty σ H fun y H1=>td σ H1 fun x H2=>∃a b qs n,x=.ref a/\y=.ref b/\H2 a=some (pdO P w a qs)/\PdOk K H2 qs/\SqT K H2 b [.str n.1,.str n.2]/\Q (.bl (decide (n∈qs.map (·.1)))) H2
def pc_pin(hu:X.A.units+1<cLine)(hi:PE X i ty)(ho:PE X o td):PC X .In i o (tPIn X.prog X.w X.K ty td):=by
 intro a0 s σ H Q I h;refine thn (hi a0 s σ H _ I h) fun iv s1 ⟨y,H1,I1,ry,q1⟩=>thn (ho a0 s1 σ H1 _ I1 q1) fun u s2 ⟨x,H2,I2,rx,a,b,qs,n,ex,ey,g,ok,hb,q2⟩=>?_;subst ex ey;obtain rfl:u=Value.ref a:=rx;obtain rfl:iv=Value.ref b:=ry;obtain⟨z,hd,xs,r,dd⟩:=yx6 I2 g ok;refine wpAny_in_heap (vr5 hu) (ym5 I2 hb) hd dd ?_;rw[at_pd r];exact⟨.bl _,H2,I2.tok _,rfl,q2⟩
def wt8(hs:(d == sysModules)=false)(h1:s.heap.get? d=some od)(h2:od.cls=.type "dict")(h3:od.data=.dict es ep)(hz:es.size<=sizeLine)(h:∀t t',Q (.int (es.size:Int) t) {s with toks:=t'}):wpAny (model prog w) A (call (.builtin "len") [.ref d]) Q E s:=by
 have tD:s.TypeIs (.ref d) "dict":=⟨_,h1,h2⟩;rw[vs7]at hz;refine vx1 kind_len plain_len entry_len (args_len1 (.ref d)) ?_;unfold Builtin.len;refine zz1 (m:=oneArg _ _) (wz7 ?_);refine zz1 (vg2 tD F.slot_dict_len (vg4 F.slot_dict_len tD F.entry_dict_len ?_ (F.args_dict_len_1 (.ref d))));unfold Builtin.«dict.__len__» Builtin.Dict.dictSlotNone;refine zz1 (zz1 (vv8 tD ?_));refine zz1 (wz7 (wz7 (zz1 (wz7 ?_))));unfold dictSize Builtin.Dict.pendingCount;refine zz1 (zz1 (vn3 h1 h3 (wz7 (zz1 ?_))));rw[vd0 (by rw[hs];exact vb6)];refine wz7 ?_;unfold retInt;refine zz1 (wpAny_mkInt (wz7 ⟨_,rfl,?_⟩));dsimp only;have e0:((es.size:Int)+((0:Nat):Int))=(es.size:Int):=by simp
 rw[e0];refine zz1 (vg8 (wz7 (zz1 (wpAny_letGo ?_))));rw[vd0 (by lia),vd0 (by lia)];exact zz1 (wpAny_mkInt (wz7 ⟨_,rfl,h _ _⟩))
def yr5:CallR X (.builtin "len") (fun xs H Q=>∃a qs,xs=[V.ref a]/\H a=some (pdO X.prog X.w a qs)/\Q (.int ↑qs) H):=by
 intro a0 s σ H xs us Q I r h;obtain⟨a,qs,rfl,ha,q⟩:=h;obtain⟨u,rfl,ru⟩:=zp8 r;cases ru;obtain⟨z,hd,xs,r,o,es,ep,h1,h2,h3,h4,h5⟩:=(I.hok a _ ha).1;have hl:es.size=↑qs:=by
  have:=vg1 List.length r;rw[lqm,lqm]at this;rw[ub0 h4,this]
 refine wt8 hd h1 h2.1 h3 (by rw[hl];exact z) fun t t'=>?_
 rw[hl];exact⟨.int ↑qs,H,I.tok _,⟨t,rfl⟩,q⟩
def tPOne(P:Program)(w:World)(K:Fg)(tk tv:TE):TE:=fun σ H Q=>∀p,H p=none->tk σ (upd H p (pdO P w p [])) fun x H1=>tv σ H1 fun y H2=>∃b n,x=.ref b/\H2 p=some (pdO P w p [])/\SqT K H2 b [.str n.1,.str n.2]/\Q (.ref p) (upd H2 p (pdO P w p [(n,b)]))
def pe_pd1(hu:X.A.units<cLine)(hk:PE X k tk)(hv:PE X v tv):PE X (.Dict [some k] [v] pos) (tPOne X.prog X.w X.K tk tv):=by
 intro a0 s σ H Q I q;have a1:(s⁻¹ == sysModules)=false:=vx7.mpr (vj3 (vb7 I.big));have hn:=I.hok.fresh (wz6 s⁻¹);have I1:=I.laid (a:=s⁻¹) (o:=pdO X.prog X.w s⁻¹ []) (h':=s.heap.push {cls:=.type "dict",data:=.dict #[]}) (t':=s.toks) (fun _ _ q=>wz3 _ q) (wz6 _) (xt3 ⟨vc9 _,a1,[],rfl,_,_,_,vb8 _ rfl,⟨rfl,rfl,rfl⟩,rfl,rfl,vn6⟩);have hp:PPs X pos [some k] [v] [(tk,tv)]:=xf5 hk hv xp0;rw[arm_eval_Dict,zip_pairTrees [some k] [v] X.env pos rfl rfl,dictDisplay_pairs _ (by intro z;cases z) (by show 1<17;decide)];refine zz1 (vs6 (zz1 ?_));unfold subDict;refine zz1 (wpAny_alloc (zz1 (vg8 ?_)));rw[vd3 (by show 1<=15;decide)];refine zz1 (thn (hp a0 _ σ _ (fun ps H2=>match ps with | [(x,y)]=>∃b n,x=.ref b/\H2 s⁻¹=some (pdO X.prog X.w s⁻¹ [])/\SqT X.K H2 b [.str n.1,.str n.2]/\Q (.ref s⁻¹) (upd H2 s⁻¹ (pdO X.prog X.w s⁻¹ [(n,b)])) | _=>False) I1 (q _ hn)) fun ws s2 ⟨ps,H2,I2,a4,q2⟩=>?_);rcases ps with _ | ⟨⟨x,y⟩,_ | ⟨_,_⟩⟩
 .exact q2.elim
 rotate_left
 .exact q2.elim
 obtain⟨b,n,rfl,e,hb,q2⟩:=q2;cases a4 with
 | @cons p c ps bs hr ht=>
  cases ht;obtain⟨b1,b2⟩:=c;obtain⟨r1,r2⟩:=hr;have eb:b1=Value.ref b:=r1;subst eb;refine vg8 (zz1 ?_);obtain⟨z,hd,xs,r,dd⟩:=yx6 I2 e (fun q hq=>nomatch hq);have ex:xs=[]:=List.map_eq_nil_iff.mp r;subst ex;show wpAny _ _ (forIn [(Value.ref b,b2)] PUnit.unit _) _ _ _;rw[vv6];refine zz1 (zz1 (wpAny_dictSet_heap (knd:=tkd X.prog X.w) hu (ym5 I2 hb) dd (fun h' a3 a2=>wz7 ?_) (vc9 _)));refine wz7 (wz7 (wz7 (wz7 ⟨.ref s⁻¹,_,?_,rfl,q2⟩)));obtain⟨o,es,ep,g1,g2,g3,g4,g5,g6⟩:=a3;exact zn4 I2 (by rw[e];exact vm7) a2 ⟨o,g1⟩ (xt3 ⟨by show 1<=sizeLine;exact vb5 (zb8 (by lia)),hd,_,rfl,o,es,ep,g1,g2,g3,g4,g6⟩)
def zv9(qs:List (Pr×Addr))(q:Pr×Addr):List (Pr×Addr):=if q.1∈qs.map (·.1) then qs else qs++[q]
def zk9(qs more:List (Pr×Addr)):List (Pr×Addr):=more.foldl zv9 qs
def xk8(r:xs.map (fun x=>(x.1,x.2.1))=qs.map (fun q=>(kyP q.1,q.2)))(q:Pr×Addr)(v:Value):
  (storedH xs (kyP q.1) q.2 v).map (fun x=>(x.1,x.2.1))=(zv9 qs q).map (fun q=>(kyP q.1,q.2)):=by
 have h:=at_pd (n:=q.1) r;unfold storedH zv9
 by_cases c:q.1∈qs.map (·.1)
 .rw[vd3 c,vd3 (by rw[h];exact vd1 c),vj9,<-r];refine vn5 fun x _=>?_;show((putAt (kyP q.1) v x).1,(putAt (kyP q.1) v x).2.1)=_;unfold putAt
  split <;> rfl
 .rw[vd0 c,vd0 (by rw[h];simpa using c),wz9,wz9,r];rfl
def xv2:∀{more:List (Pr×Addr)}{xs:List (List Key×Addr×Value)}{qs:List (Pr×Addr)},xs.map (fun x=>(x.1,x.2.1))=qs.map (fun q=>(kyP q.1,q.2))->ys.map (fun x=>(x.1,x.2.1))=more.map (fun q=>(kyP q.1,q.2))->
  (zk3 xs ys).map (fun x=>(x.1,x.2.1))=(zk9 qs more).map (fun q=>(kyP q.1,q.2)):=by
 induction ys with
 | nil=>intro more xs qs r r2;cases more with
  | nil=>exact r
  | cons=>cases r2
 | cons y ys ih=>
  intro more xs qs r r2;cases more with
  | nil=>cases r2
  | cons m more=>
   rw[vf5,vf5]at r2;injection r2 with e r2;injection e with e1 e2;show(zk3 (storedH xs y.1 y.2.1 y.2.2) ys).map _=(zk9 (zv9 qs m) more).map _;refine ih ?_ r2;rw[e1,e2];exact xk8 r m _
def xr5(qs:List (Pr×Addr))(q:Pr×Addr):↑(zv9 qs q)<=↑qs+1:=by
 unfold zv9
 split
 .lia
 .rw[wz4];exact wz6 _
def yd2:∀(more qs:List (Pr×Addr)),↑(zk9 qs more)<=↑qs+↑more
 | [],qs=>wz6 _
 | q::more,qs=>by
  have:=yd2 more (zv9 qs q);have h:=xr5 qs q;show(zk9 (zv9 qs q) more).length<=_;rw[vc6];lia
def yt4{prog:Program}{w:World}{A:Around}{E:Vp}{s:Shared}{d o:Addr}{xs more:List (List Key×Addr×Value)}{Q:Vp}(hu:A.units+1<cLine)(a1:d≠o)(hs:(o == sysModules)=false)(hd:s.heap.DictOfH (tkd prog w) d xs)(ho:s.heap.DictOfH (tkd prog w) o more)(h0:xs≠[])(hsz:↑xs+↑more<=sizeLine)
  (hQ:∀h',h'.DictOfH (tkd prog w) d (zk3 xs more)->Heap.SameBut d s.heap h'->Q .none {s with heap:=h'}):wpAny (model prog w) A (call (.builtin "dict.update") [.ref d,.ref o]) Q E s:=by
 refine vg4 F.slot_dict_update hd.typeIs F.entry_dict_update ?_ (F.args_dict_update_2 _ _);unfold Builtin.«dict.update»;refine zz1 (m:=Builtin.Dict.selfAndRest _ _) ?_;unfold Builtin.Dict.selfAndRest;refine zz1 (vv8 hd.typeIs ?_);refine zz1 (m:=Builtin.Dict.addrOf _) (wz7 (wz7 ?_));show wpAny _ _ (Builtin.Dict.updateFrom "dict.update" d (.ref o) [] .none) _ _ s;unfold Builtin.Dict.updateFrom;refine zz1 (wpAny_typeOf ho.typeIs ?_);rw[vd0 (by decide)];refine zz1 ?_;have a0:∀h',h'.DictOfH (tkd prog w) d (zk3 xs more)->Heap.SameBut d s.heap h'->wpAny (model prog w) A.in1 (Builtin.Dict.addKeywords d [] >>= fun _=>ret Value.none) (fun a0 s'=>∃v,a0=Fin.done (Flow.ret v)/\Q v s') E {s with heap:=h'}:=fun h' q1 q2=>zz1 (m:=Builtin.Dict.addKeywords d []) (wz7 (wz7 ⟨_,rfl,hQ h' q1 q2⟩));unfold Builtin.Dict.merge Builtin.Dict.readDirectly;refine zz1 (zz1 (vt5 ho.typeIs isSubtype_dict_dict ?_));simp only[Bool.not_true,vj6,vp8];refine zz1 (vn8 ho.typeIs F.slot_dict_iter.lookup (wz7 ?_));simp only[vr3,if_true];refine zz1 (m:=Builtin.Dict.addrOf _) (wz7 ?_);exact xf9 (vr5 hu) a1 hs hd ho h0 hsz a0
def rUpdP(P:Program)(w:World)(K:Fg):V->List V->Hp->VK->Prop:=fun x vs H Q=>∃a b qs more,x=.ref a/\vs=[.ref b]/\H a=some (pdO P w a qs)/\qs≠[]/\PdOk K H qs/\H b=some (.dT (more.map fun n=>(kyP n,V.bl true)))/\↑qs+↑more<=sizeLine/\
 ∀bs:List Addr,A2 (fun q n=>H q=some (.tup [.str n.1,.str n.2])) bs more->Q .non (upd H a (pdO P w a (zk9 qs (more.zip bs))))
def wn4(hu:X.A.units+1<cLine):MtR X "dict.update" (rUpdP X.prog X.w X.K):=by
 intro a2 s σ H x vs v us Q I rx rv h;obtain⟨a,b,qs,more,rfl,rfl,ha,h0,ok,hb,hz,q⟩:=h;cases rx;obtain⟨u,rfl,ru⟩:=rv.one;cases ru;obtain⟨z,hd,xs,r,dd⟩:=yx6 I ha ok;obtain⟨z2,a1,ys,a0,a4⟩:=wx9 I.hok hb;have key:∀{more:List Pr}{ys:List (List Key×Addr×Value)},KT H (more.map fun n=>(kyP n,V.bl true)) ys->∃bs:List Addr,A2 (fun q (n:Pr)=>H q=some (.tup [.str n.1,.str n.2])) bs more/\ys.map (fun x=>(x.1,x.2.1))=(more.zip bs).map (fun q=>(kyP q.1,q.2)):=by
  intro more
  induction more with
  | nil=>intro ys k;cases k;exact⟨[],.nil,rfl⟩
  | cons n more ih=>
   intro ys k;cases k with
   | @cons p y ps ys hq t=>
    obtain⟨bs,h1,h2⟩:=ih t;exists y.2.1::bs,.cons hq.2.1 h1;rw[vf5,h2,vz9,vf5,<-hq.1]
 obtain⟨bs,hA,r2⟩:=key a0;have lx:↑xs=↑qs:=by have:=vg1 List.length r;rwa [lqm,lqm]at this
 have ly:↑ys=↑more:=by have:=uc2 a0;rw[lqm]at this;exact this.symm
 have a3:a≠b:=wr1 ha hb (fun z=>nomatch z);refine yt4 hu a3 a1 dd a4 (fun z=>h0 (vq0.mp (by rw[<-lx,z];rfl))) (by lia) fun h' q1 q2=>?_
 obtain⟨o,es,ep,g1,g2,g3,g4,g5,g6⟩:=q1;have rm:=xv2 r r2;have lb:↑(more.zip bs)<=↑more:=by rw[vw0];exact Nat.min_le_left _ _
 have lm:=yd2 (more.zip bs) qs;exact⟨.non,_,zn4 (t':=s.toks) I (by rw[ha];exact vm7) q2 ⟨o,g1⟩ (xt3 ⟨by lia,hd,_,rm,o,es,ep,g1,g2,g3,g4,g6⟩),rfl,q bs hA⟩
end
section
def rUpdK:V->List V->Hp->VK->Prop:=fun x vs H Q=>∃a b kvs more,x=.ref a/\vs=[.ref b]/\a≠b/\H a=some (.dK kvs)/\H b=some (.dK more)/\↑kvs+↑more<=sizeLine/\Q .non (upd H a (.dK (zf4 kvs more)))
def wv9:MtR X "dict.update" rUpdK:=by
 intro a3 s σ H x vs v us Q I rx rv h;obtain⟨a,b,kvs,more,rfl,rfl,a4,ha,hb,hz,q⟩:=h;cases rx;obtain⟨u,rfl,ru⟩:=rv.one;cases ru;obtain⟨z,hd,xs,a1,dd⟩:=yk1 I.hok ha;obtain⟨z2,a2,ys,a0,a5⟩:=yk1 I.hok hb;have l1:=↑a1;have l2:=↑a0;refine vs5 F.slot_dict_update dd.typeIs F.entry_dict_update (F.args_dict_update_2 _ _) (meets_dict_update (zc4 X.prog X.w) a b a4 a2) ⟨xs,ys,dd,a5,by lia,fun h' d' _ sb=>?_⟩;have he:∃q,h'.get? a=some q:=let ⟨q,_,_,hq,_⟩:=d';⟨q,hq⟩
 have lm:=zh2 more kvs;exact⟨.non,_,zn4 (t':=s.toks) I (by rw[ha];exact vm7) sb he (yp5 (by lia) hd (a0.merge a1) d'),rfl,q⟩
def ys8(hc:X.calm=true):CallR X (.builtin "sorted") (fun xs H Q=>∃(p:Addr)(ss:List Str)(kvs:List (Key×V)),xs=[.ref p]/\H p=some (.dK kvs)/\kvs.map (·.1)=ss.map Sum.inr/\↑ss<64/\∀(l:Addr)(a4:List Str),H l=none->a4.Perm ss->sortedS a4=true->Q (.ref l) (upd H l (.lst (a4.map V.str)))):=by
 intro ac s σ H xs us Q I r h;obtain⟨p,ss,kvs,rfl,hp,hk,ab,q⟩:=h;obtain⟨u,rfl,ru⟩:=zp8 r;cases ru;obtain⟨z,hd,vs,a5,dd⟩:=yk1 I.hok hp;obtain⟨o,ho⟩:∃o,s.heap.get? p=some o:=by obtain⟨o,_,_,e,_⟩:=id dd;exact⟨o,e⟩
 obtain⟨vs,ep,a5,ad⟩:=zs8 ho ⟨vs,a5,dd⟩;have a8:=↑a5;have a9:↑kvs=↑ss:=by have:=vg1 List.length hk;rwa [lqm,lqm]at this
 refine vx1 kind_sorted plain_sorted entry_sorted (args_sorted1 _) ?_;unfold Builtin.«sorted»;refine zz1 (m:=checkCount "sorted" 1 1 _) (wz7 ?_);refine zz1 (yc7 (PySem.W.kdl_dict (knd:=zc4 X.prog X.w) (kvs:=vs) (ep:=ep) (d:=p) hd) (I.ok.hd hc) (ad _ ho) (by lia) fun h1 tk a0 k a3 hsz=>?_);have hS:StrsAre a0.toList ss:=by
  have hi:∀(i:Nat)(v:Value),a0.toList[i]?=some v->∃x t,ss[i]?=some x/\v=.str x t:=fun i v hv=>by
   obtain⟨k,y,hy,ae⟩:=a3.2 i v (by rw[<-vn7];exact hv);obtain⟨v',aa,_⟩:=a5.get hy;have:(kvs.map (·.1))[i]?=some k:=by rw[wz5,aa];rfl
   rw[hk,wz5,wz8]at this;obtain⟨x,hx,e⟩:=this;rcases zd9 ae with ⟨n,t,rfl,rfl⟩ | ⟨n,t,rfl,rfl⟩
   .cases e
   .cases e;exact⟨_,t,hx,rfl⟩
  have hl:↑a0.toList=↑ss:=by rw[vd7,a3.1];lia
  clear a3 k q hk
  revert hi hl
  generalize a0.toList=as;intro hi hl;clear ab a9
  induction as generalizing ss with
  | nil=>cases ss with
   | nil=>exact .nil
   | cons=>cases hl
  | cons a as ih=>
   cases ss with
   | nil=>cases hl
   | cons x ss=>
    obtain⟨y,t,hy,rfl⟩:=hi 0 a rfl;cases hy;exact .cons _ _ (ih (ss:=ss) (fun i v hv=>hi (i+1) v hv) (by simpa using hl))
 have af:↑a0.toList=↑ss:=by rw[vd7,a3.1];lia
 refine zz1 (wpAny_newList ?_ (by rw[vs7];lia));have a6:(h1.push (seqObj "list" a0.toList.toArray 0)).get? h1.objs.size=some (seqObj "list" a0.toList.toArray 0):=vb8 _ rfl;refine zz1 (vg8 (vg4 slot_list_sort (s:={s with heap:=h1.push (seqObj "list" a0.toList.toArray 0),toks:=tk}) ⟨_,a6,rfl⟩ entry_list_sort (list_sort_treeK strKind_oneLt a6 hS.keysOf (fun v₁ v₂ rest e=>keyKind_strs (by rw[<-e];exact hS)) (by lia) fun a7 a1 a2=>⟨_,rfl,?_⟩) (args_list_sort _)));obtain⟨a4,q1,q2,q3⟩:=sorted_out_str hS a1 a2;obtain⟨e,he⟩:=sortedHeap_at (out:=(arrOf a7).map (·.2)) a6;have kk:∀b o,s.heap.get? b=some o->(sortedHeap (h1.push (seqObj "list" a0.toList.toArray 0)) h1.objs.size a0.toList ((arrOf a7).map (·.2))).get? b=some o:=fun b o eb=>by
  have hb:b<h1.objs.size:=vb1 (k b o eb);rw[sortedHeap_old (vb7 hb) (by rw[size_push'];exact Nat.lt_succ_of_lt hb)];exact wz3 _ (k b o eb)
 have I2:=I.laid (t':=tk) (a:=h1.objs.size) (o:=.lst (a4.map V.str)) kk (vb5 hsz) (show ObjOk X.prog X.w _ _ _ (.lst (a4.map V.str)) from ⟨?_,((arrOf a7).map (·.2)).toList,e,xw8 q1,by rw[Array.toArray_toList];exact he⟩)
 .exact wz7 ⟨_,rfl,.ref h1.objs.size,_,I2,rfl,q _ _ (I.hok.fresh (vb5 hsz)) q2 q3⟩
 .rw[lqm,q2.length_eq,vs7];lia
def zw8(I:Inv X pins σ H s)(ok:PdOk X.K H qs)(a4:↑qs<128)(nd:(qs.map (·.1)).Nodup)(a5:∀Q1:List Value->Shared->Prop,(∀h1 tk,(∀b o,s.heap.get? b=some o->h1.get? b=some o)->s⁻¹<h1.objs.size->Q1 (qs.map fun q=>Value.ref q.2) {s with heap:=h1,toks:=tk})->wpAny (model X.prog X.w) X.A.in1 (collect x) Q1 X.xe s)(q:∀(l:Addr)(a6:List (Pr×Addr)),H l=none->a6.Perm qs->a6.Pairwise (fun a b=>pLt b.1 a.1=false)->Q (.ref l) (upd H l (.lst (a6.map fun q=>V.ref q.2)))):wpAny (model X.prog X.w) X.A (call (.builtin "sorted") [x]) (EP X pins σ Q) X.xe s:=by
 have inj:∀q∈qs,∀q'∈qs,q.2=q'.2->q=q':=fun q hq q' a9 e=>by
  have h1:=ok q hq;rw[e]at h1;have:=I.tuple_inj h1 (ok q' a9);injection this with a b;injection b with b _;exact Prod.ext (Prod.ext (V.str.inj a) (V.str.inj b)) e
 let dec:Value->Pr:=fun v=>((qs.find? fun q=>match v with | .ref a=>decide (q.2=a) | _=>false).map (·.1)).getD (("",""):Pr)
 have a1:∀q∈qs,dec (.ref q.2)=q.1:=fun q hq=>by
  show((qs.find? fun q'=>decide (q'.2=q.2)).map (·.1)).getD (("",""):Pr)=q.1;cases e:qs.find? fun q'=>decide (q'.2=q.2)with
  | none=>exact absurd (vd1 rfl) (ub1.mp e q hq)
  | some q'=>
   have h1:=List.find?_some e;have h2:=vr8 e;rw[inj q' h2 q hq (vb3 h1)];rfl
 have a7:∀q∈qs,IsP s.heap (.ref q.2) (dec (.ref q.2)):=fun q hq=>by
  rw[a1 q hq];obtain⟨its,r,⟨o,h1,h2,m,h3⟩,_⟩:=I.tuple (ok q hq);cases r with
  | cons a t=>cases t with
   | cons b t=>cases t;obtain⟨t1,rfl⟩:=a;obtain⟨t2,rfl⟩:=b;exact⟨q.2,o,m,t1,t2,rfl,h1,h2,h3⟩
 refine ys7 (dec:=dec) (a5 _ fun h1 tk k hsz=>?_);have a8:((qs.map fun q=>Value.ref q.2).map dec).Nodup:=by
  rw[vj9,show qs.map (dec∘fun q=>Value.ref q.2)=qs.map (·.1) from vn5 fun q hq=>a1 q hq];exact nd
 refine⟨by rw[lqm];exact a4,fun v hv=>?_,a8,fun h' e a0 pm pw kk he=>?_⟩
 .obtain⟨q,hq,rfl⟩:=vb9.mp hv;exact(a7 q hq).keep k
 let back:Value->Pr×Addr:=fun v=>(dec v,match v with | .ref a=>a | _=>0)
 have a2:∀q∈qs,back (.ref q.2)=q:=fun q hq=>Prod.ext (a1 q hq) rfl;have p2:(a0.map back).Perm qs:=by
  have:=pm.map back;rw[vj9]at this;have e9:qs.map (back∘fun q=>Value.ref q.2)=qs:=by
   conv=>rhs;rw[<-List.map_id qs]
   exact vn5 fun q hq=>a2 q hq
  rwa [e9]at this
 have e3:(a0.map back).map (fun q=>Value.ref q.2)=a0:=by
  rw[vj9]
  conv=>rhs;rw[<-List.map_id a0]
  refine vn5 fun v hv=>?_;obtain⟨q,hq,rfl⟩:=vb9.mp (pm.mem_iff.mp hv);rfl
 have a3:Vals ((a0.map back).map fun q=>V.ref q.2) a0:=by
  conv=>rhs;rw[<-e3]
  generalize a0.map back=l
  induction l with
  | nil=>exact .nil
  | cons x l ih=>exact .cons rfl ih
 have I2:=I.laid (t':=tk) (a:=h1.objs.size) (o:=.lst ((a0.map back).map fun q=>V.ref q.2)) (fun b o eb=>kk b o (k b o eb)) (vb5 hsz) (show ObjOk X.prog X.w _ _ _ (.lst _) from ⟨?_,a0,e,a3,he⟩)
 .exact⟨.ref h1.objs.size,_,I2,rfl,q _ _ (I.hok.fresh (vb5 hsz)) p2 (vn4.mpr pw)⟩
 .rw[lqm,p2.length_eq,vs7];lia
def yr2(hc:X.calm=true):CallR X (.builtin "sorted") (fun xs H Q=>∃(p:Addr)(qs:List (Pr×Addr)),xs=[.ref p]/\H p=some (pdO X.prog X.w p qs)/\PdOk X.K H qs/\↑qs<128/\
  ∀(l:Addr)(a3:List (Pr×Addr)),H l=none->a3.Perm qs->a3.Pairwise (fun a b=>pLt b.1 a.1=false)->Q (.ref l) (upd H l (.lst (a3.map fun q=>V.ref q.2)))):=by
 intro a6 s σ H xs us Q I r h;obtain⟨p,qs,rfl,hp,ok,a1,q⟩:=h;obtain⟨u,rfl,ru⟩:=zp8 r;cases ru;obtain⟨z,hd,xs,r2,o,es,ep,g1,g2,g3,g4,g5⟩:=(I.hok p _ hp).1;have lx:es.size=↑qs:=by
  have:=vg1 List.length r2;rw[lqm,lqm]at this;rw[ub0 g4,this]
 have kq:∀(i:Nat)(e:DictEntry),es[i]?=some e->∃q,qs[i]?=some q/\e.key=.ref q.2:=fun i e he=>by
  rw[<-vn7,g4,wz5,wz8]at he;obtain⟨x,hx,rfl⟩:=he;have:=vg1 (fun l=>l[i]?) r2;rw[wz5,wz5,hx]at this;obtain⟨q,hq,e⟩:=wz8.mp this.symm;exists q,hq;injection e with _ e2;show Value.ref x.2.1=.ref q.2;rw[e2]
 have nd:(qs.map (·.1)).Nodup:=by
  have e1:xs.map (·.1)=qs.map fun q=>kyP q.1:=by
   have:=vg1 (List.map Prod.fst) r2;rw[vj9,vj9]at this;exact this
  rw[e1,show qs.map (fun q=>kyP q.1)=(qs.map (·.1)).map kyP by rw[vj9];rfl]at g5;exact(vn4.mp g5).imp fun h e=>h (vg1 kyP e)
 refine zw8 I ok a1 nd (fun Q1 h=>yc7 (wf0 (es:=es) (ep:=ep) (d:=p) hd) (I.ok.hd hc) ⟨o,g1,g2.1,g3⟩ (by rw[lx];exact z) fun h1 tk a2 k a0 hsz=>?_) q;have a4:a2.toList=qs.map fun q=>Value.ref q.2:=by
  refine ub6 fun i=>?_;rw[wz5];rcases vq1 i ↑qs with hi | hi
  .have a5:i<↑a2.toList:=by rw[vd7,a0.1,lx];exact hi
   obtain⟨e,he,ev⟩:=a0.2 i a2.toList[i] (by rw[<-vn7,zz2 a5]);obtain⟨q',a7,ek⟩:=kq i e he;rw[zz2 a5,a7,ev,ek];rfl
  .rw[vn9 (by rw[vd7,a0.1,lx];exact hi),vn9 hi];rfl
 rw[a4];exact h h1 tk k hsz
def yq1:CallR X (.builtin "sorted") (fun xs H Q=>∃(p:Addr)(qs:List (Pr×Addr)),xs=[.ref p]/\SqL X.K H p (qs.map fun q=>V.ref q.2)/\PdOk X.K H qs/\↑qs<128/\(qs.map (·.1)).Nodup/\
  ∀(l:Addr)(a0:List (Pr×Addr)),H l=none->a0.Perm qs->a0.Pairwise (fun a b=>pLt b.1 a.1=false)->Q (.ref l) (upd H l (.lst (a0.map fun q=>V.ref q.2)))):=by
 intro a2 s σ H xs us Q I r h;obtain⟨p,qs,rfl,hp,ok,a1,nd,q⟩:=h;obtain⟨u,rfl,ru⟩:=zp8 r;cases ru;obtain⟨its,rv,pl,hz⟩:=I.list hp;have e:∀{qs:List (Pr×Addr)}{its:List Value},Vals (qs.map fun q=>V.ref q.2) its->its=qs.map fun q=>Value.ref q.2:=by
  intro qs
  induction qs with
  | nil=>intro its h;cases h;rfl
  | cons q qs ih=>
   intro its h;cases h with
   | cons a t=>rw[ih t];cases a;rfl
 have e:=e rv;subst e;refine zw8 I ok a1 nd (fun Q1 h=>collect_list pl.isList (h _ s.toks (fun b o hb=>?_) ?_)) q
 .rw[vh9 _ _ (vf1 (vb1 hb))];exact wz3 _ hb
 .rw[Heap.size_update,size_push'];exact Nat.lt_succ_self _
end
section
inductive BInQ(K:Fg)(neg:Bool)(x y:V)(H:Hp)(Q:VK):Prop
 | mk(a p:Addr)(n:Pr)(qs:List (Pr×Addr))(h1:x=.ref a)(h2:y=.ref p)(h3:SqT K H a [.str n.1,.str n.2])(h4:SqL K H p (qs.map fun q=>V.ref q.2)\/SqT K H p (qs.map fun q=>V.ref q.2))(h5:PdOk K H qs)(q:Q (.bl (neg ^^ decide (n∈qs.map (·.1)))) H):BInQ K neg x y H Q
def rInQ(K:Fg)(neg:Bool):R2:=fun x y H Q=>BInQ K neg x y H Q
open Classical in
def zz9(hu:X.A.units+1<cLine)(I:Inv X pins σ H s)(ha:SqT X.K H a [.str n.1,.str n.2])(r:Vals (qs.map fun q=>V.ref q.2) its)(ok:PdOk X.K H qs):
  (∀y,y∈its.toArray->SeqAt.EqAt X.A.in1 s y (.ref a) ((fun v=>match v with | .ref q=>decide (SqT X.K H q [.str n.1,.str n.2]) | _=>false) y))/\
  its.toArray.any (fun v=>match v with | .ref q=>decide (SqT X.K H q [.str n.1,.str n.2]) | _=>false)=decide (n∈qs.map (·.1)):=by
 have kn:∀q∈qs,decide (SqT X.K H q.2 [.str n.1,.str n.2])=decide (q.1=n):=fun q hq=>by
  by_cases e:q.1=n
  .subst e;rw[vd1 rfl,vd1 (ok q hq)]
  .rw[vf4 e,vf4 fun h2=>e ?_];have:=I.tuple_inj (ok q hq) h2;injection this with a b;injection b with b _;exact Prod.ext (V.str.inj a) (V.str.inj b)
 have a0:its=qs.map fun q=>Value.ref q.2:=by
  clear kn ok
  induction qs generalizing its with
  | nil=>cases r;rfl
  | cons q qs ih=>
   cases r with
   | cons h t=>
    have e:_=Value.ref q.2:=h;rw[ih t,e];rfl
 subst a0;exists fun v hv=>?_
 .obtain⟨q,hq,rfl⟩:=vb9.mp (by simpa using hv:v∈qs.map fun q=>Value.ref q.2);show SeqAt.EqAt _ _ _ _ (decide (SqT X.K H q.2 [.str n.1,.str n.2]))
  by_cases e:q.2=a
  .rw[e,vd1 ha];exact SeqAt.EqAt.same _
  .have:=SeqAt.EqAt.of_refs e (rcS (A:=X.A.in1) (ss:=[q.1.1,q.1.2]) (tt:=[n.1,n.2]) I hu (ok q hq) ha);rw[kn q hq];have e2:decide (q.1=n)=decide ([q.1.1,q.1.2]=[n.1,n.2]):=by
    by_cases c:q.1=n
    .rw[vd1 c,c,vd1 rfl]
    .rw[vf4 c,vf4 fun h=>c ?_];injection h with h1 h2;injection h2 with h2 _;exact Prod.ext h1 h2
   rw[e2];exact this
 .rw[vm6,vv0];rw[show(qs.map fun q=>Value.ref q.2).toArray.any (fun v=>match v with | .ref q=>decide (SqT X.K H q [.str n.1,.str n.2]) | _=>false)=(qs.map fun q=>Value.ref q.2).any (fun v=>match v with | .ref q=>decide (SqT X.K H q [.str n.1,.str n.2]) | _=>false) by simp,vt4]
  constructor
  .rintro⟨v,hv,e⟩;obtain⟨q,hq,rfl⟩:=vb9.mp hv;have e:decide (SqT X.K H q.2 [.str n.1,.str n.2])=true:=e;rw[kn q hq]at e;exact vb9.mpr ⟨q,hq,vb3 e⟩
  .intro h;obtain⟨q,hq,e⟩:=vb9.mp h;exists .ref q.2,vb9.mpr ⟨q,hq,rfl⟩;show decide (SqT X.K H q.2 [.str n.1,.str n.2])=true;rw[kn q hq];exact vd1 e
open Classical in
def wm9(hu:X.A.units+1<cLine):OpR X (compareOp .In) (rInQ X.K false):=by
 intro a0 s σ H x y v u Q I rx ry h;obtain⟨a,p,n,qs,rfl,rfl,ha,hp,ok,q⟩:=h;cases rx;cases ry;rw[vt7]at q;rcases hp with hp | hp
 .obtain⟨its,r,pl,hz⟩:=I.list hp;obtain⟨c1,c2⟩:=zz9 hu I ha r ok;exact SeqAt.in_listAt _ pl.isList c1 (by rw[c2];exact⟨.bl _,H,I,rfl,q⟩)
 .obtain⟨its,r,pl,hz⟩:=I.tuple hp;obtain⟨c1,c2⟩:=zz9 hu I ha r ok;exact SeqAt.in_tupleAt _ pl c1 (by rw[c2];exact⟨.bl _,H,I,rfl,q⟩)
open Classical in
def wp6(hu:X.A.units+1<cLine):OpR X (compareOp .NotIn) (rInQ X.K true):=by
 intro a0 s σ H x y v u Q I rx ry h;obtain⟨a,p,n,qs,rfl,rfl,ha,hp,ok,q⟩:=h;cases rx;cases ry;rw[Bool.true_xor]at q;rcases hp with hp | hp
 .obtain⟨its,r,pl,hz⟩:=I.list hp;obtain⟨c1,c2⟩:=zz9 hu I ha r ok;exact SeqAt.notIn_listAt _ pl.isList c1 (by rw[c2];exact⟨.bl _,H,I,rfl,q⟩)
 .obtain⟨its,r,pl,hz⟩:=I.tuple hp;obtain⟨c1,c2⟩:=zz9 hu I ha r ok;exact SeqAt.notIn_tupleAt _ pl c1 (by rw[c2];exact⟨.bl _,H,I,rfl,q⟩)
end
section
def tUpdP(P:Program)(w:World)(K:Fg)(td ty:TE):TE:=fun σ H Q=>td σ H fun x H1=>∃a qs,x=.ref a/\H1 a=some (pdO P w a qs)/\ty σ H1 fun y H2=>rUpdP P w K x [y] H2 Q
def wq0(hu:X.A.units+1<cLine)(ho:PE X o td)(he:PE X e ty)(m:M1 X o "update" apos e cpos):PE X (.Call (.Attribute o "update" apos) [e] [] cpos) (tUpdP X.prog X.w X.K td ty):=by
 intro a0 s σ H Q I h;refine vq4 m.base m.few m.line vk2 PySem.F.slot_dict_update PySem.F.type_dict_update (thn (ho a0 s σ H _ I h) fun u s1 ⟨x,H1,I1,rx,a,qs,ex,d,q1⟩=>?_);subst ex;obtain rfl:u=Value.ref a:=rx;obtain⟨z,hd,xs,r,ob,es,ep,g1,g2,g3,g4,g5⟩:=(I1.hok a _ d).1;exists ⟨ob,g1,g2.1⟩,?_
 .intro b q;cases q;exact⟨ob,g1,g2.2.1⟩
 rw[m.trees];refine vk5 rfl (vm8 (vj5 (thn (he a0 s1 σ H1 _ I1 q1) fun iv s2 ⟨y,H2,I2,ry,q2⟩=>vn1 ?_)));exact wn4 hu a0 s2 σ H2 (.ref a) [y] (.ref a) [iv] Q I2 rfl (.cons ry .nil) q2
end
def yz6:Manifest.owners.lookup (String.ofList ['d','e','s','r','e','v','e','r'].reverse)=some Manifest.sig_reversed:=by kernel_rfl
def ws4:Slot "reversed" "__init__" "object.__init__":=.of (owner:="object") (n:="__init__") (by(rw[vq9,vk9];kernel_rfl)) (by rfl') (by rfl') (by rfl') (by first | exact .inl (by rfl') | exact .inr (by rfl')) (by(rw[vx2];kernel_rfl))
def zs2:Slot "reversed" "__next__" "reversed.__next__":=.of (owner:="reversed") (n:="__next__") (by(rw[vq9,vk9];kernel_rfl)) (by rfl') (by rfl') (by rfl') (by first | exact .inl (by rfl') | exact .inr (by rfl')) (by(rw[vx2];kernel_rfl))
def xf2:Slot "reversed" "__iter__" "reversed.__iter__":=.of (owner:="reversed") (n:="__iter__") (by(rw[vq9,vk9];kernel_rfl)) (by rfl') (by rfl') (by rfl') (by first | exact .inl (by rfl') | exact .inr (by rfl')) (by(rw[vx2];kernel_rfl))
def xf1:entryFor table "reversed.__next__"=some Builtin.«reversed.__next__»:=entryFor_of_tree (by kernel_rfl)
def wx6:entryFor table "reversed.__new__"=some Builtin.«reversed.__new__»:=entryFor_of_tree (by kernel_rfl)
def wb8:entryFor table "reversed.__iter__"=some Builtin.«dict_keyiterator.__iter__»:=
 entryFor_alias (id':="dict_keyiterator.__iter__") (by kernel_rfl) (by first | rfl | rfl' | (unfold String.splitOn;(simp +decide [String.splitOnAux]))) (by rfl') (by kernel_rfl)
def xc2(a:Value):argsOk "reversed.__next__" ⟨[a],[]⟩:=by
 unfold argsOk;(rw[signature?_of (id:="reversed.__next__") (n:=['_','_','t','x','e','n','_','_']) (o:=['d','e','s','r','e','v','e','r']) (by kernel_rfl) yz6];kernel_rfl)
def wd8(a:Value):argsOk "reversed.__iter__" ⟨[a],[]⟩:=by
 unfold argsOk;(rw[signature?_of (id:="reversed.__iter__") (n:=['_','_','r','e','t','i','_','_']) (o:=['d','e','s','r','e','v','e','r']) (by kernel_rfl) yz6];kernel_rfl)
def wk3:mroOf (.type "reversed")=pure [.type "reversed",.type "object"]:=by(rw[mroOf_type];kernel_rfl)
def ww7:typeLookup (.type "reversed") "__new__"=pure (some (.builtin "reversed.__new__")):=by(rw[vq9,vk9];kernel_rfl)
def xw1:TypeCalled "reversed" "reversed.__new__" "object.__init__":=
 ⟨by rfl',by rfl',⟨_,_,wk3⟩,madeBy_type wk3 ww7 (by rfl'),by rfl',by(rw[vx2];kernel_rfl),ws4⟩
def rv_tc(a:Value):checkTypeCall "reversed" ⟨[a],[]⟩=pure ():=by kernel_rfl
def rv_nc(a:Value):checkBuiltinCall "reversed.__new__" ⟨[.type "reversed",a],[]⟩=pure ():=by kernel_rfl
def rv_sub:isSubtype (.type "reversed") (.type "reversed")=pure true:=by(rw[vx2];kernel_rfl)
def wm2:typeLookup (.type "tuple") "__reversed__"=pure none:=by(rw[vq9,vk9];kernel_rfl)
abbrev ym1(h:Heap)(it a:Addr)(j:Int):Prop:=h.get? it=some {cls:=.type "reversed",dict:=none,data:=.fields #[.ref a,.int j 0],slots:=#[]}
section
def wd6(a:Addr)(xs:Array Value)(hb:xs.size<=sizeLine):
  Meets (Builtin.«reversed.__new__» ⟨[.type "reversed",.ref a],[]⟩) (fun _ R s=>s.heap.IsTuple a xs/\∀tk,R (.ok (.ret (.ref s⁻¹))) {s with heap:=s.heap.push {cls:=.type "reversed",data:=.fields #[.ref a,.int ((xs.size:Int)-1) 0]},toks:=tk}):=
 .of_wp fun prog w A R s h=>by
  obtain⟨ht,h⟩:=h;have a1:=rv_sub;have ty:s.TypeIs (.ref a) "tuple":=ht.typeIs;obtain⟨hp,g,d,tk,os⟩:=s;have n1:isSubtype (.type "tuple") (.type "dict")=pure false:=by(rw[vx2];kernel_rfl)
  have g1:=vw5.lookup;have g0:=wm2;have hn:=zx5;have hl:IsTup (Shared.heap ⟨hp,g,d,tk,os⟩) a xs:=ht;have hf:(xs.size:Int)<2 ^ 63:=by lia
  have a0:∀{Q:Vp}{A:Around}{E:Vp},Q (.int xs.size (tk+1)) ⟨hp,g,d,tk+1+1,os⟩->wpAny (model prog w) A (call (.builtin "len") [.ref a]) Q E ⟨hp,g,d,tk,os⟩:=fun h=>len_tuple (s:=⟨hp,g,d,tk,os⟩) hl hf h
  wp_walk using vn8 ty wm2,vt5 ty n1,vn8 ty vw5.lookup,a0
  exact⟨_,rfl,h _⟩
def wt9(hb:xs.size<=sizeLine)(ht:s.heap.IsTuple a xs)(h:∀tk,ym1 (s.heap.push {cls:=.type "reversed",data:=.fields #[.ref a,.int ((xs.size:Int)-1) 0]}) s⁻¹ a ((xs.size:Int)-1)->Q (.ref s⁻¹) {s with heap:=s.heap.push {cls:=.type "reversed",data:=.fields #[.ref a,.int ((xs.size:Int)-1) 0]},toks:=tk}):
  wpAny (model prog w) A (call (.type "reversed") [.ref a]) Q E s:=by
 refine callType_new xw1 (by decide) (rv_tc _) (rv_nc _) (fun obj=>F.args_object_init_2 obj _) wx6 (wd6 a xs hb) ⟨ht,fun tk=>?_⟩;have g:(s.heap.push {cls:=.type "reversed",data:=.fields #[.ref a,.int ((xs.size:Int)-1) 0]}).get? s⁻¹=some _:=vb8 _ rfl;exact⟨⟨_,g,rfl⟩,h tk g⟩
def xj6(a0:ym1 s.heap it a j)(h:Q (.ref it) s):wpAny (model prog w) A (pyIter (.ref it)) Q E s:=by
 have ty:s.TypeIs (.ref it) "reversed":=⟨_,a0,rfl⟩;refine wpAny_pyIter_slot ty xf2 (vg4 xf2 ty wb8 ?_ (wd8 _));refine wz7 ⟨_,rfl,"reversed",_,ty,zs2.lookup,h⟩
def wx2{it a:Addr}{j:Nat}{xs:Array Value}{x:Value}{Q:Option Value->Shared->Prop}(a0:ym1 s.heap it a (j:Int))(ht:IsTup s.heap a xs)(a4:a≠it)(hb:xs.size<=sizeLine)(hx:xs[j]?=some x)
  (hQ:∀h' tk,ym1 h' it a ((j:Int)-1)->Heap.SameBut it s.heap h'->Q (some x) {s with heap:=h',toks:=tk}):wpAny (model prog w) A (pyNext (.ref it)) Q E s:=by
 have ty:s.TypeIs (.ref it) "reversed":=⟨_,a0,rfl⟩;unfold pyNext;refine zz1 (vp9 (vg2 (name:=Str.ofString "__next__") ty zs2 (vg4 zs2 ty xf1 ?_ (xc2 _))));show wpAny _ _ (field (.ref it) 0 >>= _) _ _ s;refine zz1 (vh0 a0 rfl (x:=.ref a) rfl ?_);show wpAny _ _ (field (.ref it) 1 >>= _) _ _ s;refine zz1 (vh0 a0 rfl (x:=.int (j:Int) 0) rfl ?_);show wpAny _ _ (if (j:Int)<0 then _ else _) _ _ s;rw[vd0 (by lia)];refine zz1 (vn8 ht.typeIs vw5.lookup ?_);show wpAny _ _ (mkInt (j:Int) >>= _) _ _ s;refine zz1 (wpAny_mkInt ?_);have hj:j<xs.size:=by
  rcases vq1 j xs.size with h | h
  .exact h
  .rw[vt8 h]at hx;cases hx
 have hn:=zx5;have a2:IsTup (Shared.heap {s with toks:=s.toks+1}) a xs:=ht;refine zz1 (vp9 (getItem_tuple (s:={s with toks:=s.toks+1}) (j:=j) a2 (by lia) (by lia) (by unfold seqIndex?;(simp only[show ¬((j:Int)<0) by lia,vp8];rw[vd3 (by simp;lia)];simp)) hx ?_));show wpAny _ _ (field (.ref it) 1 >>= _) _ _ _;refine zz1 (vh0 a0 rfl (x:=.int (j:Int) 0) rfl ?_);refine zz1 (vk6 a0 (by simp) fun h' a3 a1=>?_);refine wz7 ⟨_,rfl,?_⟩;exact wz7 (hQ h' _ a3 a1)
def rv_end(hh:A.handled=none)(a0:ym1 s.heap it a j)(hj:j<0)(hQ:∀h' tk,Heap.ExtBut it s.heap h'->Q none {s with heap:=h',toks:=tk}):wpAny (model prog w) A (pyNext (.ref it)) Q E s:=by
 have ty:s.TypeIs (.ref it) "reversed":=⟨_,a0,rfl⟩;unfold pyNext;refine zz1 (vp9 (vg2 (name:=Str.ofString "__next__") ty zs2 (vg4 zs2 ty xf1 ?_ (xc2 _))));show wpAny _ _ (field (.ref it) 0 >>= _) _ _ s;refine zz1 (vh0 a0 rfl (x:=.ref a) rfl ?_);show wpAny _ _ (field (.ref it) 1 >>= _) _ _ s;refine zz1 (vh0 a0 rfl (x:=.int j 0) rfl ?_);show wpAny _ _ (if j<0 then _ else _) _ _ s;rw[vd3 hj];refine zz1 (vp2 ?_);refine zz1 ?_;show wpAny _ _ (setField (.ref it) 1 (rawInt (-1)) >>= fun _=>setField (.ref it) 0 .none) _ _ s;refine zz1 (vk6 a0 (by simp) fun h₁ a3 a2=>?_);refine vk6 a3 (by simp) fun h₂ a4 a1=>?_
 refine zz1 ?_;show wpAny _ _ (newExc (.type "StopIteration") [] >>= _) _ _ _;refine zz1 ?_;simp only[newExc,newTuple];refine zz1 (vg5 ?_ (by size_fits));refine zz1 (m:=firstArgMember _ _) (wpAny_of_eq (a:=Value.none) (by first | rfl | (simp only[firstArgMember];rfl)) ?_);refine vg5 ?_ (by size_fits);simp only[raiseNew];refine zz1 (wpAny_handled ?_);first | rw[show A.in1.handled=none from hh] | rw[hh]
 refine zz1 (wz7 (wpAny_throw ?_));refine zz1 (vt5 (T:="StopIteration") (b:=true) ⟨_,vb8 _ rfl,rfl⟩ isSubtype_stop (wz7 (hQ _ _ ?_)));exact fun b o hb e=>wz3 _ (wz3 _ (a1.extBut _ _ hb (a2.extBut _ _ hb e)))
end
def Itrv(K:Fg)(a:Addr)(n:Nat):It:=
 ⟨fun i H=>∃xs x,SqT K H a xs/\↑xs=n/\xs.reverse[i]?=some x,fun i H x H'=>H'=H/\∀xs,SqT K H a xs->xs.reverse[i]?=some x,fun i H=>∃xs,SqT K H a xs/\↑xs=n/\n<=i⟩
def wd1{P:Program}{w:World}{K:Fg}{tg:Expr}(a it:Addr)(a2:a≠it)(n:Nat):Turn P w K tg (Itrv K a n) [it] it (fun i h=>ym1 h it a ((n:Int)-1-(i:Nat))) where
 mem:=by simp
 obj:=fun i h st b hb=>by
  have e:b=it:=by simpa using hb
  subst e;exact⟨_,st,fun v z=>by cases z⟩
 keep:=fun i h h' st k=>k it (by simp) _ st
 item:=by
  intro X hP hw hK hc i a0 s σ H E I hf st hg;subst hP hw hK;obtain⟨xs,x,hq,hn,hx⟩:=hg;obtain⟨its,rv,p,hz⟩:=I.tuple hq;have hi:i<↑xs:=by
   have:=(wz2.mp hx).1;rwa [vs9]at this
  have a4:xs[↑xs-1-i]?=some x:=by rw[<-List.getElem?_reverse hi];exact hx
  obtain⟨u,hu,ru⟩:=rv.get a4;obtain⟨f0,f1,f2,f3,f4,f5⟩:=hf it (by simp);have ej:((n:Int)-1-(i:Nat))=((↑xs-1-i:Nat):Int):=by lia
  have a3:ym1 s.heap it a ((↑xs-1-i:Nat):Int):=by rw[<-ej];exact st
  have hl:=↑rv;refine wx2 a3 p a2 (by rw[vc0,<-hl];exact hz) (x:=u) (by simpa using hu) fun h' tk a5 sb=>?_
  have I1:Inv X a0 σ H {s with heap:=h',toks:=tk}:=I.turned (t':=tk) (fun b o hb e=>(sb.2 b hb).trans e) f0 f1 f3 f4 f5;have a1:ym1 h' it a ((n:Int)-1-((i+1:Nat):Int)):=by
   have e2:((n:Int)-1-((i+1:Nat):Int))=((↑xs-1-i:Nat):Int)-1:=by lia
   rw[e2];exact a5
  exact⟨u,rfl,yv8 (s:={s with heap:=h',toks:=tk}) a1 rfl rfl (by decide) ⟨x,H,I1,ru,⟨rfl,fun ys hy=>by rw[I.tuple_inj hy hq];exact hx⟩,a1,fun b hb=>(hf b hb).1⟩⟩
 done:=by
  intro X hP hw hK hc i a0 s σ H E I hf st hg;subst hP hw hK;obtain⟨xs,hq,hn,hx⟩:=hg;obtain⟨f0,f1,f2,f3,f4,f5⟩:=hf it (by simp);exact rv_end (I.ok.hd hc) st (by lia) fun h' tk eb=>⟨rfl,I.turned (t':=tk) (fun b o hb e=>eb b o hb e) f0 f1 f3 f4 f5⟩
 self:=fun _ _ _ _ _ st h=>xj6 st h
section
def iRev(K:Fg)(ta:TA):TI:=fun σ H R=>ta σ H fun vs H1=>∃a xs,vs=[.ref a]/\SqT K H1 a xs/\R (Itrv K a ↑xs) H1
def ym9:bootBuiltins "reversed"=some (.type "reversed"):=by rfl'
def pi_rev(hg:Gl X "reversed")(hm:X.mg "reversed"=none)(ha:PA X [a] ta)(hs:starEach [a] X.env=[(false,eval a X.env)]:=by rfl):PI X tg (.Call (.Name "reversed" p) [a] [] pos) (iRev X.K ta):=by
 intro a0 s σ H R I h;refine Call_ (zr0 I hg hm ym9 (vh3 (thn (ha pos a0 s σ H _ I h) fun us s1 ⟨vs,H1,I1,r1,q1⟩=>?_) (by rw[hs];rfl) rfl));obtain⟨l,xs,e,hq,q⟩:=q1;subst e;cases r1 with
 | cons r rr=>
  cases rr;cases r;obtain⟨its,rv,p1,hz⟩:=I1.tuple hq;have hl:=↑rv;have a1:l<s1⁻¹:=by obtain⟨o,e,_⟩:=p1;exact vb1 e
  refine wt9 (xs:=its.toArray) (by rw[vc0,<-hl];exact hz) p1 fun tk hr=>?_
  refine xj6 (s:={s1 with heap:=_,toks:=tk}) hr ?_;refine⟨s1⁻¹,[s1⁻¹],_,_,H1,rfl,I1.kept (t':=tk) fun b o e=>wz3 _ e,wd1 l _ (vb7 a1) ↑xs,?_,fun b hb=>?_,q⟩
  .have e0:(((↑xs:Nat):Int)-1-((0:Nat):Int))=((its.toArray.size:Nat):Int)-1:=by rw[vc0,hl];lia
   show ym1 _ _ _ _;rw[e0];exact hr
  .have e:b=s1⁻¹:=by simpa using hb
   subst e;exact I1.fpOk (wz6 _) (I1.hok.fresh (wz6 _))
end
def fsc{N P:List Str}{sc:Scope}(h1:sc.kind=.function:=by rfl)(h2:sc.isCoroutine=false:=by rfl)(h3:sc.isGenerator=false:=by rfl)(h4:N.Nodup:=by rfl')(h5:N.take P.length=P:=by rfl)(h6:∀x∈P,sc.names.lookup x=some .local\/sc.names.lookup x=some .cell:=by rfl')(h7:∀y∈sc.names,y.2≠.free:=by rfl'):zd0 N P sc:=⟨h1,h2,h3,h4,h5,h6,h7⟩
section
variable{x:Str}{pos pos':Pos}{e:Expr}{te:TE}{scope:Scope}{N':List Str}{src:List (Option Nat)}
def bkn(h1:scope.kind=.function:=by rfl)(h2:(scope.names.all fun y=>decide (y.2≠.cell))=true:=by rfl')(h3:(scope.names.all fun y=>decide (y.2=.local->scope.names.lookup y.1=some .local))=true:=by rfl')(h4:(scope.names.all fun y=>decide (y.2=.free->X.env.kindOf y.1=some .cell\/X.env.kindOf y.1=some .free))=true:=by rfl)(h5:↑src=N'.length:=by rfl)
  (h6:((N'.zip src).all fun p=>match p.2 with | some j=>decide (X.N[j]?=some p.1) && decide ((p.1,NameKind.free)∈scope.names) | none=>true)=true:=by rfl):BlkN X scope N' src:=⟨h1,h2,h3,h4,h5,h6⟩
def sL(i:Nat)(hN:X.N.Nodup)(he:PE X e te)(hi:X.N[i]?=some x:=by rfl)(hx:Loc X.env.scope x:=by exact .inl rfl)(hs:swapsWith e (some (.Name x pos')) pos.line X.env=pure false:=by rfl)(hf:X.fn x=true\/X.env.scope.names.lookup x=some .local:=by first | exact .inl rfl | exact .inr rfl):PS X (.Assign [.Name x pos'] e pos) (tAsg te (zf0 i)):=zk7 hN hi hx he hs hf
def gL(i:Nat)(hN:X.N.Nodup)(hi:X.N[i]?=some x:=by rfl)(hx:Loc X.env.scope x:=by exact .inl rfl)(hf:X.fn x=true\/X.env.scope.names.lookup x=some .local:=by first | exact .inl rfl | exact .inr rfl):PG X (.Name x pos) (zf0 i):=zq0 hN hi hx hf
end
end L2
local macro_rules | `(tactic| trivial)=>`(tactic| first | exact wz1 | exact .head _ | exact .tail _ (.head _) | exact .tail _ (.tail _ (.head _)) | exact fun _ h=>absurd h wz1 | simp)
local macro_rules|`(tactic|ac_rfl)=>`(tactic|first|dsimp only[L2.cxOf,L2.Cx.nox]|skip)
namespace Gn
open PySem L2
variable{P:Program}{w:World}{K:Fg}{mg:Str->Option Value}{base:Heap}{f:Addr}{fd:FuncData}
abbrev qH:Str:="_law_hand_here"
abbrev qW:Str:="_law_world_here"
abbrev qA:List Str:=[qH,qW,"_law_env"]
abbrev qB:List Str:=[qH,"_law_many"]
abbrev qC:List Str:=[qH,"_law_some"]
abbrev qD:List Str:=[qH,qW,"_law_env","_law_above","_law_deed_here"]
abbrev qE:List Str:=[qW,"_law_kind","_law_deed_here"]
abbrev qF:List Str:=[qH,qW,"_law_env","_law_level"]
abbrev qG:List Str:=[qW,"_law_kind"]
abbrev qI:List Str:=["program","kind","deed"]
abbrev qJ:List Str:=["_law_program_here"]
abbrev qK:List Str:=["program"]
def top(i:Nat):Stmt:=PySem.Challenge.pw_surecall_k14_made_bodies_and_kinds.main.body.getD i (.Pass ⟨0,0,0,0⟩)
abbrev wv8:Stmt:=top 18
abbrev wt0:Stmt:=top 19
abbrev sOf:Stmt:=top 20
structure zx2(d m t:Int):Prop where
 d0:0<=d
 m0:0<=m
 m1:m<4611686018427387904
 t0:0<=t
def Hand(H:Hp)(a:Addr)(d m t r:Int):Prop:=H a=some (.lst [.int d,.int m,.int t,.int r])/\zx2 d m t
abbrev hl(d m t r:Int):HO:=.lst [.int d,.int m,.int t,.int r]
inductive wm1(vs:List V)(H:Hp)(Q:VK):Prop
 | mk(a:Addr)(d m t r n:Int)(h1:vs=[.ref a,.int n])(h2:Hand H a d m t r)(h3:t<1000000)(h4:0<n)(h5:n<1000000)(h6:∀(x d' m' t':Int),0<=x->x<n->zx2 d' m' t'->t'<=t+1->Q (.int x) (upd H a (hl d' m' t' r))):wm1  vs H Q
def zh6:Sp:=fun vs H Q _=>wm1  vs H Q
def eI(ha:PE X a ta)(hb:PE X b tb)(hs:yw6 b:=by exact fun _ _=>rfl):PE X (.Subscript a b pos) (tOp (rIxL X.K) ta tb):=yp4 wx3 ha hb hs
section
def xc3:zd0 [qH,"_law_many","_law_digit","_law_turn","_law_mixed"] qB (zc1 wt0):=fsc
def at0:atI [a,b,c,d] 0=some a:=rfl
def at1:atI [a,b,c,d] 1=some b:=rfl
def at2:atI [a,b,c,d] 2=some c:=rfl
def at3:atI [a,b,c,d] 3=some d:=rfl
def wr9(F:Fun K "_law_take" "_law_take" wt0 f fd):FnOk P w K mg base CX0 (k+1) f fd qB zh6:=by
 refine F.ok xc3 (fun vs H Q E h=>?_) (fun a1 A outer s H vs Q E hr h=>?_)
 .obtain⟨a,d,m,t,r,n,rfl,_⟩:=h;rfl
 obtain⟨a,d,m,t,r,n,rfl,⟨hH,ok⟩,ht,a0,a2,q⟩:=h;exists _,zb3 (zg8 (zc2 yk4 (eI (pv 0) zb6) zb6 (zd6 _))
   (zb3 (sL 2 xc3.nd (zf2 yc0 (eI (pv 0) zb6) (pv 1)))
    (zb3 (zx0 (zf2 yc2 (eI (pv 0) zb6) (pv 1)) (yj2 (pv 0) zb6 zq1))
     (zb7 (zd1 (pv 2))))) zd4)
  (zb3 (zx0 (zf2 zm3 (eI (pv 0) zb6) zb6) (yj2 (pv 0) zb6 zq1))
  (zb3 (sL 3 xc3.nd (eI (pv 0) zb6))
  (zb3 (sL 4 xc3.nd (zf2 yc0 (zf2 yf9 (zf2 zm3 (eI (pv 0) zb6) (zf2 yf9 zb6 (pv 3))) (zf2 zm3 zb6 (zf2 yf9 (pv 3) (pv 3)))) zb6))
  (zb3 (zx0 (zf2 yc0 (zf2 yf9 (pv 4) (zf2 zm3 (zf2 yc0 (pv 4) zb6) zb6)) zb6) (yj2 (pv 0) zb6 zq1))
  (zb7 (zd1 (zf2 yc0 (zf2 yc2 (eI (pv 0) zb6) zb6) (pv 1))))))))
 exists _,rfl,a,_,_,_,rfl,rfl,SqL.of hH,at0,_,_,rfl,rfl,_,rfl;refine ite2 (fun c=>?_) (fun c=>?_)
 .have c':d > 0:=vb3 c;exists _,rfl,a,_,_,_,rfl,rfl,SqL.of hH,at0,_,rfl,_,_,rfl,rfl,a0;exists _,rfl,a,_,_,_,rfl,rfl,SqL.of hH,at0,_,rfl,_,_,rfl,rfl,⟨a0,by lia⟩;exists _,rfl,a,_,0,0,rfl,rfl,hH,rfl;exists _,rfl;exact q (d % n) (d / n) m t (vw1 _ (by lia)) (vr6 _ a0) ⟨Int.ediv_nonneg ok.d0 (by lia),ok.m0,ok.m1,ok.t0⟩ (by lia)
 .exists _,rfl,a,_,_,_,rfl,rfl,SqL.of hH,at2,_,_,rfl,rfl;exists _,rfl,a,_,2,2,rfl,rfl,hH,rfl;have H1:upd H a (.lst ([V.int d,.int m,.int t,.int r].set 2 (.int (t+1)))) a=some (.lst [.int d,.int m,.int (t+1),.int r]):=zb1;exists _,rfl,a,_,_,_,rfl,rfl,SqL.of H1,at2;exists _,rfl,a,_,_,_,rfl,rfl,SqL.of H1,at1,_,rfl,_,_,rfl,rfl,.inl (by constructor <;> decide),_,_,rfl,rfl;exists _,rfl,_,rfl,_,_,rfl,rfl,.inl ⟨by have:=ok.t0;lia,by lia⟩,_,_,rfl,rfl,_,_,rfl,rfl,.inr ?_,_,_,rfl,rfl,?_
  .have h1:0<=(t+1)*(t+1):=Int.mul_nonneg (by have:=ok.t0;lia) (by have:=ok.t0;lia);have h2:(t+1)*(t+1)<=1000000*1000000:=Int.mul_le_mul (by lia) (by lia) (by have:=ok.t0;lia) (by lia)
   constructor <;> lia
  .show(0:Int)<2305843009213693921
   decide
  have m0:0<=(m+39373*(t+1))*(48271+(t+1)*(t+1)) % 2305843009213693921:=vw1 _ (by decide);have m1:(m+39373*(t+1))*(48271+(t+1)*(t+1)) % 2305843009213693921<2305843009213693921:=vr6 _ (by decide);exists _,rfl,_,rfl,_,_,rfl,rfl,?_,_,_,rfl,rfl,_,_,rfl,rfl,.inl ⟨by lia,by lia⟩,_,_,rfl,rfl,?_
  .show(0:Int)<1000003
   decide
  .show(0:Int)<2305843009213693907
   decide
  exists _,rfl,a,_,1,1,rfl,rfl,H1,rfl;exists _,rfl,a,_,_,_,rfl,rfl,SqL.of zb1,rfl,_,_,rfl,rfl,⟨by decide,by decide⟩,_,rfl,_,_,rfl,rfl,a0;rw[zr2];exact q _ d _ (t+1) (vw1 _ (by lia)) (vr6 _ a0) ⟨ok.d0,vw1 _ (by decide),Int.lt_trans (vr6 _ (by decide)) (by decide),by have:=ok.t0;lia⟩ (by lia)
end
def FrS(S:List Addr)(H H':Hp):Prop:=∀b o,b∉S->H b=some o->H' b=some o
def FrS.refl:FrS S H H:=fun _ _ _ h=>h
def FrS.trans(a:FrS S H H1)(b:FrS S H1 H2):FrS S H H2:=fun c o n h=>b c o n (a c o n h)
def FrS.mono(a:FrS S H H1)(h:∀b∈S,b∈T):FrS T H H1:=fun c o n q=>a c o (fun z=>n (h c z)) q
def FrS.chg(h:a∈S):FrS S H (upd H a o):=fun b u n q=>by
 rw[zb5 (fun z=>n (by rw[z];exact h))];exact q
def FrS.new(h:H a=none):FrS S H (upd H a o):=fun b u n q=>by
 rw[zb5 (zb4 q h)];exact q
def FrS.seq(e:FrS S H H')(n:a∉S)(h:SqL K H a xs):SqL K H' a xs:=by
 rcases h with (h | ⟨o,h⟩) | h
 .exact .inl (.inl (e _ _ n h))
 .exact .inl (.inr ⟨o,e _ _ n h⟩)
 .exact .inr h
def Hand.at(h:zx2 d m t):Hand (upd H a (hl d m t r)) a d m t r:=⟨zb1,h⟩
def Hand.new(h:Hand H a d m t r)(n:H b=none):Hand (upd H b o) a d m t r:=⟨by rw[zb5 (zb4 h.1 n)];exact h.1,h.2⟩
inductive SpOf(K:Fg)(vs:List V)(H:Hp)(Q:VK):Prop
 | mk(a p:Addr)(d m t r:Int)(xs:List V)(h1:vs=[.ref a,.ref p])(h2:Hand H a d m t r)(h3:t<1000000)(h4:p≠a)(h5:SqL K H p xs)(h6:xs≠[])(h7:↑xs<1000)(h8:∀(x:V)(d' m' t':Int),x∈xs->zx2 d' m' t'->t'<=t+1->Q x (upd H a (hl d' m' t' r))):SpOf K vs H Q
def spOf(K:Fg):Sp:=fun vs H Q _=>SpOf K vs H Q
section
def scOf:zd0 qC qC (zc1 sOf):=fsc
structure Cal(P:Program)(w:World)(K:Fg)(mg:Str->Option Value)(base:Heap)(k:Nat)(x:Str)(ps:List Str)(sp:Sp):Prop where
 ex:∃g gd,FnOk P w K mg base CX0 k g gd ps sp/\Binds K gd ps []/\PySem.W.keepIn K (.ref g)=true/\mg x=some (.ref g)
def zb9(C:Cal X.prog X.w X.K X.mg X.base k x ps sp)(hr:Room k X.A)(hg:Gl X x)(ha:PA X (e::es) t)(a0:(x == ("__debug__":Str))=false:=by decide)(he:starEach (e::es) X.env=(false,eval e X.env)::starEach es X.env:=by rfl)(a1:(backTo pos (starEach es X.env)).any (·.1)=false:=by rfl):
  PE X (.Call (.Name x p) (e::es) [] pos) (zm8 sp [] E0 t):=by
 obtain⟨g,gd,G,b,h,m⟩:=C.ex;exact ws3 G hr hg m h b .nil pass0 ha a0 he a1
def xr7(h0:0<=i)(h1:i<(↑xs:Int)):∃v,atI xs i=some v/\v∈xs:=by
 have hk:i.toNat<↑xs:=by lia
 have ek:i=((i.toNat:Nat):Int):=by lia
 refine⟨xs[i.toNat],?_,vg6 hk⟩;have:=zr3 (xs:=xs) (j:=i.toNat) (zz2 hk);rw[<-ek]at this;exact this
def ok_of(F:Fun K "_law_of" "_law_of" sOf f fd)(T:Cal P w K mg base k "_law_take" qB zh6)(ml:mg "len"=none):
  FnOk P w K mg base CX0 (k+1) f fd qC (spOf K):=by
 refine F.ok scOf (fun vs H Q E h=>?_) (fun a5 A outer s H vs Q E hr h=>?_)
 .obtain⟨a,p,d,m,t,r,xs,rfl,_⟩:=h;rfl
 obtain⟨a,p,d,m,t,r,xs,rfl,hh,ht,a0,hS,a2,a1,q⟩:=h;exists _,zb7 (zd1 (eI (pv 1) (zb9 T hr rfl (zb0 (pv 0) (zb0 (zc5 zd5 rfl ml vg7 (zb0 (pv 1) zb2)) zb2)))));have a6:0<↑xs:=vz0.mpr a2;refine⟨_,rfl,_,rfl,_,rfl,p,_,rfl,.inl hS,a,d,m,t,r,_,rfl,hh,ht,by lia,by lia,fun x d' m' t' h0 h1 a3 a4=>?_⟩;obtain⟨v,hv,hm⟩:=xr7 h0 h1;have fr:FrS [a] H (upd H a (hl d' m' t' r)):=FrS.chg (by simp);exact⟨p,_,_,v,rfl,rfl,fr.seq (by simpa using a0) hS,hv,q v d' m' t' hm a3 a4⟩
end
abbrev zs5:Stmt:=top 21
abbrev lets:Str:="abcdefghijklmnopqrstuvwxyz"
def zj5(pre suf:Str)(c:Nat):Str:=pre++⟨#[c]⟩++suf
def yv3(pre suf:Str)(c:Nat):Str:=zj5 pre suf c++(if zj5 pre suf c=("own":Str) then("q":Str) else Str.empty)
def yk5(x y:Str):(x++y).cps=x.cps++y.cps:=rfl
def yh4(h:zj5 pre suf c=zj5 pre suf c'):c=c':=by
 have e:(pre.cps++#[c])++suf.cps=(pre.cps++#[c'])++suf.cps:=vg1 Str.cps h;have e2:=vg1 Array.toList e;simp at e2;exact e2
def xg2:(zj5 pre suf c).cps.size=(zj5 pre suf c').cps.size:=by
 unfold zj5;simp[yk5]
def xv3(h:yv3 pre suf c=yv3 pre suf c'):c=c':=by
 have hs:=vg1 (fun z:Str=>z.cps.size) h;have hl:=xg2 (pre:=pre) (suf:=suf) (c:=c) (c':=c');have q1:("q":Str).cps.size=1:=by decide
 have q0:Str.empty.cps.size=0:=by decide
 unfold yv3 at h hs
 by_cases h1:zj5 pre suf c=("own":Str)
 .by_cases h2:zj5 pre suf c'=("own":Str)
  .exact yh4 (h1.trans h2.symm)
  .rw[vd3 h1,vd0 h2]at hs;simp only[yk5,vs3,q1,q0]at hs;lia
 .by_cases h2:zj5 pre suf c'=("own":Str)
  .rw[vd0 h1,vd3 h2]at hs;simp only[yk5,vs3,q1,q0]at hs;lia
  .rw[vd0 h1,vd0 h2]at h;have e:=vg1 (fun z:Str=>z.cps.toList) h;simp only[yk5,vg3]at e;have e2:(zj5 pre suf c).cps.toList=(zj5 pre suf c').cps.toList:=List.append_cancel_right e;refine yh4 (pre:=pre) (suf:=suf) ?_;cases hx:zj5 pre suf c with
   | mk a=>cases hy:zj5 pre suf c' with
    | mk b=>
     rw[hx,hy]at e2;have:a=b:=Array.toList_inj.mp e2;rw[this]
def code(first stride:Int)(k:Nat):Nat:=(97+(first+stride*(k:Int)) % 26).toNat
def zn6(pre suf:Str)(first stride:Int)(n:Nat):List Str:=(List.range n).map fun k=>yv3 pre suf (code first stride k)
def wb2(hs:stride∈([1,3,5,7,9,11]:List Int))(h0:0<=first)(hj:j<=12)(hk:k<=12)(h:code first stride j=code first stride k):j=k:=by
 unfold code at h;simp only[vb4,wz1,vj2]at hs;rcases hs with rfl | rfl | rfl | rfl | rfl | rfl <;> lia
def yt7(hs:stride∈([1,3,5,7,9,11]:List Int))(h0:0<=first)(hn:n<=12):(zn6 pre suf first stride n).Nodup:=by
 unfold zn6;refine List.Pairwise.map _ (R:=fun j k=>j≠k/\j<n/\k<n) (fun j k ⟨h1,h2,h3⟩ e=>h1 ?_) ?_
 .exact wb2 hs h0 (by lia) (by lia) (xv3 e)
 .have:(List.range n).Pairwise (fun j k=>j<k):=List.pairwise_lt_range;refine List.Pairwise.imp_of_mem (fun {a b} ha hb a0=>?_) this;rw[uc0]at ha hb;exact⟨by lia,ha,hb⟩
def ys6:zn6 pre suf first stride (n+1)=zn6 pre suf first stride n++[yv3 pre suf (code first stride n)]:=by
 unfold zn6;rw[List.range_succ,wz9];rfl
def xp8(h0:0<=i)(h1:i<26):atI lets.cps.toList i=some (97+i).toNat:=by
 have key:∀j:Fin 26,lets.cps.toList[j.val]?=some (97+j.val):=by rfl'
 have e:i=((i.toNat:Nat):Int):=by lia
 have:=zr3 (xs:=lets.cps.toList) (j:=i.toNat) (key ⟨i.toNat,by lia⟩);rw[<-e]at this;rw[this]
 congr 1
 simp only;lia
def odd:List Str:=["end","or","main","gives","kind","under","late","deed","call","say","make","take","put"]
def xs5:odd.Nodup:=by rfl'
inductive xw4(vs:List V)(H:Hp)(Q:VK):Prop
 | mk(a:Addr)(d m t r:Int)(n:Nat)(h1:vs=[.ref a,.int (n:Int)])(h2:Hand H a d m t r)(h3:t+10<1000000)(h4:n<=12)(h5:∀(p:Addr)(ws:List Str)(d' m' t':Int)(H':Hp),FrS [a] H H'->Hand H' a d' m' t' r->t'<=t+10->H p=none->H' p=some (.lst (ws.map V.str))->↑ws=n->ws.Nodup->Q (.ref p) H'):xw4  vs H Q
def yj8:Sp:=fun vs H Q _=>xw4  vs H Q
def wn0{c:Const}{j}{pos:Pos}{es:List Expr}{env:Env}:starEach (.Constant c j pos::es) env=(false,eval (.Constant c j pos) env)::starEach es env:=by
 first | rfl | (rw[starEach])
def yr1{X:Cx}{x:Str}{j}{pos:Pos}{es:List Expr}{t:TA}(h:PA X es t):PA X (.Constant (.str x) j pos::es) (zc3 (tC (.str x)) t):=zb0 zd3 h wn0
def zf3{X:Cx}{x:Int}{j}{pos:Pos}{es:List Expr}{t:TA}(h:PA X es t):PA X (.Constant (.int x) j pos::es) (zc3 (tC (.int x)) t):=zb0 zb6 h wn0
def yb8:List Expr->Option (List Str)
 | []=>some []
 | .Constant (.str x) _ _::r=>(yb8 r).map (x::·)
 | _=>none
def xq4{X:Cx}:∀(es:List Expr)(ss:List Str),yb8 es=some ss->PA X es (fun _ H Q=>Q (ss.map V.str) H)
 | [],ss,h=>by
  cases h;exact zb2
 | e::r,ss,h=>by
  cases e with
  | Constant c j pos=>
   cases c with
   | str x=>
    have h:(yb8 r).map (x::·)=some ss:=h;cases hr:yb8 r with
    | none=>rw[hr]at h;cases h
    | some rs=>
     rw[hr]at h;cases h;exact yr1 (xq4 r rs hr)
   | _=>cases h
  | _=>cases h
def xm1(e:Expr):Option (List Str):=match e with
 | .List es _=>yb8 es
 | _=>none
def wq6{X:Cx}{e:Expr}{ss:List Str}(h:xm1 e=some ss):PE X e (fun _ H Q=>↑ss<=sizeLine/\∀p,H p=none->Q (.ref p) (upd H p (.lst (ss.map V.str)))):=by
 cases e with
 | List es pos=>
  have q:=zd7 (pos:=pos) (xq4 (X:=X) es ss h);intro a0 s σ H Q I hq;exact q a0 s σ H Q I ⟨by rw[lqm];exact hq.1,hq.2⟩
 | _=>cases h
def val1(l:List Stmt):Expr:=match l with
 | .Assign _ v _::_=>v
 | _=>.Constant .none 0 ⟨0,0,0,0⟩
def set1(l:List Stmt)(v:Expr):List Stmt:=match l with
 | .Assign t _ p::r=>.Assign t v p::r
 | l=>l
def body{X:Cx}{l l':List Stmt}{t:TS}(e:l=l')(h:PSs X l' t):PSs X l t:=by subst e;exact h
def xx0(xs:List V){n:Nat}(h:n<=↑xs):cutV xs none (some (n:Int))=xs.take n:=by
 unfold cutV;rw[HT.xf4,HT.yj9,vv9 h];simp
def xd9(xs:List V){n:Nat}(h:n<=↑xs):cutV xs (some (n:Int)) none=xs.drop n:=by
 unfold cutV;rw[HT.xf4,HT.yj9,vv9 h];exact vb2 (by rw[vh2];lia)
def zw7{a p:Addr}{H H':Hp}{d m t r:Int}(f:FrS [a] H H')(h:Hand H' a d m t r)(hp:H' p=none):H p=none:=by
 cases hz:H p with
 | none=>rfl
 | some o=>
  have a0:p≠a:=fun e=>by rw[e,h.1]at hp;cases hp
  have:=f p o (by simpa using a0) hz;rw[hp]at this;cases this
section
variable{P:Program}{w:World}{K:Fg}{mg:Str->Option Value}{base:Heap}{f g:Addr}{fd gd:FuncData}
abbrev nWords:List Str:=["_law_hand_here","_law_many","_law_odd","_law_first","_law_letters","_law_stem","_law_k","_law_at","_law_stride","_law_words_here","_law_word"]
def zj6:zd0 nWords ["_law_hand_here","_law_many"] (zc1 zs5):=⟨rfl,rfl,rfl,by rfl',rfl,by rfl',by rfl'⟩
def wc4{k:Nat}(F:Fun K "_law_words" "_law_words" zs5 f fd)(T:Cal P w K mg base k "_law_take" ["_law_hand_here","_law_many"] zh6)(ml:mg "len"=none)(mr:mg "range"=none)(mi:mg "int"=none):
  FnOk P w K mg base CX0 (k+1) f fd ["_law_hand_here","_law_many"] yj8:=by
 refine F.ok zj6 (fun vs H Q E h=>?_) (fun bo A outer s H vs Q E hr h=>?_)
 .obtain⟨a,d,m,t,r,n,rfl,_⟩:=h;rfl
 obtain⟨a,d,m,t,r,n,rfl,hh,ht,hn,q⟩:=h;have s1:∀{n:Nat},n<=1000->n<=sizeLine:=fun h=>vb5 (zb8 h);have eB:zg6 zs5=set1 (zg6 zs5) (val1 (zg6 zs5)):=rfl;have hO:xm1 (val1 (zg6 zs5))=some odd:=by rfl'
 have aq:∀(x:Str)(p:Pos)(n:Nat)(env:Env),swapsWith (val1 (zg6 zs5)) (some (.Name x p)) n env=pure false:=fun _ _ _ _=>rfl;rw[eB];generalize val1 (zg6 zs5)=L at hO aq;exists _,zb3 (zk7 (i:=2) zj6.nd rfl (vt9 rfl) (wq6 hO) (aq _ _ _ _))
  (zb3 (zg8 (zc2 zn2 (zb9 T hr rfl (zb0 (pv 0) (zb0 zb6 zb2))) zb6 (zd6 _))
   (zb3 (zk7 (i:=3) zj6.nd rfl (vt9 rfl) (zb9 T hr rfl (zb0 (pv 0) (zb0 zb6 zb2))))
    (zb7 (zd1 (zj9 zv4 (zf2 yh2 (zj9 zv4 (pv 2) (zm7 (pv 3)) zm9) (zj9 zv4 (pv 2) zm9 (zm7 (pv 3)))) zm9 (zm7 (pv 1)))))) zd4)
  (zb3 (zk7 (i:=4) zj6.nd rfl (vt9 rfl) zd3)
  (zb3 (zk7 (i:=5) zj6.nd rfl (vt9 rfl) zd3)
  (zb3 (zf9 vd5 rfl (zm2 rfl mr (zb0 (zb9 T hr rfl (zb0 (pv 0) (zb0 zb6 zb2))) zb2)) (zq0 (i:=6) zj6.nd rfl (vt9 rfl))
   (zb7 (zk7 (i:=5) zj6.nd rfl (vt9 rfl) (zf2 zq2 (pv 5) (yp4 wg5 (pv 4) (zb9 T hr rfl (zb0 (pv 0) (zb0 zb6 zb2))) (fun _ _=>rfl))))))
  (zb3 (zk7 (i:=7) zj6.nd rfl (vt9 rfl) (zb9 T hr rfl (zb0 (pv 0) (zb0 (zf2 zm3 (zc5 yr0 rfl ml vg7 (zb0 (pv 5) zb2)) zb6) zb2))))
  (zb3 (zk7 (i:=3) zj6.nd rfl (vt9 rfl) (zb9 T hr rfl (zb0 (pv 0) (zb0 zb6 zb2))))
  (zb3 (zk7 (i:=8) zj6.nd rfl (vt9 rfl) (eI (zd7 (zf3 (zf3 (zf3 (zf3 (zf3 (zf3 zb2))))))) (zb9 T hr rfl (zb0 (pv 0) (zb0 zb6 zb2)))))
  (zb3 (zk7 (i:=9) zj6.nd rfl (vt9 rfl) (zd7 zb2))
  (zb3 (zf9 vd5 rfl (zm2 rfl mr (zb0 (pv 1) zb2)) (zq0 (i:=6) zj6.nd rfl (vt9 rfl))
   (zb3 (zk7 (i:=10) zj6.nd rfl (vt9 rfl) (zf2 zq2 (zf2 zq2 (zj9 wm5 (pv 5) zm9 (zm7 (pv 7))) (yp4 wg5 (pv 4) (zf2 yc0 (zf2 zm3 (pv 3) (zf2 yf9 (pv 8) (pv 6))) zb6) (fun _ _=>rfl))) (zj9 wm5 (pv 5) (zm7 (pv 7)) zm9)))
    (zb7 (zf5 (zk8 vd2 vd9 vf0 zd8 (pv 9) (zb0 (zf2 zq2 (pv 10) (zf2 wq3 zd3 (zc7 zs7 rfl mi (by rfl') (zb0 (zn3 zn2 (pv 10) zd3 (zd6 _)) zb2)))) zb2))))))
  (zb7 (zd1 (pv 9))))))))))))
 refine⟨s1 (by show 13<=1000;decide),fun po a8=>?_⟩;have b5:Hand (upd H po (.lst (odd.map V.str))) a d m t r:=hh.new a8;have b0:FrS [a] H (upd H po (.lst (odd.map V.str))):=FrS.new a8;have ar:po≠a:=fun e=>by rw[e,hh.1]at a8;cases a8
 refine⟨_,rfl,a,d,m,t,r,8,rfl,b5,by lia,by decide,by decide,fun x d1 m1 t1 x0 x1 bk bm=>?_⟩;have av:FrS [a] H _:=b0.trans (FrS.chg (a:=a) (o:=hl d1 m1 t1 r) (by simp));have ag:upd (upd H po (.lst (odd.map V.str))) a (hl d1 m1 t1 r) po=some (.lst (odd.map V.str)):=by rw[zb5 ar,zb1]
 have aw:Hand (upd (upd H po (.lst (odd.map V.str))) a (hl d1 m1 t1 r)) a d1 m1 t1 r:=Hand.at bk;generalize upd (upd H po (.lst (odd.map V.str))) a (hl d1 m1 t1 r)=H2 at *;exists rfl,_,rfl;refine ite2 (fun c=>?_) (fun c=>?_)
 .refine⟨_,rfl,a,d1,m1,t1,r,13,rfl,aw,by lia,by decide,by decide,fun y d2 m2 t2 y0 y1 al be=>?_⟩;have a9:FrS [a] H _:=av.trans (FrS.chg (a:=a) (o:=hl d2 m2 t2 r) (by simp));have a3:upd H2 a (hl d2 m2 t2 r) po=some (.lst (odd.map V.str)):=by rw[zb5 ar];exact ag
  have ad:Hand (upd H2 a (hl d2 m2 t2 r)) a d2 m2 t2 r:=Hand.at al;generalize upd H2 a (hl d2 m2 t2 r)=H3 at *;obtain⟨j,rfl⟩:∃j:Nat,y=(j:Int):=⟨y.toNat,by lia⟩;have hj:j<=↑(odd.map V.str):=by show j<=13;lia
  refine⟨_,rfl,_,rfl,_,rfl,po,_,rfl,SqL.of a3,fun p1 ab=>?_⟩;have e1:∀o,upd H3 p1 o po=some (.lst (odd.map V.str)):=fun o=>by rw[zb5 (zb4 a3 ab)];exact a3
  refine⟨_,rfl,_,rfl,_,rfl,po,_,rfl,SqL.of (e1 _),fun p2 a4=>?_⟩;have e2:p1≠p2:=fun z=>by rw[<-z,zb1]at a4;cases a4
  rw[xd9 _ hj,xx0 _ hj]at *;have b8:↑((odd.map V.str).drop j)+↑((odd.map V.str).take j)<=sizeLine:=by
   rw[vh2,vc2];exact s1 (by show(odd.map V.str).length-j+min j ↑(odd.map V.str)<=1000;have:↑(odd.map V.str)=13:=rfl;lia)
  refine⟨p1,p2,_,_,rfl,rfl,by rw[zb5 e2];exact zb1,zb1,b8,fun p3 ae=>?_⟩;refine⟨_,rfl,_,rfl,p3,_,rfl,SqL.of zb1,fun p4 af=>?_⟩;have ai:(odd.map V.str).drop j++(odd.map V.str).take j=((odd.drop j++odd.take j)).map V.str:=by rw[wz9,uc4,ub2]
  have ax:↑(odd.drop j++odd.take j)=13:=by
   rw[wz4,vh2,vc2];have:↑odd=13:=rfl;lia
  have bh:(odd.drop j++odd.take j).Nodup:=by
   have hp:(odd.drop j++odd.take j).Perm odd:=vm0.trans (by rw[vg0]);exact hp.nodup_iff.mpr xs5
  rw[ai]at af ⊢;rw[xx0 _ (by rw[lqm,ax];lia)];have f1:FrS [a] H3 (upd H3 p1 (.lst ((odd.map V.str).drop j))):=FrS.new ab;refine q p4 ((odd.drop j++odd.take j).take n) d2 m2 t2 _ (a9.trans ((f1.trans (FrS.new a4)).trans ((FrS.new ae).trans (FrS.new af)))) (((((ad.new ab).new a4).new ae).new af)) (by lia) ?_ (by rw[zb1,ub2]) (by rw[vc2,ax];lia) (bh.sublist (vq2 _ _));exact zw7 (H':=upd (upd (upd H3 p1 _) p2 _) p3 _) (a9.trans ((f1.trans (FrS.new a4)).trans (FrS.new ae))) (((ad.new ab).new a4).new ae) af
 .-- the loop that makes the a0
  refine⟨_,rfl,a,d1,m1,t1,r,5,rfl,aw,by lia,by decide,by decide,fun y d2 m2 t2 y0 y1 al be=>?_⟩;have a9:FrS [a] H _:=av.trans (FrS.chg (a:=a) (o:=hl d2 m2 t2 r) (by simp));have ad:Hand (upd H2 a (hl d2 m2 t2 r)) a d2 m2 t2 r:=Hand.at al;generalize upd H2 a (hl d2 m2 t2 r)=H3 at *;refine⟨_,rfl,by lia,by lia,zp2 (lo:=0) (n:=y.toNat) (fun i σ Hx=>∃(a0:Str)(kx:Option V)(dx mx tx:Int),σ=[some (.ref a),some (.int n),some (.ref po),none,some (.str lets),some (.str a0),kx,none,none,none,none]/\
   ↑a0<=i/\FrS [a] H Hx/\Hand Hx a dx mx tx r/\tx<=t2+i) ⟨Str.empty,none,d2,m2,t2,rfl,wz6 _,a9,ad,by lia⟩ (fun i σ Hx hi ⟨a0,kx,dx,mx,tx,hσ,bj,an,ao,ba⟩=>?_) (fun σ Hx ⟨a0,kx,dx,mx,tx,hσ,bj,an,ao,ba⟩=>?_)⟩
  .subst hσ;refine⟨_,rfl,_,rfl,_,rfl,a,dx,mx,tx,r,26,rfl,ao,by lia,by decide,by decide,fun z d3 m3 t3 z0 z1 bb bu=>?_⟩;exists lets,z,_,rfl,rfl,s1 (by decide),xp8 z0 z1;exists a0,_,rfl,rfl,?_
   .show ↑a0+1<=sizeLine;exact s1 (by lia)
   .refine⟨_,_,d3,m3,t3,rfl,?_,an.trans (FrS.chg (by simp)),Hand.at bb,by lia⟩;show(a0.cps++#[_]).size<=i+1;rw[vs3];show ↑a0+1<=i+1;lia
  .subst hσ;have bt:(y.toNat:Int)<=4:=by lia
   refine⟨_,rfl,_,rfl,_,rfl,s1 (by lia),_,_,rfl,rfl,a,dx,mx,tx,r,_,rfl,ao,by lia,by lia,by lia,fun u d4 m4 t4 u0 u1 b2 br=>?_⟩;have b6:FrS [a] H _:=an.trans (FrS.chg (a:=a) (o:=hl d4 m4 t4 r) (by simp));have b7:Hand (upd Hx a (hl d4 m4 t4 r)) a d4 m4 t4 r:=Hand.at b2;generalize upd Hx a (hl d4 m4 t4 r)=H4 at *;refine⟨_,rfl,a,d4,m4,t4,r,26,rfl,b7,by lia,by decide,by decide,fun v d5 m5 t5 v0 v1 b3 bn=>?_⟩;have b9:FrS [a] H _:=b6.trans (FrS.chg (a:=a) (o:=hl d5 m5 t5 r) (by simp));have as:Hand (upd H4 a (hl d5 m5 t5 r)) a d5 m5 t5 r:=Hand.at b3;generalize upd H4 a (hl d5 m5 t5 r)=H5 at *;refine⟨s1 (by show 6<=1000;decide),fun ps aa=>?_⟩;have bl:=as.new (o:=.lst [.int 1,.int 3,.int 5,.int 7,.int 9,.int 11]) aa;have ah:ps≠a:=fun e=>by rw[e,as.1]at aa;cases aa
   refine⟨_,rfl,a,d5,m5,t5,r,6,rfl,bl,by lia,by decide,by decide,fun z d6 m6 t6 z0 z1 bg bq=>?_⟩;obtain⟨sv,bc,ay⟩:=xr7 (xs:=[V.int 1,.int 3,.int 5,.int 7,.int 9,.int 11]) z0 z1;exists ps,_,_,sv,rfl,rfl,SqL.of (by rw[zb5 ah,zb1]),bc;have au:FrS [a] H _:=(b9.trans (FrS.new (o:=.lst [.int 1,.int 3,.int 5,.int 7,.int 9,.int 11]) aa)).trans (FrS.chg (a:=a) (o:=hl d6 m6 t6 r) (by simp));have aj:Hand (upd (upd H5 ps (.lst [.int 1,.int 3,.int 5,.int 7,.int 9,.int 11])) a (hl d6 m6 t6 r)) a d6 m6 t6 r:=Hand.at bg;obtain⟨a1,rfl,a7⟩:∃st:Int,sv=.int st/\st∈([1,3,5,7,9,11]:List Int):=by
    simp only[vb4,wz1,vj2]at ay;rcases ay with rfl | rfl | rfl | rfl | rfl | rfl
    all_goals exact⟨_,rfl,by simp⟩
   have bi:0<=a1/\a1<=11:=by
    simp only[vb4,wz1,vj2]at a7;lia
   refine⟨s1 (by decide),fun pw a5=>?_⟩;have a2:=zw7 au aj a5;have bd:FrS [a] H _:=au.trans (FrS.new (o:=.lst []) a5);have b4:=aj.new (o:=.lst []) a5;have am:upd (upd (upd H5 ps (.lst [.int 1,.int 3,.int 5,.int 7,.int 9,.int 11])) a (hl d6 m6 t6 r)) pw (.lst []) pw=some (.lst []):=zb1;have ak:pw≠a:=fun e=>by rw[e,aj.1]at a5;cases a5
   generalize upd (upd (upd H5 ps (.lst [.int 1,.int 3,.int 5,.int 7,.int 9,.int 11])) a (hl d6 m6 t6 r)) pw (.lst [])=H8 at *;refine⟨_,rfl,n,rfl,by lia,by lia,zp2 (lo:=0) (n:=(n:Int).toNat) (fun i σ Hx=>∃(kx wx:Option V),σ=[some (.ref a),some (.int n),some (.ref po),some (.int v),some (.str lets),some (.str a0),kx,some (.int u),some (.int a1),some (.ref pw),wx]/\
    FrS [a] H Hx/\Hand Hx a d6 m6 t6 r/\Hx pw=some (.lst ((zn6 (Txt.slice a0 none (some u)) (Txt.slice a0 (some u) none) v a1 i).map V.str))) ⟨kx,none,rfl,bd,b4,am⟩ (fun i σ Hx hi ⟨kx,wx,hσ,ap,ac,a6⟩=>?_) (fun σ Hx ⟨kx,wx,hσ,ap,ac,a6⟩=>?_)⟩
   .subst hσ;have bp:i<n:=by lia
    have az:↑a0<=sizeLine:=s1 (by lia);have pl:=Txt.slice_le a0 none (some u);have sl:=Txt.slice_le a0 (some u) none;have b1:0<=(v+a1*(0+(i:Int))) % 26:=vw1 _ (by decide);have bf:(v+a1*(0+(i:Int))) % 26<26:=vr6 _ (by decide);exists _,rfl,_,rfl,u,rfl,a0,rfl,az,_,rfl,_,rfl,_,rfl,_,rfl,_,_,rfl,rfl,.inl ⟨by lia,by lia⟩,_,_,rfl,rfl,_,_,rfl,rfl,by show(0:Int)<26;decide,lets,_,_,rfl,rfl,s1 (by decide),xp8 b1 bf,
     _,_,rfl,rfl,?_,_,rfl,_,rfl,u,rfl,a0,rfl,az,_,_,rfl,rfl,?_
    .show(Txt.slice a0 none (some u)).length+1<=sizeLine;exact s1 (by lia)
    .have e:↑(Txt.slice a0 none (some u)++(⟨#[(97+(v+a1*(0+(i:Int))) % 26).toNat]⟩:Str))=↑(Txt.slice a0 none (some u))+1:=by
      show(_++#[_]).size=_;rw[vs3];rfl
     show(Txt.slice a0 none (some u)++(⟨#[(97+(v+a1*(0+(i:Int))) % 26).toNat]⟩:Str)).length+↑(Txt.slice a0 (some u) none)<=sizeLine;rw[e];exact s1 (by lia)
    have ew:Txt.slice a0 none (some u)++(⟨#[(97+(v+a1*(0+(i:Int))) % 26).toNat]⟩:Str)++Txt.slice a0 (some u) none=zj5 (Txt.slice a0 none (some u)) (Txt.slice a0 (some u) none) (code v a1 i):=by
     unfold zj5 code;rw[Int.zero_add]
    have bs:↑(zj5 (Txt.slice a0 none (some u)) (Txt.slice a0 (some u) none) (code v a1 i))<=20:=by
     show((_++#[_])++_).size<=20;rw[vs3,vs3];show(Txt.slice a0 none (some u)).length+1+↑(Txt.slice a0 (some u) none)<=20;lia
    rw[ew];generalize hw:zj5 (Txt.slice a0 none (some u)) (Txt.slice a0 (some u) none) (code v a1 i)=wd at *;refine⟨_,rfl,.inl ⟨rfl,_,SqL.of a6⟩,_,rfl,_,rfl,rfl,.inr ⟨_,rfl,_,_,rfl,rfl,?_,_,_,rfl,rfl,?_,pw,_,_,rfl,rfl,a6,?_,?_⟩⟩
    .cases decide (V.str wd=V.str ("own":Str)) <;> simp
    .have h1:∀c:Prop,[Decidable c]->↑(if c then Str.empty else("q":Str))<=1:=fun c _=>by
      by_cases h:c
      .rw[vd3 h];decide
      .rw[vd0 h];decide
     have h2:=h1 ((if decide (V.str wd=V.str ("own":Str))=true then(1:Int) else 0)=0);exact s1 (by lia)
    .have:↑((zn6 (Txt.slice a0 none (some u)) (Txt.slice a0 (some u) none) v a1 i).map V.str)=i:=by
      unfold zn6;rw[lqm,lqm,List.length_range]
     rw[this];exact zb8 (by lia)
    .exists _,_,rfl,?_,?_
     .intro b o hb hx;rw[zb5 (fun e=>by rw[e,a2]at hx;cases hx)];exact ap b o hb hx
     .exact⟨by rw[zb5 (vj3 ak)];exact ac.1,ac.2⟩
     .rw[zb1,ys6,wz9];have e1:yv3 (Txt.slice a0 none (some u)) (Txt.slice a0 (some u) none) (code v a1 i)=wd++(if (if decide (V.str wd=V.str ("own":Str))=true then(1:Int) else 0)=0 then Str.empty else("q":Str)):=by
       unfold yv3;rw[hw]
       by_cases h:wd=("own":Str)
       .rw[vd3 h,vd3 (vd1 (by rw[h])),vd0 (by decide)]
       .have h':¬(V.str wd=V.str ("own":Str)):=fun z=>h (V.str.inj z);rw[vd0 h,vf4 h'];rfl
      rw[e1];rfl
   .subst hσ;exists _,rfl;rw[vq3]at a6;refine q pw _ d6 m6 t6 Hx ap ac (by lia) a2 a6 (by unfold zn6;rw[lqm,List.length_range]) (yt7 a7 v0 hn)
end
inductive wm0(K:Fg)(vs:List V)(H:Hp)(Q:VK):Prop
 | mk(p:Addr)(ns:List Int)(k:Nat)(h1:vs=[.ref p,.int (k:Int)])(h2:SqL K H p (ns.map V.int))(h3:↑ns<=63)(h4:k<=63)(h5:∀(a:Addr)(d m:Int),H a=none->zx2 d m 0->Q (.ref a) (upd H a (hl d m 0 0))):wm0 K vs H Q
def xx8(K:Fg):Sp:=fun vs H Q _=>wm0 K vs H Q
section
def xk6:zd0 ["_law_script","_law_k","_law_cell"] ["_law_script","_law_k"] (zc1 wv8):=fsc
def xf8(h0:0<=c)(k0:0<=k)(k1:k<=63)(b:Bool):zx2 (c*(if b then 1 else 0)) (c % 2305843009213693951+7919*k+11) 0:=by
 have h1:0<=c % 2305843009213693951:=vw1 _ (by decide);have h2:c % 2305843009213693951<2305843009213693951:=vr6 _ (by decide);refine⟨?_,by lia,by lia,Int.le_refl 0⟩;cases b
 .show 0<=c*0;lia
 .show 0<=c*1;lia
def wt4(F:Fun K "_law_hand" "_law_hand" wv8 f fd)(ml:mg "len"=none)(ma:mg "abs"=none)(mi:mg "int"=none):FnOk P w K mg base CX0 (k+1) f fd ["_law_script","_law_k"] (xx8 K):=by
 refine F.ok xk6 (fun vs H Q E h=>?_) (fun a0 A outer s H vs Q E hr h=>?_)
 .obtain⟨p,ns,k,rfl,_⟩:=h;rfl
 obtain⟨p,ns,j,rfl,hS,a1,hk,q⟩:=h;exists _,zb3 (sL 2 xk6.nd zb6)
  (zb3 (zg8 (zc2 xh2 (pv 1) (zc5 zd5 rfl ml vg7 (zb0 (pv 0) zb2)) (zd6 _))
   (zb7 (sL 2 xk6.nd (zc5 wb4 rfl ma (by rfl') (zb0 (eI (pv 0) (pv 1)) zb2)))) zd4)
  (zb7 (zd1 (zd7 (zb0 (zf2 yf9 (pv 2) (zc7 zs7 rfl mi (by rfl') (zb0 (zn3 op_ge (pv 2) (zf2 op_pow zb6 zb6) (zd6 _)) zb2)))
   (zb0 (zf2 zm3 (zf2 zm3 (zf2 yc0 (pv 2) zb6) (zf2 yf9 zb6 (pv 1))) zb6) (zb0 zb6 (zb0 zb6 zb2))))))))
 have s1:∀{n:Nat},n<=1000->n<=sizeLine:=fun h=>vb5 (zb8 h);have hl:↑(ns.map V.int)=↑ns:=List.length_map _;exists _,rfl,_,rfl,p,_,rfl,.inl hS,_,_,rfl,rfl,_,rfl;refine ite2 (fun c=>?_) (fun c=>?_)
 .have c':(j:Int)<((↑(ns.map V.int):Nat):Int):=vb3 c;rw[hl]at c';have hj:j<↑ns:=by lia
  have hv:atI (ns.map V.int) (j:Int)=some (.int ns[j]):=zr3 (by rw[wz5,zz2 hj];rfl);exists _,rfl,_,rfl,p,_,_,_,rfl,rfl,hS,hv,_,rfl;have c0:0<=(if ns[j]<0 then -ns[j] else ns[j]):=by split <;> lia
  refine⟨_,rfl,_,rfl,_,_,rfl,rfl,⟨by decide,by decide,by decide⟩,_,_,rfl,rfl,.inr ⟨_,rfl,_,_,rfl,rfl,.inr ?_,_,rfl,_,_,rfl,rfl,by show(0:Int)<2305843009213693951;decide,_,rfl,_,_,rfl,rfl,.inl (by constructor <;> decide),_,_,rfl,rfl,_,_,rfl,rfl,s1 (by show 4<=1000;decide),fun a ha=>?_⟩⟩
  .cases decide ((if ns[j]<0 then -ns[j] else ns[j])≥10 ^ (18:Int).toNat) <;> (constructor <;> decide)
  .exact q a _ _ ha (xf8 c0 (by lia) (by lia) _)
 .refine⟨_,rfl,_,rfl,_,_,rfl,rfl,⟨by decide,by decide,by decide⟩,_,_,rfl,rfl,.inr ⟨_,rfl,_,_,rfl,rfl,.inr ?_,_,rfl,_,_,rfl,rfl,by show(0:Int)<2305843009213693951;decide,_,rfl,_,_,rfl,rfl,.inl (by constructor <;> decide),_,_,rfl,rfl,_,_,rfl,rfl,s1 (by show 4<=1000;decide),fun a ha=>?_⟩⟩
  .cases decide ((0:Int)≥10 ^ (18:Int).toNat) <;> (constructor <;> decide)
  .exact q a _ _ ha (xf8 (Int.le_refl 0) (by lia) (by lia) _)
end
abbrev Tr:=List (Str×Option Str)
structure TrOk(tr:Tr):Prop where
 nd:(tr.map (·.1)).Nodup
 up:∀(i:Nat) n e,tr[i]?=some (n,some e)->∃j,j<i/\∃g,tr[j]?=some (e,g)
def TrOk.nil:TrOk []:=⟨vn6,fun i n e h=>by simp at h⟩
def TrOk.snoc(h:TrOk tr)(hn:n∉tr.map (·.1))(he:∀x,e=some x->x∈tr.map (·.1)):TrOk (tr++[(n,e)]):=by
 refine⟨?_,fun i n' e' hi=>?_⟩
 .rw[wz9];exact yf7 h.nd hn
 .by_cases a0:i<↑tr
  .rw[vh8 a0]at hi;obtain⟨j,hj,g,hg⟩:=h.up i n' e' hi;exact⟨j,hj,g,by rw[vh8 (by lia)];exact hg⟩
  .rw[vk0 (by lia)]at hi;have h0:i-↑tr=0:=by
    cases hz:i-↑tr with
    | zero=>rfl
    | succ k=>rw[hz]at hi;simp at hi
   rw[h0]at hi;simp only[vt0,ub8,Prod.mk.injEq]at hi;obtain⟨_,a1⟩:=hi;obtain⟨p,hp,e1⟩:=vb9.mp (he e' a1);obtain⟨j,hj,ej⟩:=vf8 hp;exact⟨j,by lia,p.2,by rw[vh8 hj,zz2 hj,ej,<-e1]⟩
def TrOk.one{tr:Tr}(h:TrOk tr){i j:Nat}{n:Str}{a b:Option Str}(hi:tr[i]?=some (n,a))(hj:tr[j]?=some (n,b)):i=j:=by
 have e1:(tr.map (·.1))[i]?=some n:=by rw[wz5,hi];rfl
 have e2:(tr.map (·.1))[j]?=some n:=by rw[wz5,hj];rfl
 obtain⟨h1,e1⟩:=wz2.mp e1;obtain⟨h2,e2⟩:=wz2.mp e2;exact(vx3 h.nd).mp (e1.trans e2.symm)
inductive Up(tr:Tr):Str->List Str->Prop
 | root {i:Nat} {n:Str}:tr[i]?=some (n,none)->Up tr n [n]
 | step {i:Nat} {n e:Str} {l:List Str}:tr[i]?=some (n,some e)->Up tr e l->Up tr n (n::l)
def Up.exists(h:TrOk tr):∀(i:Nat) n g,tr[i]?=some (n,g)->∃l,Up tr n l:=by
 intro i
 induction i using Nat.strongRecOn with
 | ind i ih=>
  intro n g hi;cases g with
  | none=>exact⟨_,.root hi⟩
  | some e=>
   obtain⟨j,hj,g',hg⟩:=h.up i n e hi;obtain⟨l,hl⟩:=ih j hj e g' hg;exact⟨_,.step hi hl⟩
def Up.inj{tr:Tr}(h:TrOk tr){n:Str}{l l':List Str}(a:Up tr n l)(b:Up tr n l'):l=l':=by
 induction a generalizing l' with
 | root hi=>
  cases b with
  | root _=>rfl
  | step hj _=>have:=h.one hi hj;subst this;rw[hi]at hj;cases hj
 | step hi _ ih=>
  cases b with
  | root hj=>have:=h.one hi hj;subst this;rw[hi]at hj;cases hj
  | step hj hb=>
   have:=h.one hi hj;subst this;rw[hi]at hj;cases hj;rw[ih hb]
def Up.mem(a:Up tr n l):∀x∈l,x∈tr.map (·.1):=by
 induction a with
 | root hi=>
  intro x hx;rw[vc7]at hx;subst hx;exact vb9.mpr ⟨_,vb0 hi,rfl⟩
 | step hi _ ih=>
  intro x hx;rcases vb4.mp hx with rfl | hx
  .exact vb9.mpr ⟨_,vb0 hi,rfl⟩
  .exact ih x hx
def Up.len{tr:Tr}(h:TrOk tr):∀(i:Nat) n g l,tr[i]?=some (n,g)->Up tr n l->↑l<=i+1:=by
 intro i
 induction i using Nat.strongRecOn with
 | ind i ih=>
  intro n g l hi hl;cases hl with
  | root _=>show 1<=i+1;lia
  | @step i' _ e l' hj hb=>
   have:=h.one hi hj;subst this;obtain⟨j,a0,g',hg⟩:=h.up i n e hj;have:=ih j a0 e g' l' hg hb;show ↑l'+1<=i+1;lia
def eldV:Option Str->V
 | none=>.non
 | some e=>.str e
abbrev yv7:Stmt:=top 1
def KindsAt(H:Hp)(p:Addr)(tr:Tr):Prop:=∃(kt:Addr)(ts:List Addr)(x y:V),H p=some (.tup [.ref kt,x,y])/\H kt=some (.tup (ts.map V.ref))/\↑ts=↑tr/\
 ∀(j:Nat) t z,ts[j]?=some t->tr[j]?=some z->∃v,H t=some (.tup [.str z.1,eldV z.2,v])
section
def ym6:zd0 ["program","kind","elder_of","line"] ["program","kind"] (zc1 yv7):=fsc
def eT(ha:PE X a ta)(hb:PE X b tb)(hs:yw6 b:=by exact fun _ _=>rfl):PE X (.Subscript a b pos) (tOp (rIxT X.K) ta tb):=yp4 yr8 ha hb hs
def kvE(tr:Tr):List (Key×V):=tr.map fun z=>((Sum.inr z.1:Key),eldV z.2)
def wg1(h:n∉tr.map (·.1)):valV (kvE tr) (Sum.inr n)=none:=by
 cases e:valV (kvE tr) (Sum.inr n)with
 | none=>rfl
 | some v=>
  have:=yn8 e;unfold kvE at this;rw[vj9]at this;obtain⟨z,hz,ez⟩:=vb9.mp this;exact absurd (vb9.mpr ⟨z,hz,vv2 ez⟩) h
def xm9(ok:TrOk tr)(h:tr[i]?=some (n,e)):kvE (tr.take (i+1))=putK (kvE (tr.take i)) (Sum.inr n) (eldV e):=by
 have hn:n∉(tr.take i).map (·.1):=fun hm=>by
  obtain⟨z,hz,ez⟩:=vb9.mp hm;obtain⟨j,hj,ej⟩:=vf8 hz;rw[vc2]at hj;have e1:tr[j]?=some (n,z.2):=by
   rw[zz2 (by lia),<-ez,<-ej,vq5]
  have:=ok.one h e1;lia
 rw[zz3 _ (wg1 hn)];unfold kvE;rw[vc5,h,wz9];rfl
def zp9{tr:Tr}(ok:TrOk tr){i:Nat}{n:Str}{e:Option Str}(h:tr[i]?=some (n,e)):valV (kvE tr) (Sum.inr n)=some (eldV e):=by
 obtain⟨hi,_⟩:=wz2.mp h;have key:∀(tr:Tr)(i:Nat),TrOk tr->tr[i]?=some (n,e)->(kvE tr).find? (fun kv=>decide (kv.1=(Sum.inr n:Key)))=some ((Sum.inr n:Key),eldV e):=by
  intro tr i ok h;cases q:(kvE tr).find? (fun kv=>decide (kv.1=(Sum.inr n:Key)))with
  | none=>
   have:=ub1.mp q ((Sum.inr n:Key),eldV e) (vb9.mpr ⟨(n,e),vb0 h,rfl⟩);simp at this
  | some r=>
   have h1:=List.find?_some q;have h2:=vr8 q;obtain⟨z,hz,ez⟩:=vb9.mp h2;obtain⟨j,hj,ej⟩:=vf8 hz;have h3:r.1=(Sum.inr n:Key):=vb3 h1;rw[<-ez]at h3;have h4:z.1=n:=vv2 h3;have e1:tr[j]?=some (n,z.2):=by rw[zz2 hj,ej,<-h4]
   have:=ok.one h e1;subst this;rw[h]at e1;have e2:z.2=e:=by cases e1;rfl
   rw[<-ez,h4,e2]
 unfold valV;rw[key tr i ok h];rfl
def yd9(f:FrS [] H H')(hp:H' p=none):H p=none:=by
 cases hz:H p with
 | none=>rfl
 | some o=>have:=f p o (by simp) hz;rw[hp]at this;cases this
def Up.at(h:Up tr n l):∃(i:Nat)(g:Option Str),tr[i]?=some (n,g):=by
 cases h with
 | root h=>exact⟨_,_,h⟩
 | step h _=>exact⟨_,_,h⟩
def zw4(dn:List Str)(x:Str):atI ((dn++[x]).map V.str) (-1)=some (.str x):=by
 rw[wz9];unfold atI ixN;have a0:↑(dn.map V.str++[x].map V.str)=↑dn+1:=by simp
 rw[a0,vd0 (by decide),vd3 (by lia)];have e:(-1+((↑dn+1:Nat):Int)).toNat=↑dn:=by lia
 show(dn.map V.str++[x].map V.str)[(-1+((↑dn+1:Nat):Int)).toNat]?=_;rw[e,vk0 (by simp)];simp
inductive xb9(vs:List V)(H:Hp)(Q:VK):Prop
 | mk(p:Addr)(n:Str)(tr:Tr)(l:List Str)(h1:vs=[.ref p,.str n])(h2:KindsAt H p tr)(h3:TrOk tr)(h4:↑tr<=12)(h5:Up tr n l)(h6:∀(a:Addr)(H':Hp),FrS [] H H'->H a=none->H' a=some (.tup (l.reverse.map V.str))->Q (.ref a) H'):xb9  vs H Q
def zz8:Sp:=fun vs H Q _=>xb9  vs H Q
def xm0{k:Nat}(F:Fun K "elders" "elders" yv7 f fd)(mt:mg "tuple"=none):FnOk P w K mg base CX0 (k+1) f fd ["program","kind"] zz8:=by
 refine F.ok ym6 (fun vs H Q E h=>?_) (fun am A outer s H vs Q E hr h=>?_)
 .obtain⟨p,n,tr,l,rfl,_⟩:=h;rfl
 obtain⟨p,n,tr,l,rfl,⟨kt,ts,x,y,hp,hk,a1,aj⟩,ok,ak,a4,q⟩:=h;have hu:=zn5 hr;have ah:↑l<=12:=by
  obtain⟨i,g,hi⟩:=a4.at;have:=Up.len ok i n g l hi a4;obtain⟨h1,_⟩:=wz2.mp hi;lia
 have a5:(["name","elder","deeds"]:List Str).Nodup:=by rfl'
 exists _,zb3 (yt5 (i:=2) (N':=["name","elder","deeds"]) (src:=[none,none,none]) rfl ym6.nd rfl rfl bkn
   (zj4 (eT (pv 0) zb6))
   (g:=gTup K 3 (zk0 (zf0 0) (zk0 (zf0 1) (zk0 (zf0 2) gNil)))) (fun _ _ _ _=>zh4 (n:=3) rfl (zc0 (gL 0 a5) (zc0 (gL 1 a5) (zc0 (gL 2 a5) zf8))))
   (fun _ _ _ _=>zg2) (fun _ _ _ _=>pv 0) (fun _ _ _ _=>pv 1))
  (zb3 (sL 3 ym6.nd (zd7 (zb0 (pv 1) zb2)))
  (zb3 (zs4 vd5 (zq9 (zw3 (zc6 hu (pv 2) (eI (pv 3) (yg8 zq8 zb6)) (fun _ _=>rfl))))
   (zb7 (zf5 (zk8 vd2 vd9 vf0 zd8 (pv 3) (zb0 (zc6 hu (pv 2) (eI (pv 3) (yg8 zq8 zb6)) (fun _ _=>rfl)) zb2)))))
  (zb7 (zd1 (zc7 zc8 rfl mt (by rfl') (zb0 (wm3 (pv 3) (yg8 zq8 zb6)) zb2))))))
 ac_rfl
 refine⟨_,rfl,p,_,_,_,rfl,rfl,SqT.of hp,rfl,kt,rfl,⟨_,SqT.of hk⟩,fun D hD=>?_⟩;have al:p≠D:=zb4 hp hD;have ag:kt≠D:=zb4 hk hD;exists fun i m σ Hx=>m=↑ts-i/\i<=↑ts/\(∃a b c,σ=[a,b,c])/\Hx=upd H D (.dK (kvE (tr.take i))),⟨_,rfl,vc9 _,⟨_,_,_,rfl⟩,rfl⟩;rintro i m σ Hx ⟨rfl,hi,⟨a0,b0,c0,rfl⟩,rfl⟩;have a6:∀o,upd H D o kt=some (.tup (ts.map V.ref)):=fun o=>by rw[zb5 ag];exact hk
 by_cases a3:i<↑ts
 .refine .inr ⟨⟨_,_,SqT.of (a6 _),by rw[wz5,zz2 a3];rfl⟩,fun σ' H'=>(∃a b c,σ'=[a,b,c])/\H'=upd H D (.dK (kvE (tr.take (i+1)))),fun σ' H' ⟨h1,h2⟩=>⟨_,by lia,rfl,a3,h1,h2⟩,fun v H' yl=>?_⟩;obtain⟨rfl,yl⟩:=yl;have hv:=yl _ (SqT.of (a6 _));rw[wz5,zz2 a3]at hv;cases hv;have aa:tr[i]?=some tr[i]:=zz2 (by lia);obtain⟨v3,ad⟩:=aj i _ _ (zz2 a3) aa;have af:∀o,upd H D o ts[i]=some (.tup [.str tr[i].1,eldV tr[i].2,v3]):=fun o=>by rw[zb5 (zb4 ad hD)];exact ad
  exists ts[i],_,rfl,SqT.of (af _),rfl,_,_,rfl,_,_,rfl,_,_,rfl,rfl;exists _,rfl,_,rfl,_,Sum.inr tr[i].1,rfl,zb1,?_,⟨_,_,_,rfl⟩
  .unfold kvE;rw[lqm,vc2];exact zb8 (by lia)
  .rw[zr2,xm9 ok aa];rfl
 .refine .inl ⟨⟨_,SqT.of (a6 _),by rw[lqm];lia⟩,?_⟩;have e:i=↑tr:=by lia
  rw[e,vb2 (wz6 _)];refine⟨_,rfl,by show 1<=sizeLine;decide,fun pl a2=>?_⟩;have ac:D≠pl:=fun z=>by rw[<-z,zb1]at a2;cases a2
  have ao:H pl=none:=by rw[zb5 (vj3 ac)]at a2;exact a2
  refine zt9 (fun σ Hx=>∃(dn rs:List Str)(x:Str),σ=[some (.ref p),some (.str n),some (.ref D),some (.ref pl)]/\Hx=upd (upd H D (.dK (kvE tr))) pl (.lst ((dn++[x]).map V.str))/\Up tr x rs/\dn++rs=l/\↑dn<=12)
   (fun σ Hx=>match Hx pl with | some (.lst xs)=>100-↑xs | _=>0) ⟨[],l,n,rfl,rfl,a4,rfl,by decide⟩ ?_ ?_
  .rintro σ Hx ⟨dn,rs,x,rfl,rfl,hx,hl,hd⟩;have a7:∀o,upd (upd H D (.dK (kvE tr))) pl o D=some (.dK (kvE tr)):=fun o=>by rw[zb5 ac];exact zb1
   have an:∀o,upd (upd H D (.dK (kvE tr))) pl o pl=some o:=fun o=>zb1;have a1:∀y:Str,↑((dn++[y]).map V.str)=↑dn+1:=fun y=>by simp
   cases hx with
   | @root i _ hi=>
    exists _,rfl,_,rfl,_,rfl,pl,_,_,_,rfl,rfl,SqL.of zb1,zw4 dn x,D,V.non,rfl,?_,_,rfl
    .have:=DGet.k (k:=(Sum.inr x:Key)) (a7 (.lst ((dn++[x]).map V.str)));rw[zp9 ok hi]at this;exact this
    .show if (!decide (V.non=V.non))=true then _ else _
     rw[vd0 (by simp)];refine⟨_,rfl,_,rfl,rfl,pl,_,rfl,SqL.of zb1,fun p2 a9=>?_⟩;have a8:FrS [] H (upd (upd H D (.dK (kvE tr))) pl (.lst ((dn++[x]).map V.str))):=(FrS.new hD).trans (FrS.new a2);refine⟨p2,_,rfl,.inl ⟨SqL.of zb1,fun p3 ab=>?_⟩⟩;refine q p3 _ ((a8.trans (FrS.new a9)).trans (FrS.new ab)) ?_ ?_
     .exact yd9 (a8.trans (FrS.new a9)) ab
     .rw[zb1,<-hl,List.map_reverse]
   | @step i _ e l' hi hb=>
    exists _,rfl,_,rfl,_,rfl,pl,_,_,_,rfl,rfl,SqL.of zb1,zw4 dn x,D,V.str e,rfl,?_,_,rfl
    .have:=DGet.k (k:=(Sum.inr x:Key)) (a7 (.lst ((dn++[x]).map V.str)));rw[zp9 ok hi]at this;exact this
    .show if (!decide (V.str e=V.non))=true then _ else _
     rw[vd3 (by simp)];exists _,rfl,.inl ⟨rfl,_,SqL.of zb1⟩,_,rfl,_,rfl,_,rfl,pl,_,_,_,rfl,rfl,SqL.of zb1,zw4 dn x,D,V.str e,rfl,?_,pl,_,_,rfl,rfl,zb1,?_,⟨dn++[x],l',e,rfl,?_,hb,by rw[<-hl];simp,?_⟩
     .have:=DGet.k (k:=(Sum.inr x:Key)) (a7 (.lst ((dn++[x]).map V.str)));rw[zp9 ok hi]at this;exact this
     .rw[a1];exact zb8 (by lia)
     .rw[zr2,wz9 (l₁:=dn++[x])];rfl
     .have:=vg1 List.length hl;rw[wz4,vc6]at this;rw[wz4,vc1];lia
     .show(match upd _ pl _ pl with | some (HO.lst xs)=>100-↑xs | _=>0)<(match upd _ pl _ pl with | some (HO.lst xs)=>100-↑xs | _=>0);rw[zb1,zb1];show 100-↑(((dn++[x]).map V.str)++[V.str e])<100-↑((dn++[x]).map V.str);rw[wz4,a1,vc1];lia
  .intro σ Hx R R' hR hc;obtain⟨v1,h1,v2,h2,v3,h3,p',xs,i',v',h4,h5,h6,h7,a',v8,h8,h9,c,ae,ai⟩:=hc;exact⟨v1,h1,v2,h2,v3,h3,p',xs,i',v',h4,h5,h6,h7,a',v8,h8,h9,c,ae,hR _ _ ai⟩
end
abbrev xm5:Stmt:=top 2
def zj8(n:Str)(l:List Str):inV (.str n) (l.map V.str)=decide (n∈l):=by
 unfold inV
 induction l with
 | nil=>rfl
 | cons x r ih=>
  rw[vf5,vz5,ih];have e:eqV (.str x) (.str n)=decide (x=n):=by
   first | rfl | simp[eqV] | (unfold eqV;by_cases h:x=n <;> simp[h])
  rw[e]
  by_cases h:x=n
  .subst h;simp
  .have h':¬n=x:=fun z=>h z.symm;simp[h,h']
def zg0(l:List Str):(l.map V.str).all yc9=true:=by
 rw[List.all_map,vf2];intro x _;rfl
inductive xk0(vs:List V)(H:Hp)(Q:VK):Prop
 | mk(p:Addr)(n o:Str)(tr:Tr)(l:List Str)(h1:vs=[.ref p,.str n,.str o])(h2:KindsAt H p tr)(h3:TrOk tr)(h4:↑tr<=12)(h5:Up tr n l)(h6:∀(H':Hp),FrS [] H H'->Q (.bl (decide (o∈l))) H'):xk0  vs H Q
def yk7:Sp:=fun vs H Q _=>xk0  vs H Q
section
def wv5:zd0 ["program","one","other"] ["program","one","other"] (zc1 xm5):=fsc
def wc7(F:Fun K "is_below" "is_below" xm5 f fd)(T:Cal P w K mg base k "elders" ["program","kind"] zz8):FnOk P w K mg base CX0 (k+1) f fd ["program","one","other"] yk7:=by
 refine F.ok wv5 (fun vs H Q E h=>?_) (fun a3 A outer s H vs Q E hr h=>?_)
 .obtain⟨p,n,o,tr,l,rfl,_⟩:=h;rfl
 obtain⟨p,n,o,tr,l,rfl,hK,ok,a2,a1,q⟩:=h;exists _,zb7 (zd1 (zn3 zg4 (pv 2) (zb9 T hr rfl (zb0 (pv 0) (zb0 (pv 1) zb2))) rfl));refine⟨_,rfl,_,rfl,_,rfl,p,n,tr,l,rfl,hK,ok,a2,a1,fun a H' fr ha a0=>?_⟩;exists a,_,rfl,.inr (SqT.of a0),rfl,zg0 _;have e:inV (.str o) (l.reverse.map V.str)=decide (o∈l):=by
  rw[zj8]
  by_cases h:o∈l
  .rw[vd1 h,vd1 (List.mem_reverse.mpr h)]
  .rw[vf4 h,vf4 (fun z=>h (List.mem_reverse.mp z))]
 show Q (.bl (if false=true then _ else _)) H';rw[vd0 (by decide),e];exact q H' fr
end
def FrS.put(f:FrS S H H')(h:H a=none):FrS S H (upd H' a o):=fun b u n q=>by
 rw[zb5 (zb4 q h)];exact f b u n q
def FrS.put'(f:FrS S H H')(h:a∈S):FrS S H (upd H' a o):=f.trans (FrS.chg h)
def FrS.old(f:FrS S H H')(hs:∀b∈S,∃o,H' b=some o)(hp:H' p=none):H p=none:=by
 cases hz:H p with
 | none=>rfl
 | some o=>
  by_cases hm:p∈S
  .obtain⟨u,hu⟩:=hs p hm;rw[hp]at hu;cases hu
  .have:=f p o hm hz;rw[hp]at this;cases this
def zg9(Pv:Nat->St->Hp->Prop)(h0:Pv 0 σ0 H0)(hl:∀i σ H,i<=↑xs->Pv i σ H->SqL K H a xs)(hs:∀i x σ H,xs[i]?=some x->Pv i σ H->g x σ H fun σ2 H2=>tt σ2 H2 fun b H3=>if b=true then te σ2 H3 fun v H4=>∃ys,H4 D=some (.lst ys)/\↑ys<sizeLine/\Pv (i+1) σ2 (upd H4 D (.lst (ys++[v]))) else Pv (i+1) σ2 H3)(hd:∀σ H,Pv ↑xs σ H->Q H):yg5 (Itl K a) g tt te D σ0 H0 Q:=by
 exists fun i m σ H=>m=↑xs-i/\i<=↑xs/\Pv i σ H,⟨↑xs,by simp,vc9 _,h0⟩;rintro i m σ H ⟨rfl,hi,p⟩;have q:=hl i σ H hi p
 by_cases a0:i<↑xs
 .refine .inr ⟨⟨xs,xs[i],q,by simp[a0]⟩,Pv (i+1),fun σ' H' p'=>⟨↑xs-(i+1),by lia,rfl,a0,p'⟩,fun x H' y=>?_⟩;obtain⟨e,y⟩:=y;subst e;exact hs i x σ _ (y xs q) p
 .have e:i=↑xs:=by lia
  subst e;exact .inl ⟨⟨xs,q,wz6 _⟩,hd σ H p⟩
def yn2(Pv:Nat->St->Hp->Prop)(h0:Pv 0 σ0 H0)(hl:∀i σ H,i<=↑xs->Pv i σ H->ok H)(hs:∀i x σ H,xs[i]?=some x->Pv i σ H->g x σ H fun σ2 H2=>tt σ2 H2 fun b H3=>if b=true then te σ2 H3 fun v H4=>∃ys,H4 D=some (.lst ys)/\↑ys<sizeLine/\Pv (i+1) σ2 (upd H4 D (.lst (ys++[v]))) else Pv (i+1) σ2 H3)(hd:∀σ H,Pv ↑xs σ H->Q H):yg5 (Itx ok xs) g tt te D σ0 H0 Q:=by
 exists fun i m σ H=>m=↑xs-i/\i<=↑xs/\Pv i σ H,⟨↑xs,by simp,vc9 _,h0⟩;rintro i m σ H ⟨rfl,hi,p⟩;have q:=hl i σ H hi p
 by_cases a0:i<↑xs
 .refine .inr ⟨⟨q,a0⟩,Pv (i+1),fun σ' H' p'=>⟨↑xs-(i+1),by lia,rfl,a0,p'⟩,fun x H' y=>?_⟩;obtain⟨e,y⟩:=y;subst e;exact hs i x σ _ y p
 .have e:i=↑xs:=by lia
  subst e;exact .inl ⟨⟨q,wz6 _⟩,hd σ H p⟩
def yc8(Pv:Nat->St->Hp->Prop)(h0:Pv 0 σ0 H0)(hs:∀i σ H,i<n->Pv i σ H->g (.int (lo+i)) σ H fun σ2 H2=>tt σ2 H2 fun b H3=>if b=true then te σ2 H3 fun v H4=>∃ys,H4 D=some (.lst ys)/\↑ys<sizeLine/\Pv (i+1) σ2 (upd H4 D (.lst (ys++[v]))) else Pv (i+1) σ2 H3)(hd:∀σ H,Pv n σ H->Q H):yg5 (Itr lo n) g tt te D σ0 H0 Q:=by
 exists fun i m σ H=>m=n-i/\i<=n/\Pv i σ H,⟨n,by simp,vc9 _,h0⟩;rintro i m σ H ⟨rfl,hi,p⟩
 by_cases a0:i<n
 .refine .inr ⟨a0,Pv (i+1),fun σ' H' p'=>⟨n-(i+1),by lia,rfl,a0,p'⟩,fun x H' y=>?_⟩;obtain⟨e,y⟩:=y;subst e y;exact hs i σ _ a0 p
 .have e:i=n:=by lia
  subst e;exact .inl ⟨wz6 _,hd σ H p⟩
def for_x{ok:Hp->Prop}{xs:List V}{g:TG}{tb:TS}{D:Ends}{σ:St}{H:Hp}(Pv:Nat->St->Hp->Prop)(h0:Pv 0 σ H)(hl:∀i σ H,i<=↑xs->Pv i σ H->ok H)
  (hs:∀i x σ H,xs[i]?=some x->Pv i σ H->g x σ H fun σ2 H2=>tb {D with nx:=Pv (i+1),ct:=Pv (i+1),bk:=D.nx} σ2 H2) (hd:∀σ H,Pv ↑xs σ H->D.nx σ H):
  ∃W:Nat->Nat->St->Hp->Prop,(∃m,W 0 m σ H)/\∀i m σ H,W i m σ H->
   ((Itx ok xs).stop i H/\D.nx σ H)\/((Itx ok xs).go i H/\∃N:St->Hp->Prop,(∀σ' H',N σ' H'->∃m',m'<m/\W (i+1) m' σ' H')/\∀x H',(Itx ok xs).yld i H x H'->g x σ H' fun σ2 H2=>tb {D with nx:=N,ct:=N,bk:=D.nx} σ2 H2):=by
 exists fun i m σ H=>m=↑xs-i/\i<=↑xs/\Pv i σ H,⟨↑xs,by simp,vc9 _,h0⟩;rintro i m σ H ⟨rfl,hi,p⟩;have q:=hl i σ H hi p
 by_cases a0:i<↑xs
 .refine .inr ⟨⟨q,a0⟩,Pv (i+1),fun σ' H' p'=>⟨↑xs-(i+1),by lia,rfl,a0,p'⟩,fun x H' y=>?_⟩;obtain⟨e,y⟩:=y;subst e;exact hs i x σ _ y p
 .have e:i=↑xs:=by lia
  subst e;exact .inl ⟨⟨q,wz6 _⟩,hd σ H p⟩
def xf7{α:Type}[DecidableEq α]:∀(l U:List α),l.Nodup->(∀x∈l,x∈U)->↑l<=U.length
 | [],U,_,_=>vc9 _
 | x::l,U,h,hs=>by
  have hx:x∈U:=hs x (vp1 ..);have hn:=vh6.mp h;have ih:=xf7 l (U.erase x) hn.2 fun y hy=>(List.mem_erase_of_ne (fun e=>hn.1 (by rw[<-e];exact hy))).mpr (hs y (vf6 _ hy))
  rw[List.length_erase_of_mem hx]at ih;have:=List.length_pos_of_mem hx;show ↑l+1<=U.length;lia
def yf2{κ:Type}[DecidableEq κ](kvs:List (κ×V))(k:κ)(v:V):((putK kvs k v).map (·.1)=kvs.map (·.1)/\k∈kvs.map (·.1))\/((putK kvs k v).map (·.1)=kvs.map (·.1)++[k]/\k∉kvs.map (·.1)):=by
 cases h:valV kvs k with
 | none=>exact .inr ⟨by rw[zz3 v h,wz9];rfl,zz5 h⟩
 | some u=>
  refine .inl ⟨?_,yn8 h⟩;unfold putK;rw[zm6,h];show(List.map _ (List.map _ kvs))=_;rw[vj9];refine vn5 fun x _=>?_;show(if x.1=k then(x.1,v) else x).1=x.1
  split <;> rfl
structure DOk(U N:List Str)(kvs:List (Key×V)):Prop where
 nd:(kvs.map (·.1)).Nodup
 ks:∀k∈kvs.map (·.1),∃x∈U,k=Sum.inr x
 vs:∀k v,valV kvs k=some v->v=.non\/∃n∈N,v=.str n
def DOk.nil:DOk U N []:=⟨vn6,(fun _ h=>nomatch h),(fun _ _ h=>nomatch h)⟩
def DOk.put(h:DOk U N kvs)(hx:x∈U)(hv:v=.non\/∃n∈N,v=.str n):DOk U N (putK kvs (Sum.inr x) v):=by
 refine⟨?_,fun k hk=>?_,fun k u hu=>?_⟩
 .rcases yf2 kvs (Sum.inr x) v with ⟨e,_⟩ | ⟨e,hn⟩
  .rw[e];exact h.nd
  .rw[e];exact yf7 h.nd hn
 .rcases yf2 kvs (Sum.inr x) v with ⟨e,_⟩ | ⟨e,hn⟩
  .rw[e]at hk;exact h.ks k hk
  .rw[e]at hk;rcases vc4.mp hk with hk | hk
   .exact h.ks k hk
   .exact⟨x,hx,vc7.mp hk⟩
 .rw[zm4]at hu
  by_cases e:k=Sum.inr x
  .rw[vd3 e]at hu;cases hu;exact hv
  .rw[vd0 e]at hu;exact h.vs k u hu
def DOk.len(h:DOk U N kvs):↑kvs<=U.length:=by
 have:=xf7 (kvs.map (·.1)) (U.map fun x=>(Sum.inr x:Key)) h.nd fun k hk=>by
  obtain⟨x,hx,e⟩:=h.ks k hk;exact vb9.mpr ⟨x,hx,e.symm⟩
 rwa [lqm,lqm]at this
def DOk.get(h:DOk U N kvs)(k:Key):(valV kvs k).getD .non=.non\/∃n∈N,(valV kvs k).getD .non=.str n:=by
 cases e:valV kvs k with
 | none=>exact .inl rfl
 | some v=>exact h.vs k v e
structure WA where
 (tree late deeds wants owners vars params fields told held roots:Addr)
structure WD where
 tr:Tr
 (late deeds vars params fields:List Str)
 wants:List (List Key×V)
 (owners roots:List (Key×V))
 own:Str->List Str
def WD.names(D:WD):List Str:=D.tr.map (·.1)
def WD.U(D:WD):List Str:="own"::(D.vars++D.params)
def Stt(M:List Addr)(H:Hp)(a:Addr)(o:HO):Prop:=a∉M/\H a=some o
def Stt.keep(h:Stt M H a o)(f:FrS M H H'):Stt M H' a o:=⟨h.1,f a o h.1 h.2⟩
def Stt.sub(h:Stt M H a o)(hs:∀b∈M',b∈M):Stt M' H a o:=⟨fun z=>h.1 (hs a z),h.2⟩
structure WOk(D:WD):Prop where
 ok:TrOk D.tr
 l1:D.tr≠[]
 l12:D.tr.length<=12
 lateIn:∀x∈D.late,x∈D.names
 lateLen:D.late.length<=12
 soon:∃x∈D.names,x∉D.late
 d1:D.deeds≠[]
 d6:D.deeds.length<=6
 v4:D.vars.length=4
 p4:D.params.length=4
 f3:D.fields.length=3
structure Wld(M:List Addr)(H:Hp)(wd:Addr)(A:WA)(D:WD):Prop where
 k:∃kvs,Stt M H wd (.dK kvs)/\valV kvs (Sum.inr "tree")=some (.ref A.tree)/\valV kvs (Sum.inr "late")=some (.ref A.late)/\valV kvs (Sum.inr "deeds")=some (.ref A.deeds)/\valV kvs (Sum.inr "wants")=some (.ref A.wants)/\
  valV kvs (Sum.inr "owners")=some (.ref A.owners)/\valV kvs (Sum.inr "vars")=some (.ref A.vars)/\valV kvs (Sum.inr "params")=some (.ref A.params)/\valV kvs (Sum.inr "fields")=some (.ref A.fields)/\
  valV kvs (Sum.inr "told")=some (.ref A.told)/\valV kvs (Sum.inr "held")=some (.ref A.held)/\valV kvs (Sum.inr "roots")=some (.ref A.roots)
 tree:∃ts:List Addr,Stt M H A.tree (.lst (ts.map V.ref))/\↑ts=D.tr.length/\∀(j:Nat) t x,ts[j]?=some t->D.tr[j]?=some x->Stt M H t (.tup [.str x.1,eldV x.2])
 late:Stt M H A.late (.lst (D.late.map V.str))
 deeds:Stt M H A.deeds (.lst (D.deeds.map V.str))
 vars:Stt M H A.vars (.lst (D.vars.map V.str))
 params:Stt M H A.params (.lst (D.params.map V.str))
 fields:Stt M H A.fields (.lst (D.fields.map V.str))
 wants:Stt M H A.wants (.dT D.wants)
 owners:Stt M H A.owners (.dK D.owners)
 roots:Stt M H A.roots (.dK D.roots)
 wl:∀n∈D.names,∀d∈D.deeds,∃(r:Str)(p:Addr)(ws:List Str),valV D.roots (Sum.inr n)=some (.str r)/\valV D.wants [Sum.inr r,Sum.inr d]=some (.ref p)/\Stt M H p (.lst (ws.map V.str))/\↑ws<=4/\∀x∈ws,x∈D.names
 ol:∀d∈D.deeds,∃p:Addr,valV D.owners (Sum.inr d)=some (.ref p)/\Stt M H p (.lst ((D.own d).map V.str))/\(∀x∈D.own d,x∈D.names)/\↑(D.own d)<=13
def Wld.map{A:WA}(h:Wld M H wd A D)(f:∀a o,Stt M H a o->Stt M' H' a o):Wld M' H' wd A D:=by
 obtain⟨⟨kvs,k0,k1⟩,⟨ts,t1,t2,t3⟩,h1,h2,h3,h4,h5,h6,h7,h8,h9,a0⟩:=h;refine⟨⟨kvs,f _ _ k0,k1⟩,⟨ts,f _ _ t1,t2,fun j t x a b=>f _ _ (t3 j t x a b)⟩,f _ _ h1,f _ _ h2,f _ _ h3,f _ _ h4,f _ _ h5,f _ _ h6,f _ _ h7,f _ _ h8,fun n hn d hd=>?_,fun d hd=>?_⟩
 .obtain⟨r,p,ws,a,b,c,e⟩:=h9 n hn d hd;exact⟨r,p,ws,a,b,f _ _ c,e⟩
 .obtain⟨p,a,b,c⟩:=a0 d hd;exact⟨p,a,f _ _ b,c⟩
def Wld.keep{A:WA}(h:Wld M H wd A D)(f:FrS M H H'):Wld M H' wd A D:=h.map fun _ _ x=>x.keep f
def Wld.g{A:WA}(h:Wld M H wd A D):DGet H wd (.str "tree") (some (.ref A.tree))/\DGet H wd (.str "late") (some (.ref A.late))/\DGet H wd (.str "deeds") (some (.ref A.deeds))/\DGet H wd (.str "wants") (some (.ref A.wants))/\
  DGet H wd (.str "owners") (some (.ref A.owners))/\DGet H wd (.str "vars") (some (.ref A.vars))/\DGet H wd (.str "params") (some (.ref A.params))/\DGet H wd (.str "fields") (some (.ref A.fields))/\DGet H wd (.str "told") (some (.ref A.told))/\DGet H wd (.str "held") (some (.ref A.held))/\DGet H wd (.str "roots") (some (.ref A.roots)):=by
 obtain⟨kvs,⟨_,e⟩,k1,k2,k3,k4,k5,k6,k7,k8,k9,a1,a0⟩:=h.k;have g:∀(x:Str)(v:V),valV kvs (Sum.inr x)=some v->DGet H wd (.str x) (some v):=fun x v q=>.inl ⟨kvs,Sum.inr x,.inl e,rfl,q.symm⟩;exact⟨g _ _ k1,g _ _ k2,g _ _ k3,g _ _ k4,g _ _ k5,g _ _ k6,g _ _ k7,g _ _ k8,g _ _ k9,g _ _ a1,g _ _ a0⟩
abbrev ww3:Stmt:=top 24
abbrev sHas:Stmt:=top 25
def yp2(ok:TrOk tr):zf4 [] (kvE tr)=kvE tr:=by
 have key:∀i,i<=↑tr->zf4 [] ((kvE tr).take i)=kvE (tr.take i):=by
  intro i
  induction i with
  | zero=>intro _;rfl
  | succ i ih=>
   intro hi;have hv:tr[i]?=some tr[i]:=zz2 (by lia);have hk:(kvE tr)[i]?=some (Sum.inr tr[i].1,eldV tr[i].2):=by unfold kvE;rw[wz5,hv];rfl
   rw[yq6 hk,ih (by lia),xm9 ok (e:=tr[i].2) (n:=tr[i].1) hv]
 have hl:↑(kvE tr)=↑tr:=by unfold kvE;rw[lqm]
 have:=key ↑tr (wz6 _);rwa [vb2 (by lia),vb2 (wz6 _)]at this
inductive wj0(vs:List V)(H:Hp)(Q:VK):Prop
 | mk(wd:Addr)(M:List Addr)(A:WA)(D:WD)(n:Str)(l:List Str)(h1:vs=[.ref wd,.str n])(h2:Wld M H wd A D)(h3:WOk D)(h4:Up D.tr n l)(h5:∀(a:Addr)(H':Hp),FrS [] H H'->H a=none->H' a=some (.lst (l.map V.str))->Q (.ref a) H'):wj0  vs H Q
def yp9:Sp:=fun vs H Q _=>wj0  vs H Q
section
def xc1:zd0 [qW,"_law_kind","_law_up_here","_law_line_here"] qG (zc1 ww3):=fsc
def wq7(F:Fun K "_law_line" "_law_line" ww3 f fd)(ab:mg "dict"=none):FnOk P w K mg base CX0 (k+1) f fd qG yp9:=by
 refine F.ok xc1 (fun vs H Q E h=>?_) (fun ac A outer s H vs Q E hr h=>?_)
 .obtain⟨wd,M,A,D,n,l,rfl,_⟩:=h;rfl
 obtain⟨wd,M,WA,D,n,l,rfl,hW,hO,a1,q⟩:=h;have hu:=zn5 hr;exists _,zb3 (sL 2 xc1.nd (zc7 (zh1 rfl) rfl ab (by rfl') (zb0 (zc6 hu (pv 0) zd3 (fun _ _=>rfl)) zb2)))
  (zb3 (sL 3 xc1.nd (zd7 zb2))
  (zb3 (zs4 vd5 (zq9 (zw3 (pv 1)))
   (zb3 (zf5 (zk8 vd2 vd9 vf0 zd8 (pv 3) (zb0 (pv 1) zb2)))
   (zb7 (sL 1 xc1.nd (zc6 hu (pv 2) (pv 1) (fun _ _=>rfl))))))
  (zb7 (zd1 (pv 3)))))
 ac_rfl
 obtain⟨ts,t1,t2,t3⟩:=hW.tree;have a4:↑(kvE D.tr)=D.tr.length:=by unfold kvE;rw[lqm]
 have ad:=hO.l12;refine⟨_,rfl,wd,_,rfl,hW.g.1,WA.tree,ts,kvE D.tr,rfl,SqL.of t1.2,by rw[a4];exact t2,by rw[a4];exact zb8 (by lia),fun j t kv ht a2=>?_,fun Dp a8=>?_⟩
 .unfold kvE at a2;rw[wz5]at a2;obtain⟨x,hx,rfl⟩:=wz8.mp a2;exact SqT.of (t3 j t x ht hx).2
 rw[yp2 hO.ok];refine⟨vc9 _,fun pl a0=>?_⟩;have a7:Dp≠pl:=fun z=>by rw[<-z,zb1]at a0;cases a0
 have a5:H pl=none:=by rw[zb5 (vj3 a7)]at a0;exact a0
 refine zt9 (fun σ Hx=>∃(dn:List Str)(kv:V),σ=[some (.ref wd),some kv,some (.ref Dp),some (.ref pl)]/\Hx=upd (upd H Dp (.dK (kvE D.tr))) pl (.lst (dn.map V.str))/\↑dn<=12/\((kv=.non/\dn=l)\/∃x rs,kv=.str x/\Up D.tr x rs/\dn++rs=l))
  (fun σ Hx=>match Hx pl with | some (.lst xs)=>100-↑xs | _=>0) ⟨[],.str n,rfl,rfl,by decide,.inr ⟨n,l,rfl,a1,rfl⟩⟩ ?_ ?_
 .rintro σ Hx ⟨dn,kv,rfl,rfl,hd,hc⟩;have a6:∀o,upd (upd H Dp (.dK (kvE D.tr))) pl o Dp=some (.dK (kvE D.tr)):=fun o=>by rw[zb5 a7];exact zb1
  rcases hc with ⟨rfl,rfl⟩ | ⟨x,rs,rfl,hx,hl⟩
  .exists _,rfl,_,rfl;show if (!decide (V.non=V.non))=true then _ else _
   rw[vd0 (by trivial)];exact⟨_,rfl,q pl _ (((FrS.refl).put a8).put a5) a5 zb1⟩
  .exists _,rfl,_,rfl;show if (!decide (V.str x=V.non))=true then _ else _
   rw[vd3 (by trivial)];have a3:↑dn+1<=12:=by
    obtain⟨i,g,hi⟩:=a1.at;have h1:=Up.len hO.ok i n g l hi a1;obtain⟨h2,_⟩:=wz2.mp hi;have h3:=vg1 List.length hl;rw[wz4]at h3;have h4:1<=↑rs:=by cases hx <;> simp
    lia
   exists _,rfl,.inl ⟨rfl,_,SqL.of zb1⟩,_,rfl,pl,_,_,rfl,rfl,zb1,by rw[lqm];exact zb8 (by lia),_,rfl,_,rfl;rw[zr2];have mz:(match upd (upd H Dp (.dK (kvE D.tr))) pl (.lst (dn.map V.str++[V.str x])) pl with | some (HO.lst xs)=>100-↑xs | _=>0)<(match upd (upd H Dp (.dK (kvE D.tr))) pl (.lst (dn.map V.str)) pl with | some (HO.lst xs)=>100-↑xs | _=>0):=by
    rw[zb1,zb1];show 100-↑(dn.map V.str++[V.str x])<100-↑(dn.map V.str);rw[wz4,lqm,vc1];lia
   have ee:dn.map V.str++[V.str x]=(dn++[x]).map V.str:=by rw[wz9];rfl
   cases hx with
   | @root i _ hi=>
    refine⟨Dp,.non,rfl,?_,⟨dn++[x],.non,rfl,by rw[ee],by rw[wz4,vc1];exact a3,.inl ⟨rfl,hl⟩⟩,mz⟩;have:=DGet.k (k:=(Sum.inr x:Key)) (a6 (.lst (dn.map V.str++[V.str x])));rw[zp9 hO.ok hi]at this;exact this
   | @step i _ e l' hi hb=>
    refine⟨Dp,.str e,rfl,?_,⟨dn++[x],.str e,rfl,by rw[ee],by rw[wz4,vc1];exact a3,.inr ⟨e,l',rfl,hb,by rw[<-hl];simp⟩⟩,mz⟩;have:=DGet.k (k:=(Sum.inr x:Key)) (a6 (.lst (dn.map V.str++[V.str x])));rw[zp9 hO.ok hi]at this;exact this
 .intro σ Hx R R' hR hc;obtain⟨v1,h1,c,a9,aa⟩:=hc;exact⟨v1,h1,c,a9,hR _ _ aa⟩
def HsD(D:WD)(k d:Str):Prop:=k∈D.names/\d∈D.deeds/\∃n l,Up D.tr k l/\n∈l/\n∈D.own d
inductive SpHas(vs:List V)(H:Hp)(Q:VK):Prop
 | mk(wd:Addr)(M:List Addr)(A:WA)(D:WD)(n d:Str)(h1:vs=[.ref wd,.str n,.str d])(h2:Wld M H wd A D)(h3:WOk D)(h4:n∈D.names)(h5:d∈D.deeds)(h6:∀(b:Bool)(H':Hp),FrS [] H H'->(b=true->HsD D n d)->Q (.bl b) H'):SpHas  vs H Q
def wt7:Sp:=fun vs H Q _=>SpHas  vs H Q
def scHas:zd0 qE qE (zc1 sHas):=fsc
def wt3(hO:WOk D)(hn:n∈D.names):∃l,Up D.tr n l/\↑l<=12/\∀x∈l,x∈D.names:=by
 obtain⟨z,hz,e⟩:=vb9.mp hn;obtain⟨i,hi,ei⟩:=vf8 hz;have hg:D.tr[i]?=some (n,z.2):=by rw[zz2 hi,ei,<-e]
 obtain⟨l,hl⟩:=Up.exists hO.ok i n z.2 hg;have:=Up.len hO.ok i n z.2 l hg hl;have:=hO.l12;exact⟨l,hl,by lia,hl.mem⟩
def ok_has(F:Fun K "_law_has" "_law_has" sHas f fd)(T:Cal P w K mg base k "_law_line" qG yp9)(ma:mg "any"=none):FnOk P w K mg base CX0 (k+1) f fd qE wt7:=by
 refine F.ok scHas (fun vs H Q E h=>?_) (fun ab A outer s H vs Q E hr h=>?_)
 .obtain⟨wd,M,A,D,n,d,rfl,_⟩:=h;rfl
 obtain⟨wd,M,WA,D,n,d,rfl,hW,hO,hn,hd,q⟩:=h;have hu:=zn5 hr;have a9:(["_law_one",qW,"_law_deed_here"]:List Str).Nodup:=by rfl'
 exists _,zb7 (zd1 (zc5 (wf7 rfl) rfl ma (by rfl') (zb0 (zh0 (N':=["_law_one",qW,"_law_deed_here"]) (src:=[none,some 0,some 2]) rfl bkn
   (zf6 (zb9 T hr rfl (zb0 (pv 0) (zb0 (pv 1) zb2))))
   (g:=zf0 0) (fun _ _ _ _=>gL 0 a9) (fun _ _ _ _=>zg2)
   (fun _ _ _ _=>zn3 (show OpR _ _ (rIn K false) from zg4) (pv 0) (zc6 hu (zc6 hu (pv 1) zd3 (fun _ _=>rfl)) (pv 2) (fun _ _=>rfl)) rfl)) zb2)))
 ac_rfl
 obtain⟨l,hl,a8,ad⟩:=wt3 hO hn;obtain⟨op,o1,o2,o3,o4⟩:=hW.ol d hd;refine⟨_,rfl,_,rfl,wd,M,WA,D,n,l,rfl,hW,hO,hl,fun la H1 f1 ac a0=>⟨la,rfl,⟨_,SqL.of a0⟩,fun Dl a6=>?_⟩⟩;refine zg9 (xs:=l.map V.str) (fun i σ Hx=>(∃x,σ=[x,some (.ref wd),some (.str d)])/\FrS [] H1 Hx/\∃bs:List Bool,bs=(l.take i).map (fun x=>inV (.str x) ((D.own d).map V.str))/\Hx Dl=some (.lst (bs.map V.bl))) ⟨⟨_,rfl⟩,(FrS.refl).put a6,[],rfl,zb1⟩ ?_ ?_ ?_
 .rintro i σ Hx hi ⟨_,fr,_⟩;exact SqL.of (fr _ _ (by trivial) a0)
 .rintro i x σ Hx hx ⟨⟨x0,rfl⟩,fr,bs,hb,a2⟩;obtain⟨hi,_⟩:=wz2.mp hx;rw[lqm]at hi;rw[wz5,zz2 hi]at hx;cases hx;have a4:FrS M H Hx:=(f1.trans fr).mono (by trivial);have a5:=hW.keep a4;have a7:=o2.keep a4;exists _,rfl,_,rfl,wd,_,rfl,a5.g.2.2.2.2.1,_,rfl,WA.owners,_,rfl,.inl ⟨_,Sum.inr d,.inl a5.owners.2,rfl,o1.symm⟩,op,_,rfl,.inl (SqL.of a7.2),rfl,zg0 _,_,a2,?_,⟨_,rfl⟩,fr.put a6,bs++[inV (.str l[i]) ((D.own d).map V.str)],?_
  .rw[lqm,hb,lqm,vc2];exact zb8 (by lia)
  .rw[hb,vc5,zz2 hi,wz9];rfl
  .rw[zb1,wz9];rfl
 .rintro σ Hx ⟨_,fr,bs,hb,a2⟩;refine⟨Dl,bs,rfl,SqL.of a2,q _ Hx (f1.trans fr) fun a3=>⟨hn,hd,?_⟩⟩;rw[lqm,vb2 (wz6 _)]at hb;subst hb;obtain⟨b,aa,a1⟩:=vt4.mp a3;obtain⟨x,hx,rfl⟩:=vb9.mp aa;exists x,l,hl,hx;have a1:inV (.str x) ((D.own d).map V.str)=true:=a1;rw[zj8]at a1;simpa using a1
end
abbrev Ms(hd en:Addr)(A:WA):List Addr:=[hd,en,A.told,A.held]
structure Sit(H:Hp)(hd en wd:Addr)(A:WA)(D:WD)(t r:Int):Prop where
 hand:∃d m,Hand H hd d m t r
 env:∃kv,H en=some (.dK kv)/\DOk D.U D.names kv
 told:∃kv,H A.told=some (.dK kv)/\DOk D.deeds D.names kv
 held:∃kv,H A.held=some (.dK kv)/\DOk D.fields D.names kv
 w:Wld (Ms hd en A) H wd A D
 nd:(Ms hd en A).Nodup
 ok:WOk D
section
def Sit.fr0(S:Sit H hd en wd A D t r)(f:FrS [] H H'):Sit H' hd en wd A D t r:=by
 obtain⟨⟨d,m,h1,a1⟩,⟨k1,e1,a0⟩,⟨k2,e2,a3⟩,⟨k3,e3,a2⟩,w,nd,ok⟩:=S;exact⟨⟨d,m,f _ _ (by trivial) h1,a1⟩,⟨k1,f _ _ (by trivial) e1,a0⟩,⟨k2,f _ _ (by trivial) e2,a3⟩,⟨k3,f _ _ (by trivial) e3,a2⟩,w.keep (f.mono (by trivial)),nd,ok⟩
def Sit.ne(S:Sit H hd en wd A D t r):hd≠en/\hd≠A.told/\hd≠A.held/\en≠A.told/\en≠A.held/\A.told≠A.held:=by
 have:=S.nd;simp only[Ms,vh6,vb4,wz1,vj2,not_or]at this;exact⟨this.1.1,this.1.2.1,this.1.2.2,this.2.1.1,this.2.1.2,this.2.2.1⟩
def Sit.setHand(S:Sit H hd en wd A D t r)(ok:zx2 d' m' t'):Sit (upd H hd (hl d' m' t' r')) hd en wd A D t' r':=by
 obtain⟨n1,n2,n3,n4,n5,n6⟩:=S.ne;obtain⟨⟨d,m,h1⟩,⟨k1,e1,a1⟩,⟨k2,e2,a3⟩,⟨k3,e3,a2⟩,w,nd,a0⟩:=S;exact⟨⟨d',m',Hand.at ok⟩,⟨k1,by rw[zb5 n1.symm];exact e1,a1⟩,⟨k2,by rw[zb5 n2.symm];exact e2,a3⟩,⟨k3,by rw[zb5 n3.symm];exact e3,a2⟩,w.keep (FrS.chg (by trivial)),nd,a0⟩
def Sit.setEnv(S:Sit H hd en wd A D t r)(h:DOk D.U D.names kv):Sit (upd H en (.dK kv)) hd en wd A D t r:=by
 obtain⟨n1,n2,n3,n4,n5,n6⟩:=S.ne;obtain⟨⟨d,m,h1,a1⟩,⟨k1,e1,a4⟩,⟨k2,e2,a3⟩,⟨k3,e3,a2⟩,w,nd,a0⟩:=S;exact⟨⟨d,m,by rw[zb5 n1];exact h1,a1⟩,⟨kv,zb1,h⟩,⟨k2,by rw[zb5 n4.symm];exact e2,a3⟩,⟨k3,by rw[zb5 n5.symm];exact e3,a2⟩,w.keep (FrS.chg (by trivial)),nd,a0⟩
def Sit.setTold(S:Sit H hd en wd A D t r)(h:DOk D.deeds D.names kv):Sit (upd H A.told (.dK kv)) hd en wd A D t r:=by
 obtain⟨n1,n2,n3,n4,n5,n6⟩:=S.ne;obtain⟨⟨d,m,h1,a2⟩,⟨k1,e1,a1⟩,⟨k2,e2,a4⟩,⟨k3,e3,a3⟩,w,nd,a0⟩:=S;exact⟨⟨d,m,by rw[zb5 n2];exact h1,a2⟩,⟨k1,by rw[zb5 n4];exact e1,a1⟩,⟨kv,zb1,h⟩,⟨k3,by rw[zb5 n6.symm];exact e3,a3⟩,w.keep (FrS.chg (by trivial)),nd,a0⟩
def Sit.setHeld(S:Sit H hd en wd A D t r)(h:DOk D.fields D.names kv):Sit (upd H A.held (.dK kv)) hd en wd A D t r:=by
 obtain⟨n1,n2,n3,n4,n5,n6⟩:=S.ne;obtain⟨⟨d,m,h1,a2⟩,⟨k1,e1,a1⟩,⟨k2,e2,a3⟩,⟨k3,e3,a4⟩,w,nd,a0⟩:=S;exact⟨⟨d,m,by rw[zb5 n3];exact h1,a2⟩,⟨k1,by rw[zb5 n5];exact e1,a1⟩,⟨k2,by rw[zb5 n6];exact e2,a3⟩,⟨kv,zb1,h⟩,w.keep (FrS.chg (by trivial)),nd,a0⟩
def Sit.have_(S:Sit H hd en wd A D t r):∀b∈Ms hd en A,∃o,H b=some o:=by
 obtain⟨⟨d,m,h1,a2⟩,⟨k1,e1,a1⟩,⟨k2,e2,a4⟩,⟨k3,e3,a3⟩,w,nd,a0⟩:=S;intro b hb;simp only[Ms,vb4,wz1,vj2]at hb;rcases hb with rfl | rfl | rfl | rfl
 .exact⟨_,h1⟩
 .exact⟨_,e1⟩
 .exact⟨_,e2⟩
 .exact⟨_,e3⟩
def Sit.notin(S:Sit H hd en wd A D t r)(hp:H p=none):p∉Ms hd en A:=fun z=>by
 obtain⟨o,ho⟩:=S.have_ p z;rw[hp]at ho;cases ho
def zh9{p a:Addr}{ss:List Str}{d m t r:Int}(h:H p=some (.lst (ss.map V.str)))(hh:Hand H a d m t r):p≠a:=fun e=>by
 subst e;rw[hh.1]at h;cases ss with
 | nil=>cases h
 | cons x l=>cases h
def FrS.thaw(hu:H a=Option.some u)(f:FrS [] (upd H a (.frz o u)) Hx):FrS [] H (upd Hx a u):=fun b v n q=>by
 by_cases e:b=a
 .subst e;rw[zb1];rw[hu]at q;exact q
 .rw[zb5 e];exact f b v n (by rw[zb5 e];exact q)
def DOk.strs(h:DOk U N kvs):∃ss:List Str,kvs.map (fun kv=>kV kv.1)=ss.map V.str/\↑ss=↑kvs/\∀x∈ss,x∈U:=by
 have key:∀l:List (Key×V),(∀k∈l.map (·.1),∃x∈U,k=Sum.inr x)->∃ss:List Str,l.map (fun kv=>kV kv.1)=ss.map V.str/\↑ss=↑l/\∀x∈ss,x∈U:=by
  intro l
  induction l with
  | nil=>intro _;exact⟨[],rfl,rfl,by simp⟩
  | cons a l ih=>
   intro hk;obtain⟨ss,e,el,hm⟩:=ih fun k a0=>hk k (vf6 _ a0);obtain⟨x,hx,ex⟩:=hk a.1 (by trivial);exists x::ss,?_,by simp[el]
   .rw[vf5,vf5,e,ex];rfl
   .intro y hy;rcases vb4.mp hy with rfl | hy
    .exact hx
    .exact hm y hy
 exact key kvs h.ks
end
abbrev sVar:Stmt:=top 26
abbrev sTgt:Stmt:=top 27
abbrev ws2:Stmt:=top 28
inductive SpVar(vs:List V)(H:Hp)(Q:VK):Prop
 | mk(hd en wd:Addr)(A:WA)(D:WD)(t r:Int)(h1:vs=[.ref hd,.ref wd,.ref en])(h2:Sit H hd en wd A D t r)(h3:t+2<1000000)(h4:∀(x:Str)(H':Hp)(t':Int),Sit H' hd en wd A D t' r->FrS (Ms hd en A) H H'->t'<=t+2->FrS [hd] H H'->Q (.str x) H'):SpVar  vs H Q
def ys0:Sp:=fun vs H Q _=>SpVar  vs H Q
section
def scVar:zd0 [qH,qW,"_law_env","_law_some"] qA (zc1 sVar):=fsc
def ok_var{k:Nat}(F:Fun K "_law_variable" "_law_variable" sVar f fd)(T:Cal P w K mg base k "_law_take" qB zh6)(O:Cal P w K mg base k "_law_of" qC (spOf K))(ag:mg "list"=none):
  FnOk P w K mg base CX0 (k+1) f fd qA ys0:=by
 refine F.ok scVar (fun vs H Q E h=>?_) (fun an A outer s H vs Q E hr h=>?_)
 .obtain⟨hd,en,wd,A,D,t,r,rfl,_⟩:=h;rfl
 obtain⟨hd,en,wd,WA,D,t,r,rfl,S,ht,q⟩:=h;have hu:=zn5 hr;have ai:(["_law_x","_law_env"]:List Str).Nodup:=by rfl'
 exists _,zb3 (xq8 (zj0 (i:=3) (N':=["_law_x","_law_env"]) (src:=[none,some 2]) rfl scVar.nd rfl rfl bkn
   (yj4 (pv 2)) (g:=zf0 0) (fun _ _ _ _=>gL 0 ai)
   (fun _ _ _ _=>zr6 (zq9 (zw3 (zc6 hu (pv 1) (pv 0) (fun _ _=>rfl))))) (fun _ _ _ _=>pv 0)))
  (zb3 (zg8 (PW.pt (zk5 (zc2 (yn5 (vs4 hu)) (pv 3) (zd7 zb2) (zd6 _)) (zk2 (zc2 yk4 (zb9 T hr rfl (zb0 (pv 0) (zb0 zb6 zb2))) zb6 (zd6 _)))))
   (zb7 (zd1 (zb9 O hr rfl (zb0 (pv 0) (zb0 (pv 3) zb2))))) zd4)
  (zb7 (zd1 (zb9 O hr rfl (zb0 (pv 0) (zb0 (zf2 yh2 (zc6 hu (pv 1) zd3 (fun _ _=>rfl)) (zc7 (zr1 rfl) rfl ag (by rfl') (zb0 (pv 2) zb2))) zb2))))))
 ac_rfl
 obtain⟨kv,a7,hk⟩:=S.env;have hU:D.U.length=9:=by unfold WD.U;rw[vc6,wz4,S.ok.v4,S.ok.p4]
 have al:=hk.len;obtain⟨us,eu,ao,_⟩:=hk.strs;exists en,kv,a7;refine⟨_,rfl,en,kv,rfl,a7,fun o Dl a0=>?_⟩;have aa:Dl≠en:=fun z=>by rw[z,zb1]at a0;cases a0
 have ap:H Dl=none:=by rw[zb5 aa]at a0;exact a0
 refine yn2 (xs:=kv.map fun p=>kV p.1) (fun i σ Hx=>(∃x,σ=[x,some (.ref en)])/\FrS [] (upd H en (.frz o (.dK kv))) Hx/\∃ss:List Str,↑ss<=i/\Hx Dl=some (.lst (ss.map V.str))) ⟨⟨_,rfl⟩,(FrS.refl).put a0,[],by simp,zb1⟩ ?_ ?_ ?_
 .rintro i σ Hx hi ⟨_,fr,_⟩;exact fr _ _ (by trivial) zb1
 .rintro i x σ Hx hx ⟨⟨x0,rfl⟩,fr,ss,hs,a3⟩;have ad:=hx;rw[eu]at hx;obtain⟨hi,_⟩:=wz2.mp hx;rw[lqm]at hi;rw[wz5,zz2 hi]at hx;cases hx;have aj:(Sum.inr us[i]:Key)∈kv.map (·.1):=by
   rw[wz5]at ad;obtain⟨p,hp,e⟩:=wz8.mp ad;have:p.1=Sum.inr us[i]:=by
    obtain⟨y,_,ey⟩:=hk.ks p.1 (vb9.mpr ⟨p,vb0 hp,rfl⟩);rw[ey]at e ⊢;cases e;rfl
   exact vb9.mpr ⟨p,vb0 hp,this⟩
  obtain⟨v,hv⟩:∃v,valV kv (Sum.inr us[i])=some v:=by
   cases z:valV kv (Sum.inr us[i])with
   | some v=>exact⟨v,rfl⟩
   | none=>exact absurd aj (zz5 z)
  exists _,rfl,_,rfl,en,v,rfl,.inl ⟨kv,Sum.inr us[i],.inr ⟨o,fr _ _ (by trivial) zb1⟩,rfl,hv.symm⟩,_,rfl;refine ite2 (fun c=>?_) (fun c=>?_)
  .exists _,rfl,_,a3,by rw[lqm];exact zb8 (by lia),⟨_,rfl⟩,fr.put a0,ss++[us[i]],?_
   .rw[wz4,vc1];lia
   .rw[zb1,wz9];rfl
  .exact⟨⟨_,rfl⟩,fr,ss,by lia,a3⟩
 .rintro σ Hx ⟨_,fr,ss,hs,a3⟩;rw[lqm]at hs;exists o,fr _ _ (by trivial) zb1;have f1:FrS [] H (upd Hx en (.dK kv)):=FrS.thaw a7 fr;have S1:=S.fr0 f1;have a1:upd Hx en (.dK kv) Dl=some (.lst (ss.map V.str)):=by rw[zb5 aa];exact a3
  generalize upd Hx en (.dK kv)=H1 at f1 S1 a1;have last:∀(H2:Hp)(t2:Int),Sit H2 hd en wd WA D t2 r->FrS (Ms hd en WA) H H2->FrS [hd] H H2->t2<=t+1->
    tRet (zm8 (spOf K) [] E (zc3 (tVar 0) (zc3 (tOp rCat (yx2 (tVar 1) (tC (.str "vars"))) (tCB (fun xs H Q=>∃p kvs,xs=[.ref p]/\Rd H p (.dK kvs)/\∀l,H l=none->Q (.ref l) (upd H l (.lst (kvs.map fun kv=>kV kv.1)))) (zc3 (tVar 2) tNil))) tNil))) ⟨fun _ H=>Q .non H,Q,fun _ _=>False,fun _ _=>False⟩ [some (.ref hd),some (.ref wd),some (.ref en),some (.ref Dl)] H2:=by
   intro H2 t2 S2 f2 a2 am;obtain⟨a6,a8,ac⟩:=S2.env;obtain⟨af,ae,ak,_⟩:=ac.strs;have ah:=ac.len;refine⟨_,rfl,_,rfl,wd,_,rfl,S2.w.g.2.2.2.2.2.1,_,rfl,en,a6,rfl,.inl a8,fun l hl=>?_⟩;have S3:=S2.fr0 (FrS.new (S:=[]) (o:=.lst (a6.map fun kv=>kV kv.1)) hl);refine⟨WA.vars,l,_,_,rfl,rfl,S3.w.vars.2,zb1,?_,fun p hp=>?_⟩
   .rw[lqm,lqm,S.ok.v4];exact vb5 (zb8 (by lia))
   .have S4:=S3.fr0 (FrS.new (S:=[]) (o:=.lst (D.vars.map V.str++a6.map fun kv=>kV kv.1)) hp);rw[ae,<-wz9]at S4 ⊢;rw[ae]at hp;obtain⟨d,m,hh⟩:=S4.hand;refine⟨hd,p,d,m,t2,r,_,rfl,hh,by lia,zh9 (ss:=D.vars++af) zb1 hh,SqL.of zb1,?_,?_,fun x d' m' t' hx c e=>?_⟩
    .intro z;have:=vg1 List.length z;rw[lqm,wz4,S.ok.v4,vk8]at this;lia
    .rw[lqm,wz4,S.ok.v4];lia
    obtain⟨y,hy,rfl⟩:=vb9.mp hx;refine q y _ t' (S4.setHand c) ?_ (by lia) ?_
    .exact(f2.trans ((FrS.new hl).trans (FrS.new hp))).put' (by trivial)
    .exact(a2.trans ((FrS.new hl).trans (FrS.new hp))).put' (by trivial)
  refine⟨_,rfl,vc9 _,fun pe a4=>?_⟩;have S2:=S1.fr0 (FrS.new (S:=[]) (o:=.lst []) a4);have a5:Dl≠pe:=zb4 a1 a4;exists Dl,pe,_,rfl,rfl,a5,SqL.of (by rw[zb5 a5];exact a1),SqL.of zb1,_,rfl;have f2:FrS (Ms hd en WA) H (upd H1 pe (.lst [])):=(f1.trans (FrS.new a4)).mono (by trivial);have a2:FrS [hd] H (upd H1 pe (.lst [])):=(f1.trans (FrS.new a4)).mono (by trivial);cases ss with
  | nil=>exact last _ t S2 f2 a2 (by lia)
  | cons y ys=>
   obtain⟨d,m,hh⟩:=S2.hand;refine⟨_,rfl,hd,d,m,t,r,4,rfl,hh,by lia,by decide,by decide,fun x d' m' t3 x0 x1 c e=>⟨_,_,rfl,rfl,_,rfl,?_⟩⟩;have S3:=S2.setHand (r':=r) c;have f3:=f2.put' (a:=hd) (o:=hl d' m' t3 r) (by trivial);have a9:=a2.put' (a:=hd) (o:=hl d' m' t3 r) (by trivial);have ab:Dl≠hd:=zh9 (ss:=y::ys) (by rw[zb5 a5];exact a1) hh;refine ite2 (fun c=>?_) (fun c=>?_)
   .obtain⟨d,m,hh⟩:=S3.hand;refine⟨_,rfl,_,rfl,hd,Dl,d,m,t3,r,_,rfl,hh,by lia,ab,SqL.of (by rw[zb5 ab,zb5 a5];exact a1),by simp,by rw[lqm];lia,fun x d' m' t' hx c e=>?_⟩;obtain⟨y,hy,rfl⟩:=vb9.mp hx;exact q y _ t' (S3.setHand c) (f3.put' (by trivial)) (by lia) (a9.put' (by trivial))
   .exact last _ t3 S3 f3 a9 e
end
def Tup(H H':Hp):Prop:=∀b xs,H b=some (.tup xs)->H' b=some (.tup xs)
def Tup.trans{A B C:Hp}(f:Tup A B)(g:Tup B C):Tup A C:=fun b xs h=>g b xs (f b xs h)
def Tup.of0(f:FrS [] H H'):Tup H H':=fun b _ h=>f b _ wz1 h
def Tup.new(hp:H p=none):Tup H (upd H p o):=fun b xs h=>by
 rw[zb5 (zb4 h hp)];exact h
def Tup.lst(hp:H p=some (.lst ys)):Tup H (upd H p o):=fun b xs h=>by
 rw[zb5 (fun z=>by rw[z,hp]at h;cases h)];exact h
def FrS.tup(f:FrS M H H')(hm:∀b∈M,∀xs,H b≠some (.tup xs)):Tup H H':=fun b xs h=>f b _ (fun z=>hm b z xs h) h
def Sit.notup{A:WA}(S:Sit H hd en wd A D t r):∀b∈Ms hd en A,∀xs,H b≠some (.tup xs):=by
 obtain⟨⟨d,m,h1,a2⟩,⟨k1,e1,a1⟩,⟨k2,e2,a4⟩,⟨k3,e3,a3⟩,w,nd,a0⟩:=S;intro b hb xs;simp only[Ms,vb4,wz1,vj2]at hb;rcases hb with rfl | rfl | rfl | rfl
 .rw[h1];intro z;cases z
 .rw[e1];intro z;cases z
 .rw[e2];intro z;cases z
 .rw[e3];intro z;cases z
def Sit.tup{A:WA}(S:Sit H hd en wd A D t r)(f:FrS (Ms hd en A) H H'):Tup H H':=FrS.tup f S.notup
inductive PlainR(H:Hp)(a:Addr):Prop
 | mk(w:Str)(rest:List V)(h:H a=some (.tup (.str w::rest)))(n1:w≠"call")(n2:w≠"either")(n3:w≠"again")(m:w="make"->∃x k:Str,rest=[.str x,.str k]):PlainR H a
inductive CallR(Z:Str->Str->Prop)(H:Hp)(a:Addr):Prop
 | mk(x y k d:Str)(g:Addr)(ss:List Str)(h:H a=some (.tup [.str "call",.str x,.str y,.str k,.str d,.ref g]))(hg:H g=some (.tup (ss.map V.str)))(hl:↑ss<=1000)(hz:Z k d):CallR Z H a
def PlainR.keep(h:PlainR H a)(f:Tup H H'):PlainR H' a:=by
 obtain⟨w,rest,h,n1,n2,n3,m⟩:=h;exact⟨w,rest,f _ _ h,n1,n2,n3,m⟩
def CallR.keep(h:CallR Z H a)(f:Tup H H'):CallR Z H' a:=by
 obtain⟨x,y,k,d,g,ss,h,hg,hl,hz⟩:=h;exact⟨x,y,k,d,g,ss,f _ _ h,f _ _ hg,hl,hz⟩
def Row1(Z:Str->Str->Prop)(H:Hp)(a:Addr):Prop:=PlainR H a\/CallR Z H a
inductive Fl(Z:Str->Str->Prop)(H:Hp):Nat->List Addr->List Addr->Prop
 | nil {n:Nat}:Fl Z H n [] []
 | one {n:Nat} {a:Addr} {rs fs:List Addr} (h:Row1 Z H a) (t:Fl Z H n rs fs):Fl Z H n (a::rs) (a::fs)
 | again {n:Nat} {a l:Addr} {rs1 fs1 rs fs:List Addr} (h:H a=some (.tup [.str "again",.ref l])) (hl:H l=some (.tup (rs1.map V.ref))) (s:Fl Z H n rs1 fs1) (t:Fl Z H (n+1) rs fs):Fl Z H (n+1) (a::rs) (a::(fs1++fs))
 | either {n:Nat} {a l1 l2:Addr} {rs1 fs1 rs2 fs2 rs fs:List Addr} (h:H a=some (.tup [.str "either",.ref l1,.ref l2])) (h1:H l1=some (.tup (rs1.map V.ref))) (h2:H l2=some (.tup (rs2.map V.ref))) (s1:Fl Z H n rs1 fs1) (s2:Fl Z H n rs2 fs2) (t:Fl Z H (n+1) rs fs):Fl Z H (n+1) (a::rs) (a::(fs1++(fs2++fs)))
def Fl.keep(h:Fl Z H n rs fs)(f:Tup H H'):Fl Z H' n rs fs:=by
 induction h with
 | nil=>exact .nil
 | one h _ ih=>exact .one (h.imp (·.keep f) (·.keep f)) ih
 | again h hl _ _ i1 i2=>exact .again (f _ _ h) (f _ _ hl) i1 i2
 | either h h1 h2 _ _ _ i1 i2 i3=>exact .either (f _ _ h) (f _ _ h1) (f _ _ h2) i1 i2 i3
def Fl.app(h:Fl Z H n rs fs)(g:Fl Z H n rs' fs'):Fl Z H n (rs++rs') (fs++fs'):=by
 induction h with
 | nil=>exact g
 | one h _ ih=>exact .one h (ih g)
 | again h hl s _ i1 i2=>
  have:=Fl.again h hl s (i2 g);rw[<-vd8]at this;exact this
 | either h h1 h2 s1 s2 _ i1 i2 i3=>
  have:=Fl.either h h1 h2 s1 s2 (i3 g);simpa [vd8]using this
def Fl.len(h:Fl Z H n rs fs):↑rs<=↑fs:=by
 induction h with
 | nil=>exact wz6 _
 | one h _ ih=>exact Nat.succ_le_succ ih
 | again h hl s _ i1 i2=>rw[vc6,vc6,wz4];lia
 | either h h1 h2 s1 s2 _ i1 i2 i3=>rw[vc6,vc6,wz4,wz4];lia
inductive RowIs(Z:Str->Str->Prop)(H:Hp)(a:Addr):Prop
 | mk(w:Str)(rest:List V)(h:H a=some (.tup (.str w::rest)))(c:w="call"->CallR Z H a)(m:w="make"->∃x k:Str,rest=[.str x,.str k]):RowIs Z H a
def RowIs.keep(h:RowIs Z H a)(f:Tup H H'):RowIs Z H' a:=by
 obtain⟨w,rest,h,c,m⟩:=h;exact⟨w,rest,f _ _ h,fun e=>(c e).keep f,m⟩
def Row1.is(h:Row1 Z H a):RowIs Z H a:=by
 rcases h with ⟨w,rest,h,n1,_,_,m⟩ | ⟨x,y,k,d,g,ss,h,hg,hl,hz⟩
 .exact⟨w,rest,h,fun e=>absurd e n1,m⟩
 .exact⟨_,_,h,fun _=>⟨x,y,k,d,g,ss,h,hg,hl,hz⟩,fun e=>absurd e (by rfl')⟩
def Fl.is(h:Fl Z H n rs fs):∀a∈fs,RowIs Z H a:=by
 have na:("again":Str)≠"call":=by rfl'
 have ne:("either":Str)≠"call":=by rfl'
 induction h with
 | nil=>intro a h;cases h
 | one h _ ih=>
  intro a ha;cases ha with
  | head=>exact h.is
  | tail _ ha=>exact ih a ha
 | again h hl s _ i1 i2=>
  intro a ha;cases ha with
  | head=>exact⟨_,_,h,fun e=>absurd e na,fun e=>absurd e (by rfl')⟩
  | tail _ ha=>exact(vc4.mp ha).elim (i1 a) (i2 a)
 | either h h1 h2 s1 s2 _ i1 i2 i3=>
  intro a ha;cases ha with
  | head=>exact⟨_,_,h,fun e=>absurd e ne,fun e=>absurd e (by rfl')⟩
  | tail _ ha=>exact(vc4.mp ha).elim (i1 a) fun ha=>(vc4.mp ha).elim (i2 a) (i3 a)
inductive Lots(Z:Str->Str->Prop)(H:Hp)(n:Nat):List Addr->List Addr->Prop
 | nil:Lots Z H n [] []
 | snoc {ls fs:List Addr} {l:Addr} {rs f1:List Addr} (h:Lots Z H n ls fs) (hl:H l=some (.tup (rs.map V.ref))) (s:Fl Z H n rs f1):Lots Z H n (ls++[l]) (fs++f1)
def Lots.keep(h:Lots Z H n ls fs)(f:Tup H H'):Lots Z H' n ls fs:=by
 induction h with
 | nil=>exact .nil
 | snoc _ hl s ih=>exact ih.snoc (f _ _ hl) (s.keep f)
def Lots.zero(h:Lots Z H n ls fs)(e:↑ls=0):ls=[]/\fs=[]:=by
 cases h with
 | nil=>exact⟨rfl,rfl⟩
 | snoc h hl s=>rw[wz4,vc1]at e;lia
def Lots.one(h:Lots Z H n ls fs)(e:↑ls=1):∃l rs,ls=[l]/\H l=some (.tup (rs.map V.ref))/\Fl Z H n rs fs:=by
 cases h with
 | nil=>cases e
 | snoc h hl s=>
  rw[wz4,vc1]at e;obtain⟨rfl,rfl⟩:=h.zero (by lia);exact⟨_,_,rfl,hl,s⟩
def Lots.two(h:Lots Z H n ls fs)(e:↑ls=2):∃l1 a0 f1 l2 rs2 f2,ls=[l1,l2]/\fs=f1++f2/\H l1=some (.tup (a0.map V.ref))/\Fl Z H n a0 f1/\H l2=some (.tup (rs2.map V.ref))/\Fl Z H n rs2 f2:=by
 cases h with
 | nil=>cases e
 | snoc h hl s=>
  rw[wz4,vc1]at e;obtain⟨l1,a0,rfl,a,b⟩:=h.one (by lia);exact⟨l1,a0,_,_,_,_,rfl,rfl,a,b,hl,s⟩
def Lots.row{w:Str}(h:Lots Z H n ls fs)(ha:H a=some (.tup (.str w::ls.map V.ref)))(e:↑ls=1/\w="again"\/↑ls=2/\w="either"):Fl Z H (n+1) [a] (a::fs):=by
 rcases e with ⟨e,rfl⟩ | ⟨e,rfl⟩
 .obtain⟨l,rs,rfl,b,s⟩:=h.one e;have:=Fl.again (rs:=[]) (fs:=[]) ha b s .nil;rwa [vh4]at this
 .obtain⟨l1,a1,f1,l2,a0,f2,rfl,rfl,b1,s1,b2,s2⟩:=h.two e;have:=Fl.either (rs:=[]) (fs:=[]) ha b1 b2 s1 s2 .nil;rwa [vh4]at this
inductive SpTgt(vs:List V)(H:Hp)(Q:VK):Prop
 | mk(hd en wd:Addr)(A:WA)(D:WD)(t r:Int)(h1:vs=[.ref hd,.ref wd,.ref en])(h2:Sit H hd en wd A D t r)(h3:t+1<1000000)(h4:∀(x:Str)(H':Hp)(t':Int),x∈D.U->Sit H' hd en wd A D t' r->FrS (Ms hd en A) H H'->t'<=t+1->FrS [hd] H H'->Q (.str x) H'):SpTgt  vs H Q
def yv2:Sp:=fun vs H Q _=>SpTgt  vs H Q
section
def scTgt:zd0 qA qA (zc1 sTgt):=fsc
def ok_tgt(F:Fun K "_law_target" "_law_target" sTgt f fd)(O:Cal P w K mg base k "_law_of" qC (spOf K)):
  FnOk P w K mg base CX0 (k+1) f fd qA yv2:=by
 refine F.ok scTgt (fun vs H Q E h=>?_) (fun aa A outer s H vs Q E hr h=>?_)
 .obtain⟨hd,en,wd,A,D,t,r,rfl,_⟩:=h;rfl
 obtain⟨hd,en,wd,WA,D,t,r,rfl,S,ht,q⟩:=h;have hu:=zn5 hr;have a8:(["_law_x",qW]:List Str).Nodup:=by rfl'
 exists _,zb7 (zd1 (zb9 O hr rfl (zb0 (pv 0) (zb0 (zf2 yh2 (zc6 hu (pv 1) zd3 (fun _ _=>rfl))
   (xs9 (zh0 (N':=["_law_x",qW]) (src:=[none,some 1]) rfl bkn
   (yj4 (pv 2)) (g:=zf0 0) (fun _ _ _ _=>gL 0 a8)
   (fun _ _ _ _=>zr6 (zc2 (show OpR _ _ (rIn K false) from zg4) (pv 0) (zc6 hu (pv 1) zd3 (fun _ _=>rfl)) rfl)) (fun _ _ _ _=>pv 0)))) zb2))))
 ac_rfl
 obtain⟨kv,a3,hk⟩:=S.env;have hU:D.U.length=9:=by unfold WD.U;rw[vc6,wz4,S.ok.v4,S.ok.p4]
 have a9:=hk.len;obtain⟨us,eu,ab,a6⟩:=hk.strs;exists _,rfl,_,rfl,wd,_,rfl,S.w.g.2.2.2.2.2.1,en,kv,a3;refine⟨_,rfl,en,kv,rfl,a3,fun o Dl a0=>?_⟩;have a4:Dl≠en:=fun z=>by rw[z,zb1]at a0;cases a0
 have ad:H Dl=none:=by rw[zb5 a4]at a0;exact a0
 have ac:wd≠en:=fun z=>by obtain⟨kvs,⟨hn,_⟩,_⟩:=S.w.k;exact hn (by rw[z];simp)
 refine yn2 (xs:=kv.map fun p=>kV p.1) (fun i σ Hx=>(∃x,σ=[x,some (.ref wd)])/\FrS [] (upd H en (.frz o (.dK kv))) Hx/\∃ss:List Str,↑ss<=i/\(∀x∈ss,x∈D.U)/\Hx Dl=some (.lst (ss.map V.str))) ⟨⟨_,rfl⟩,(FrS.refl).put a0,[],by simp,by simp,zb1⟩ ?_ ?_ ?_
 .rintro i σ Hx hi ⟨_,fr,_⟩;exact fr _ _ (by trivial) zb1
 .rintro i x σ Hx hx ⟨⟨x0,rfl⟩,fr,ss,hs,a1,a2⟩;rw[eu]at hx;obtain⟨hi,_⟩:=wz2.mp hx;rw[lqm]at hi;rw[wz5,zz2 hi]at hx;cases hx;have a5:FrS (Ms hd en WA) H Hx:=fun b u n e=>fr b u (by trivial) (by rw[zb5 (fun z=>n (by rw[z];simp))];exact e)
  have W2:=S.w.keep a5;exists _,rfl,_,rfl,wd,_,rfl,W2.g.2.2.2.2.2.2.1,WA.params,_,rfl,.inl (SqL.of W2.params.2),rfl,zg0 _,_,rfl;refine ite2 (fun c=>?_) (fun c=>?_)
  .exists _,rfl,_,a2,by rw[lqm];exact zb8 (by lia),⟨_,rfl⟩,fr.put a0,ss++[us[i]],?_,?_
   .rw[wz4,vc1];lia
   .intro x hx;rcases vc4.mp hx with hx | hx
    .exact a1 x hx
    .rw[vc7.mp hx];exact a6 _ (vg6 hi)
   .rw[zb1,wz9];rfl
  .exact⟨⟨_,rfl⟩,fr,ss,by lia,a1,a2⟩
 .rintro σ Hx ⟨_,fr,ss,hs,a1,a2⟩;rw[lqm]at hs;exists o,fr _ _ (by trivial) zb1;have f1:FrS [] H (upd Hx en (.dK kv)):=FrS.thaw a3 fr;have S1:=S.fr0 f1;have a7:upd Hx en (.dK kv) Dl=some (.lst (ss.map V.str)):=by rw[zb5 a4];exact a2
  refine⟨WA.vars,Dl,_,_,rfl,rfl,S1.w.vars.2,a7,?_,fun p hp=>?_⟩
  .rw[lqm,lqm,S.ok.v4];exact vb5 (zb8 (by lia))
  .have S4:=S1.fr0 (FrS.new (S:=[]) (o:=.lst (D.vars.map V.str++ss.map V.str)) hp);rw[<-wz9]at S4 ⊢;obtain⟨d,m,hh⟩:=S4.hand;refine⟨hd,p,d,m,t,r,_,rfl,hh,by lia,zh9 (ss:=D.vars++ss) zb1 hh,SqL.of zb1,?_,?_,fun x d' m' t' hx c e=>?_⟩
   .intro z;have:=vg1 List.length z;rw[lqm,wz4,S.ok.v4,vk8]at this;lia
   .rw[lqm,wz4,S.ok.v4];lia
   obtain⟨y,hy,rfl⟩:=vb9.mp hx;refine q y _ t' ?_ (S4.setHand c) ?_ (by lia) ?_
   .rcases vc4.mp hy with hy | hy
    .unfold WD.U;simp[hy]
    .exact a1 y hy
   .exact((f1.trans (FrS.new hp)).mono (by trivial)).put' (by trivial)
   .exact((f1.trans (FrS.new hp)).mono (by trivial)).put' (by trivial)
def zw5{H1:Hp}{tp:Addr}{ts:List Addr}{tr:Tr}{Dl:Addr}(ht:H1 tp=some (.lst (ts.map V.ref)))(hl:↑ts=↑tr)(h3:∀(j:Nat) t x,ts[j]?=some t->tr[j]?=some x->H1 t=some (.tup [.str x.1,eldV x.2]))(hD:H1 Dl=none)(a3:↑tr<=1000)
  {Q:Hp->Prop} (q:∀H',FrS [] H1 H'->H' Dl=some (.lst ((tr.map (·.1)).map V.str))->Q H'):yg5 (Itl K tp) (gTup K 2 (zk0 (zf0 0) (zk0 (zf0 1) gNil))) tAll (tVar 0) Dl [none,none] (upd H1 Dl (.lst [])) Q:=by
 refine zg9 (xs:=ts.map V.ref) (fun i σ Hx=>(∃x y,σ=[x,y])/\FrS [] H1 Hx/\Hx Dl=some (.lst (((tr.take i).map (·.1)).map V.str))) ⟨⟨_,_,rfl⟩,(FrS.refl).put hD,zb1⟩ ?_ ?_ ?_
 .rintro i σ Hx hi ⟨_,fr,_⟩;exact SqL.of (fr _ _ (by trivial) ht)
 .rintro i x σ Hx hx ⟨⟨x0,y0,rfl⟩,fr,a0⟩;rw[wz5]at hx;obtain⟨t,a1,rfl⟩:=wz8.mp hx;obtain⟨hi,_⟩:=wz2.mp a1;have a2:tr[i]?=some tr[i]:=zz2 (by lia);have e:=h3 i t _ a1 a2;exists t,_,rfl,SqT.of (fr _ _ (by trivial) e),rfl,_,_,rfl,_,_,rfl,rfl;exists _,rfl,_,a0,?_,⟨_,_,rfl⟩,fr.put hD
  .rw[lqm,lqm,vc2];exact zb8 (by lia)
  .rw[zb1,vc5,a2,wz9,wz9];rfl
 .rintro σ Hx ⟨_,fr,a0⟩;rw[vb2 (by rw[lqm];lia)]at a0;exact q Hx fr a0
inductive wj1(vs:List V)(H:Hp)(Q:VK):Prop
 | mk(hd en wd:Addr)(A:WA)(D:WD)(t r:Int)(h1:vs=[.ref hd,.ref wd,.ref en])(h2:Sit H hd en wd A D t r)(h3:t+3<1000000)(h4:∀(x:Addr)(H':Hp)(t':Int),PlainR H' x->Sit H' hd en wd A D t' r->FrS (Ms hd en A) H H'->t'<=t+3->Q (.ref x) H'):wj1  vs H Q
def xd3:Sp:=fun vs H Q _=>wj1  vs H Q
abbrev nMake:List Str:=[qH,qW,"_law_env","_law_names","_law_soon","_law_kind","_law_x"]
def yq8:zd0 nMake qA (zc1 ws2):=fsc
def wr6{k:Nat}(F:Fun K "_law_make" "_law_make" ws2 f fd)(T:Cal P w K mg base k "_law_take" qB zh6)(O:Cal P w K mg base k "_law_of" qC (spOf K))(G:Cal P w K mg base k "_law_target" qA yv2):
  FnOk P w K mg base CX0 (k+1) f fd qA xd3:=by
 refine F.ok yq8 (fun vs H Q E h=>?_) (fun b0 A outer s H vs Q E hr h=>?_)
 .obtain⟨hd,en,wd,A,D,t,r,rfl,_⟩:=h;rfl
 obtain⟨hd,en,wd,WA,D,t,r,rfl,S,ht,q⟩:=h;have hu:=zn5 hr;have ak:(["_law_name","_law_elder"]:List Str).Nodup:=by rfl'
 have an:(["_law_name",qW]:List Str).Nodup:=by rfl'
 exists _,zb3 (zj0 (i:=3) (N':=["_law_name","_law_elder"]) (src:=[none,none]) rfl yq8.nd rfl rfl bkn
   (zf6 (zc6 hu (pv 1) zd3 (fun _ _=>rfl))) (g:=gTup K 2 (zk0 (zf0 0) (zk0 (zf0 1) gNil))) (fun _ _ _ _=>zh4 (n:=2) rfl (zc0 (gL 0 ak) (zc0 (gL 1 ak) zf8)))
   (fun _ _ _ _=>zg2) (fun _ _ _ _=>pv 0))
  (zb3 (zj0 (i:=4) (N':=["_law_name",qW]) (src:=[none,some 1]) rfl yq8.nd rfl rfl bkn
   (zf6 (pv 3)) (g:=zf0 0) (fun _ _ _ _=>gL 0 an)
   (fun _ _ _ _=>zr6 (zc2 (show OpR _ _ (rIn K true) from zp3) (pv 0) (zc6 hu (pv 1) zd3 (fun _ _=>rfl)) rfl)) (fun _ _ _ _=>pv 0))
  (zb3 (sL 5 yq8.nd (zb9 O hr rfl (zb0 (pv 0) (zb0 (eI (zd7 (zb0 (pv 4) (zb0 (pv 4) (zb0 (pv 3) zb2)))) (zb9 T hr rfl (zb0 (pv 0) (zb0 zb6 zb2)))) zb2))))
  (zb3 (sL 6 yq8.nd (zb9 G hr rfl (zb0 (pv 0) (zb0 (pv 1) (zb0 (pv 2) zb2)))))
  (zb3 (zn7 hu (pv 2) (pv 6) (pv 5) rfl)
  (zb7 (zd1 (zf1 (zb0 zd3 (zb0 (pv 6) (zb0 (pv 5) zb2))))))))))
  
 ac_rfl
 have hU:D.U.length=9:=by unfold WD.U;rw[vc6,wz4,S.ok.v4,S.ok.p4]
 have az:=S.ok.l12;obtain⟨ts,t1,t2,t3⟩:=S.w.tree;refine⟨_,rfl,wd,_,rfl,S.w.g.1,WA.tree,rfl,⟨_,SqL.of t1.2⟩,fun Dn aq=>?_⟩;refine zw5 (tr:=D.tr) t1.2 t2 (fun j t x a b=>(t3 j t x a b).2) aq (by lia) fun H1 f1 a5=>?_
 have S1:=S.fr0 f1;refine⟨_,rfl,Dn,rfl,⟨_,SqL.of a5⟩,fun Ds ad=>?_⟩;have b1:Dn≠Ds:=zb4 a5 ad;refine zg9 (xs:=(D.tr.map (·.1)).map V.str) (fun i σ Hx=>(∃x,σ=[x,some (.ref wd)])/\FrS [] H1 Hx/\Hx Ds=some (.lst ((((D.tr.map (·.1)).take i).filter fun x=>decide (x∉D.late)).map V.str))) ⟨⟨_,rfl⟩,(FrS.refl).put ad,zb1⟩ ?_ ?_ ?_
 .rintro i σ Hx hi ⟨_,fr,_⟩;exact SqL.of (fr _ _ (by trivial) a5)
 .rintro i x σ Hx hx ⟨⟨x0,rfl⟩,fr,ah⟩;obtain⟨hi,_⟩:=wz2.mp hx;rw[lqm]at hi;rw[wz5,zz2 hi]at hx;cases hx;have S2:=S1.fr0 fr;have ar:=hi;rw[lqm]at ar;have a6:↑(((D.tr.map (·.1)).take i).filter fun x=>decide (x∉D.late))<=12:=by
   have:=vm4 (fun x=>decide (x∉D.late)) ((D.tr.map (·.1)).take i);rw[vc2,lqm]at this;lia
  exists _,rfl,_,rfl,wd,_,rfl,S2.w.g.2.1,WA.late,_,rfl,.inl (SqL.of S2.w.late.2),rfl,zg0 _,_,rfl;have ef:((D.tr.map (·.1)).take (i+1)).filter (fun x=>decide (x∉D.late))=((D.tr.map (·.1)).take i).filter (fun x=>decide (x∉D.late))++[(D.tr.map (·.1))[i]].filter (fun x=>decide (x∉D.late)):=by
   rw[vc5,zz2 hi,ub3];rfl
  rw[zj8];refine ite2 (fun c0=>?_) (fun c0=>?_)
  rotate_left
  .have c:(D.tr.map (·.1))[i]∈D.late:=by simpa using c0
   exists ⟨_,rfl⟩,fr;rw[ef,vt2 (by simpa using c),vr0,vh4];exact ah
  .have c:(D.tr.map (·.1))[i]∉D.late:=by simpa using c0
   exists _,rfl,_,ah,by rw[lqm];exact zb8 (by lia),⟨_,rfl⟩,fr.put ad;rw[zb1,ef,vt3 (by simpa using c),vr0,wz9];rfl
 rintro σ H2 ⟨_,f2,a1⟩;rw[lqm,vb2 (wz6 _)]at a1;have S2:=S1.fr0 f2;have ab:=f2 _ _ (by trivial) a5;obtain⟨x1,af,aa⟩:=S.ok.soon;have a0:((D.tr.map (·.1)).filter fun x=>decide (x∉D.late))≠[]:=fun z=>by
  have:x1∈((D.tr.map (·.1)).filter fun x=>decide (x∉D.late)):=vq6.mpr ⟨af,by simp[aa]⟩;rw[z]at this;cases this
 have ac:D.tr.map (·.1)≠[]:=fun z=>by
  have:x1∈D.tr.map (·.1):=af;rw[z]at this;cases this
 have a6:↑((D.tr.map (·.1)).filter fun x=>decide (x∉D.late))<=12:=by
  have:=vm4 (fun x=>decide (x∉D.late)) (D.tr.map (·.1));rw[lqm]at this;lia
 generalize hss:((D.tr.map (·.1)).filter fun x=>decide (x∉D.late))=ss at a1 a0 a6;have ag:∀x∈ss,x∈D.names:=fun x hx=>by rw[<-hss]at hx;exact(vq6.mp hx).1
 have ae:FrS (Ms hd en WA) H H2:=(f1.trans f2).mono (by trivial);refine⟨_,rfl,_,rfl,_,rfl,_,rfl,sz9 rfl,fun pc a4=>?_⟩;have S3:=S2.fr0 (FrS.new (S:=[]) (o:=.lst [.ref Ds,.ref Ds,.ref Dn]) a4);obtain⟨d,m,hh⟩:=S3.hand;refine⟨_,rfl,hd,d,m,t,r,3,rfl,hh,by lia,by decide,by decide,fun x d' m' t4 x0 x1 c e=>?_⟩;have S4:=S3.setHand (r':=r) c;have a3:pc≠hd:=fun z=>by have:=hh.1;rw[z]at *;rw[zb1]at this;cases this
 have al:Ds≠hd:=fun z=>by have a2:=hh.1;rw[zb5 (vj3 a3)]at a2;exact zh9 a1 ⟨a2,hh.2⟩ z
 have ay:Dn≠hd:=fun z=>by have a2:=hh.1;rw[zb5 (vj3 a3)]at a2;exact zh9 ab ⟨a2,hh.2⟩ z
 have aj:Ds≠pc:=zb4 a1 a4;have am:Dn≠pc:=zb4 ab a4;have a7:=(ae.trans (FrS.new (o:=.lst [.ref Ds,.ref Ds,.ref Dn]) a4)).put' (a:=hd) (o:=hl d' m' t4 r) (by trivial);have go:∀(pz:Addr)(zs:List Str),pz≠hd->pz≠pc->H2 pz=some (.lst (zs.map V.str))->zs≠[]->↑zs<=12->(∀x∈zs,x∈D.names)->
   spOf K [.ref hd,.ref pz] (upd (upd H2 pc (.lst [.ref Ds,.ref Ds,.ref Dn])) hd (hl d' m' t4 r)) (fun v Hv=>tSeq (tAsg (zm8 yv2 [] E0 (zc3 (tVar 0) (zc3 (tVar 1) (zc3 (tVar 2) tNil)))) (zf0 6)) (tSeq (sDPut (tVar 2) (tVar 6) (tVar 5)) (tRet (tTup (zc3 (tC (.str "make")) (zc3 (tVar 6) (zc3 (tVar 5) tNil)))))) ⟨fun _ H=>Q .non H,Q,fun _ _=>False,fun _ _=>False⟩ [some (.ref hd),some (.ref wd),some (.ref en),some (.ref Dn),some (.ref Ds),some v,none] Hv) E0:=by
  intro pz zs h1 h2 hz ao ap au;obtain⟨d,m,hh⟩:=S4.hand;refine⟨hd,pz,d,m,t4,r,_,rfl,hh,by lia,h1,SqL.of (by rw[zb5 h1,zb5 h2];exact hz),by simpa using ao,by rw[lqm];lia,fun y d5 m5 t5 hy c5 e5=>?_⟩;obtain⟨z,ax,rfl⟩:=vb9.mp hy;have S5:=S4.setHand (r':=r) c5;have a8:=a7.put' (a:=hd) (o:=hl d5 m5 t5 r) (by trivial);refine⟨_,rfl,_,rfl,_,rfl,hd,en,wd,WA,D,t5,r,rfl,S5,by lia,fun x6 H6 t6 av S6 f6 b2 _=>?_⟩;obtain⟨kv,aw,hk⟩:=S6.env;exists _,rfl,_,rfl,_,rfl,en,_,rfl,DPut.k (k:=(Sum.inr x6:Key)) aw (zb8 (by have:=hk.len;lia));have S7:=S6.setEnv (hk.put av (.inr ⟨z,au z ax,rfl⟩));have a9:=(a8.trans f6).put' (a:=en) (o:=.dK (putK kv (Sum.inr x6) (V.str z))) (by trivial);refine⟨_,rfl,_,rfl,sz9 rfl,fun pr ai=>?_⟩;exact q pr _ t6 ⟨"make",_,zb1,by rfl',by rfl',by rfl',fun _=>⟨_,_,rfl⟩⟩ (S7.fr0 (FrS.new ai)) (a9.trans (FrS.new ai)) (by lia)
 have as:x=0\/x=1\/x=2:=by lia
 rcases as with rfl | rfl | rfl
 .exact⟨pc,_,_,.ref Ds,rfl,rfl,SqL.of (by rw[zb5 a3];exact zb1),rfl,go Ds ss al aj a1 a0 a6 ag⟩
 .exact⟨pc,_,_,.ref Ds,rfl,rfl,SqL.of (by rw[zb5 a3];exact zb1),rfl,go Ds ss al aj a1 a0 a6 ag⟩
 .exact⟨pc,_,_,.ref Dn,rfl,rfl,SqL.of (by rw[zb5 a3];exact zb1),rfl,go Dn D.names ay am ab ac (by unfold WD.names;rw[lqm];lia) (fun x hx=>hx)⟩
end
abbrev ww9:Stmt:=top 29
abbrev xk5:Stmt:=top 31
inductive wk7(vs:List V)(H:Hp)(Q:VK):Prop
 | mk(hd en wd:Addr)(A:WA)(D:WD)(t r:Int)(ab dd:Str)(h1:vs=[.ref hd,.ref wd,.ref en,.str ab,.str dd])(h2:Sit H hd en wd A D t r)(h3:t+12<1000000)(h4:ab∈D.names)(h5:dd∈D.deeds)(h6:∀(x:Addr)(ss:List Str)(H':Hp)(t':Int),H' x=some (.tup (ss.map V.str))->↑ss<=1000->Sit H' hd en wd A D t' r->FrS (Ms hd en A) H H'->t'<=t+12->Q (.ref x) H'):wk7  vs H Q
def xk2:Sp:=fun vs H Q _=>wk7  vs H Q
inductive xt9(vs:List V)(H:Hp)(Q:VK):Prop
 | mk(hd en wd:Addr)(A:WA)(D:WD)(t r:Int)(h1:vs=[.ref hd,.ref wd,.ref en])(h2:Sit H hd en wd A D t r)(h3:t+7<1000000)(h4:∀(x:Addr)(H':Hp)(t':Int),PlainR H' x->Sit H' hd en wd A D t' r->FrS (Ms hd en A) H H'->t'<=t+7->Q (.ref x) H'):xt9  vs H Q
def yx1:Sp:=fun vs H Q _=>xt9  vs H Q
def Sit.own{A:WA}(S:Sit H hd en wd A D t r)(S6:Sit H6 hd en wd A D t6 r6)(f:FrS (Ms hd en A) H H6)(a1:H pa=none):Sit (upd H6 pa o) hd en wd A D t6 r6/\FrS (Ms hd en A) H (upd H6 pa o):=by
 have a0:pa∉Ms hd en A:=S.notin a1;have u:∀b∈Ms hd en A,upd H6 pa o b=H6 b:=fun b hb=>zb5 (fun z=>a0 (by rw[<-z];exact hb))
 have fr:FrS (Ms hd en A) H (upd H6 pa o):=f.put a1;obtain⟨⟨d,m,h1,a3⟩,⟨k1,e1,a2⟩,⟨k2,e2,a5⟩,⟨k3,e3,a4⟩,w,nd,ok⟩:=S6;exact⟨⟨⟨d,m,(u _ (by trivial)).trans h1,a3⟩,⟨k1,(u _ (by trivial)).trans e1,a2⟩,⟨k2,(u _ (by trivial)).trans e2,a5⟩,⟨k3,(u _ (by trivial)).trans e3,a4⟩,S.w.keep fr,nd,ok⟩,fr⟩
section
abbrev nArgs:List Str:=[qH,qW,"_law_env","_law_above","_law_deed_here","_law_args_here","_law_kind","_law_some"]
def yz3:zd0 nArgs qD (zc1 ww9):=fsc
def wv6(F:Fun K "_law_args" "_law_args" ww9 f fd)(T:Cal P w K mg base k "_law_take" qB zh6)(O:Cal P w K mg base k "_law_of" qC (spOf K))(V':Cal P w K mg base k "_law_variable" qA ys0)(L:Cal P w K mg base k "_law_line" qG yp9)(ax:mg "tuple"=none):
  FnOk P w K mg base CX0 (k+1) f fd qD xk2:=by
 refine F.ok yz3 (fun vs H Q E h=>?_) (fun b6 A outer s H vs Q E hr h=>?_)
 .obtain⟨hd,en,wd,A,D,t,r,ab,dd,rfl,_⟩:=h;rfl
 obtain⟨hd,en,wd,WA,D,t,r,ab,dd,rfl,S,ht,aw,az,q⟩:=h;have hu:=zn5 hr;have av:(["_law_x","_law_env","_law_kind",qW]:List Str).Nodup:=by rfl'
 exists _,zb3 (sL 5 yz3.nd (zd7 zb2))
  (zb3 (zf9 vd5 rfl (zf6 (zc6 hu (zc6 hu (pv 1) zd3 (fun _ _=>rfl)) (zf1 (zb0 (zc6 hu (zc6 hu (pv 1) zd3 (fun _ _=>rfl)) (pv 3) (fun _ _=>rfl)) (zb0 (pv 4) zb2))) (fun _ _=>rfl))) (zq0 (i:=6) yz3.nd rfl (Or.inr rfl))
   (zb3 (xq8 (zj0 (i:=7) (N':=["_law_x","_law_env","_law_kind",qW]) (src:=[none,some 2,some 6,some 1]) rfl yz3.nd rfl rfl bkn
    (yj4 (pv 2)) (g:=zf0 0) (fun _ _ _ _=>gL 0 av)
    (fun _ _ _ _=>zr6 (PW.pt (zk5 (zq9 (zw3 (zc6 hu (pv 1) (pv 0) (fun _ _=>rfl)))) (zk2 (zc2 (show OpR _ _ (rIn K false) from zg4) (pv 2) (zb9 L hr rfl (zb0 (pv 3) (zb0 (zc6 hu (pv 1) (pv 0) (fun _ _=>rfl)) zb2))) rfl))))) (fun _ _ _ _=>pv 0)))
   (zb7 (zg8 (PW.pt (zk5 (zc2 (yn5 (vs4 hu)) (pv 7) (zd7 zb2) (zd6 _)) (zk2 (zc2 yk4 (zb9 T hr rfl (zb0 (pv 0) (zb0 zb6 zb2))) zb6 (zd6 _)))))
    (zb7 (zf5 (zk8 vd2 vd9 vf0 zd8 (pv 5) (zb0 (zb9 O hr rfl (zb0 (pv 0) (zb0 (pv 7) zb2))) zb2))))
    (zb7 (zf5 (zk8 vd2 vd9 vf0 zd8 (pv 5) (zb0 (zb9 V' hr rfl (zb0 (pv 0) (zb0 (pv 1) (zb0 (pv 2) zb2)))) zb2))))))))
  (zb7 (zd1 (zc7 zc8 rfl ax (by rfl') (zb0 (pv 5) zb2)))))
 ac_rfl
 have hU:D.U.length=9:=by unfold WD.U;rw[vc6,wz4,S.ok.v4,S.ok.p4]
 refine⟨vc9 _,fun pa a2=>?_⟩;have S1:=S.fr0 (FrS.new (S:=[]) (o:=.lst []) a2);obtain⟨rt,wp,ws,e1,e2,e3,e4,e5⟩:=S.w.wl ab aw dd az;refine⟨_,rfl,wd,_,rfl,S1.w.g.2.2.2.1,_,rfl,wd,_,rfl,S1.w.g.2.2.2.2.2.2.2.2.2.2,_,rfl,WA.roots,_,rfl,.inl ⟨_,Sum.inr ab,.inl S1.w.roots.2,rfl,e1.symm⟩,_,rfl,sz9 rfl,fun pk aa=>?_⟩;have S2:=S1.fr0 (FrS.new (S:=[]) (o:=.tup [V.str rt,V.str dd]) aa);have aj:=e3.keep ((FrS.new (o:=.lst []) a2).trans (FrS.new (o:=.tup [V.str rt,V.str dd]) aa));have a6:upd (upd H pa (.lst [])) pk (.tup [V.str rt,V.str dd]) pa=some (.lst []):=by rw[zb5 (zb4 (o:=.lst []) zb1 aa)];exact zb1
 exists WA.wants,.ref wp,rfl,.inr ⟨_,[Sum.inr rt,Sum.inr dd],pk,.inl S2.w.wants.2,rfl,zb1,e2.symm⟩,wp,rfl,⟨_,SqL.of aj.2⟩;have am:FrS (Ms hd en WA) H (upd (upd H pa (.lst [])) pk (.tup [V.str rt,V.str dd])):=(FrS.new a2).trans (FrS.new aa);generalize upd (upd H pa (.lst [])) pk (.tup [V.str rt,V.str dd])=H2 at S2 aj a6 am;have a8:pa∉Ms hd en WA:=S.notin a2;refine zm5 (xs:=ws.map V.str) (fun i σ Hx=>∃(kx sx:Option V)(tx:Int)(xs:List Str),σ=[some (.ref hd),some (.ref wd),some (.ref en),some (.str ab),some (.str dd),some (.ref pa),kx,sx]/\Sit Hx hd en wd WA D tx r/\FrS (Ms hd en WA) H Hx/\tx<=t+3*i/\Hx pa=some (.lst (xs.map V.str))/\↑xs<=i) ⟨_,_,t,[],rfl,S2,am,by lia,a6,by simp⟩ ?_ ?_ ?_
 .rintro i σ Hx hi ⟨_,_,_,_,_,_,fr,_⟩;exact SqL.of (e3.keep fr).2
 .rintro i x σ Hx hx ⟨kx,sx,tx,xs,rfl,Sx,fr,as,ad,ai⟩;obtain⟨hi,_⟩:=wz2.mp hx;rw[lqm]at hi;rw[wz5,zz2 hi]at hx;cases hx;obtain⟨kv,af,hk⟩:=Sx.env;have b4:=hk.len;obtain⟨us,eu,b7,_⟩:=hk.strs;exists en,kv,af;refine⟨_,rfl,en,kv,rfl,af,fun o Dl a3=>?_⟩;have al:Dl≠en:=fun z=>by rw[z,zb1]at a3;cases a3
  have b9:Hx Dl=none:=by rw[zb5 al]at a3;exact a3
  refine yn2 (xs:=kv.map fun p=>kV p.1) (fun i' σ Hy=>(∃x,σ=[x,some (.ref en),some (.str ws[i]),some (.ref wd)])/\FrS [] (upd Hx en (.frz o (.dK kv))) Hy/\∃ss:List Str,↑ss<=i'/\Hy Dl=some (.lst (ss.map V.str))) ⟨⟨_,rfl⟩,(FrS.refl).put a3,[],by simp,zb1⟩ ?_ ?_ ?_
  .rintro i' σ Hy hi ⟨_,fr,_⟩;exact fr _ _ (by trivial) zb1
  .rintro i' x σ Hy hx ⟨⟨x0,rfl⟩,a1,ss,hs,a4⟩;have ap:=hx;rw[eu]at hx;obtain⟨hi,_⟩:=wz2.mp hx;rw[lqm]at hi;rw[wz5,zz2 hi]at hx;cases hx;have b3:(Sum.inr us[i']:Key)∈kv.map (·.1):=by
    rw[wz5]at ap;obtain⟨p,hp,e⟩:=wz8.mp ap;have:p.1=Sum.inr us[i']:=by
     obtain⟨y,_,ey⟩:=hk.ks p.1 (vb9.mpr ⟨p,vb0 hp,rfl⟩);rw[ey]at e ⊢;cases e;rfl
    exact vb9.mpr ⟨p,vb0 hp,this⟩
   obtain⟨v,hv⟩:∃v,valV kv (Sum.inr us[i'])=some v:=by
    cases z:valV kv (Sum.inr us[i'])with
    | some v=>exact⟨v,rfl⟩
    | none=>exact absurd b3 (zz5 z)
   have ar:∀Hz,FrS [] (upd Hx en (.frz o (.dK kv))) Hz->DGet Hz en (.str us[i']) (some v):=fun Hz fz=>.inl ⟨kv,Sum.inr us[i'],.inr ⟨o,fz _ _ (by trivial) zb1⟩,rfl,hv.symm⟩
   exists _,rfl,_,rfl,en,v,rfl,ar _ a1,_,rfl;rcases hk.vs _ _ hv with rfl | ⟨n,hn,rfl⟩
   .show if (!decide (V.non=V.non))=true then _ else _
    rw[vd0 (by trivial)];exact⟨⟨_,rfl⟩,a1,ss,by lia,a4⟩
   .show if (!decide (V.str n=V.non))=true then _ else _
    rw[vd3 (by trivial)];obtain⟨l,hl,b1,_⟩:=wt3 S.ok hn;have au:FrS (Ms hd en WA) Hx Hy:=fun b u n e=>a1 b u (by trivial) (by rw[zb5 (fun z=>n (by rw[z];simp))];exact e)
    refine⟨_,rfl,_,rfl,_,rfl,_,rfl,en,V.str n,rfl,ar _ a1,wd,_,WA,D,n,l,rfl,Sx.w.keep au,S.ok,hl,fun la Hz fz b2 b0=>?_⟩;have ay:Dl≠la:=zb4 a4 b2;have ah:=fz _ _ (by trivial) a4;exists la,_,rfl,.inl (SqL.of b0),rfl,zg0 _,_,rfl;refine ite2 (fun c=>?_) (fun c=>?_)
    .exists _,rfl,_,ah,by rw[lqm];exact zb8 (by lia),⟨_,rfl⟩,(a1.trans fz).put a3,ss++[us[i']],?_
     .rw[wz4,vc1];lia
     .rw[zb1,wz9];rfl
    .exact⟨⟨_,rfl⟩,a1.trans fz,ss,by lia,ah⟩
  .rintro σ Hy ⟨_,a1,ss,hs,a4⟩;rw[lqm]at hs;exists o,a1 _ _ (by trivial) zb1;have f1:FrS [] Hx (upd Hy en (.dK kv)):=FrS.thaw af a1;have S1:=Sx.fr0 f1;have ae:upd Hy en (.dK kv) Dl=some (.lst (ss.map V.str)):=by rw[zb5 al];exact a4
   generalize upd Hy en (.dK kv)=H3 at f1 S1 ae;have a7:=f1 _ _ (by trivial) ad;refine⟨_,rfl,vc9 _,fun pe a9=>?_⟩;have S4:=S1.fr0 (FrS.new (S:=[]) (o:=.lst []) a9);have ao:Dl≠pe:=zb4 ae a9;have a5:upd H3 pe (.lst []) pa=some (.lst (xs.map V.str)):=by rw[zb5 (zb4 a7 a9)];exact a7
   have f4:FrS (Ms hd en WA) H (upd H3 pe (.lst [])):=fr.trans ((f1.trans (FrS.new a9)).mono (by trivial));have ac:upd H3 pe (.lst []) Dl=some (.lst (ss.map V.str)):=by rw[zb5 ao];exact ae
   exists Dl,pe,_,rfl,rfl,ao,SqL.of ac,SqL.of zb1,_,rfl;have ak:∀(H5:Hp)(t5:Int),Sit H5 hd en wd WA D t5 r->FrS (Ms hd en WA) H H5->t5<=tx+1->H5 pa=some (.lst (xs.map V.str))->xk7 (tBM K "list" zw0 (tVar 5) (zc3 (zm8 ys0 [] E0 (zc3 (tVar 0) (zc3 (tVar 1) (zc3 (tVar 2) tNil)))) tNil))
     ⟨fun σ Hx=>∃(kx sx:Option V)(tx:Int)(xs:List Str),σ=[some (.ref hd),some (.ref wd),some (.ref en),some (.str ab),some (.str dd),some (.ref pa),kx,sx]/\Sit Hx hd en wd WA D tx r/\FrS (Ms hd en WA) H Hx/\tx<=t+3*((i+1:Nat):Int)/\Hx pa=some (.lst (xs.map V.str))/\↑xs<=i+1,fun _ _=>False,fun _ _=>False,fun _ _=>False⟩ [some (.ref hd),some (.ref wd),some (.ref en),some (.str ab),some (.str dd),some (.ref pa),some (.str ws[i]),some (.ref Dl)] H5:=by
    intro H5 t5 S5 f5 b5 a0;refine⟨_,rfl,.inl ⟨rfl,_,SqL.of a0⟩,_,rfl,_,rfl,_,rfl,hd,en,wd,WA,D,t5,r,rfl,S5,by lia,fun x H6 t6 S6 f6 b8 _=>?_⟩;have ag:=f6 _ _ a8 a0;have S7:=Sit.own (o:=.lst (xs.map V.str++[V.str x])) S S6 (f5.trans f6) a2;exact⟨pa,_,_,rfl,rfl,ag,zb8 (by rw[lqm];lia),_,_,t6,xs++[x],rfl,S7.1,S7.2,by lia,by rw[zb1,wz9];rfl,by rw[wz4,vc1];lia⟩
   cases ss with
   | nil=>exact ak _ tx S4 f4 (by lia) a5
   | cons y ys=>
    obtain⟨d,m,hh⟩:=S4.hand;refine⟨_,rfl,hd,d,m,tx,r,4,rfl,hh,by lia,by decide,by decide,fun x d' m' t5 x0 x1 c e=>⟨_,_,rfl,rfl,_,rfl,?_⟩⟩;have S5:=S4.setHand (r':=r) c;have f5:=f4.put' (a:=hd) (o:=hl d' m' t5 r) (by trivial);have an:Dl≠hd:=zh9 (ss:=y::ys) ac hh;have aq:pa≠hd:=fun z=>a8 (by rw[z];simp)
    have a0:upd (upd H3 pe (.lst [])) hd (hl d' m' t5 r) pa=some (.lst (xs.map V.str)):=by rw[zb5 aq];exact a5
    refine ite2 (fun c=>?_) (fun c=>?_)
    .obtain⟨d,m,hh⟩:=S5.hand;refine⟨_,rfl,.inl ⟨rfl,_,SqL.of a0⟩,_,rfl,_,rfl,hd,Dl,d,m,t5,r,_,rfl,hh,by lia,an,SqL.of (by rw[zb5 an];exact ac),by simp,by rw[lqm];lia,fun x d' m' t' hx c e=>?_⟩;obtain⟨x,_,rfl⟩:=vb9.mp hx;have S7:=Sit.own (o:=.lst (xs.map V.str++[V.str x])) S (S5.setHand (r':=r) c) (f5.put' (a:=hd) (o:=hl d' m' t' r) (by trivial)) a2;exact⟨pa,_,_,rfl,rfl,by rw[zb5 aq];exact a0,zb8 (by rw[lqm];lia),_,_,t',xs++[x],rfl,S7.1,S7.2,by lia,by rw[zb1,wz9];rfl,by rw[wz4,vc1];lia⟩
    .exact ak _ t5 S5 f5 e a0
 .rintro σ Hx ⟨kx,sx,tx,xs,rfl,Sx,fr,as,ad,ai⟩;rw[lqm]at as ai;refine⟨_,rfl,pa,_,rfl,.inl ⟨SqL.of ad,fun l hl=>?_⟩⟩;exact q l xs _ tx zb1 (by lia) (Sx.fr0 (FrS.new hl)) (fr.trans (FrS.new hl)) (by lia)
abbrev nField:List Str:=[qH,qW,"_law_env","_law_x","_law_y","_law_field_here","_law_z"]
def yk8:zd0 nField qA (zc1 xk5):=fsc
def wf3(F:Fun K "_law_field" "_law_field" xk5 f fd)(T:Cal P w K mg base k "_law_take" qB zh6)(O:Cal P w K mg base k "_law_of" qC (spOf K))(V':Cal P w K mg base k "_law_variable" qA ys0)(G:Cal P w K mg base k "_law_target" qA yv2):
  FnOk P w K mg base CX0 (k+1) f fd qA yx1:=by
 refine F.ok yk8 (fun vs H Q E h=>?_) (fun ad A outer s H vs Q E hr h=>?_)
 .obtain⟨hd,en,wd,A,D,t,r,rfl,_⟩:=h;rfl
 obtain⟨hd,en,wd,WA,D,t,r,rfl,S,ht,q⟩:=h;have hu:=zn5 hr;exists _,zb3 (wj6 (i:=3) (j:=4) rfl yk8.nd rfl rfl (by decide) rfl rfl (zb0 (zb9 V' hr rfl (zb0 (pv 0) (zb0 (pv 1) (zb0 (pv 2) zb2)))) (zb0 (zb9 V' hr rfl (zb0 (pv 0) (zb0 (pv 1) (zb0 (pv 2) zb2)))) zb2)) rfl)
  (zb3 (sL 5 yk8.nd (zb9 O hr rfl (zb0 (pv 0) (zb0 (zc6 hu (pv 1) zd3 (fun _ _=>rfl)) zb2))))
  (zb3 (zg8 (zc2 zn2 (zb9 T hr rfl (zb0 (pv 0) (zb0 zb6 zb2))) zb6 (zd6 _))
   (zb3 (zn7 hu (zc6 hu (pv 1) zd3 (fun _ _=>rfl)) (pv 5) (zt7 hu (pv 2) (pv 4) ⟨rfl,rfl,rfl,rfl⟩) rfl)
    (zb7 (zd1 (zf1 (zb0 zd3 (zb0 (pv 3) (zb0 (pv 5) (zb0 (pv 4) zb2)))))))) zd4)
  (zb3 (sL 6 yk8.nd (zb9 G hr rfl (zb0 (pv 0) (zb0 (pv 1) (zb0 (pv 2) zb2)))))
  (zb3 (zn7 hu (pv 2) (pv 6) (zt7 hu (zc6 hu (pv 1) zd3 (fun _ _=>rfl)) (pv 5) ⟨rfl,rfl,rfl,rfl⟩) rfl)
  (zb7 (zd1 (zf1 (zb0 zd3 (zb0 (pv 6) (zb0 (pv 4) (zb0 (pv 5) zb2)))))))))))
 ac_rfl
 have hU:D.U.length=9:=by unfold WD.U;rw[vc6,wz4,S.ok.v4,S.ok.p4]
 have ae:=S.ok.f3;refine⟨_,rfl,_,rfl,_,rfl,hd,en,wd,WA,D,t,r,rfl,S,by lia,fun x1 H1 t1 S1 f1 aa _=>?_⟩;refine⟨_,rfl,_,rfl,_,rfl,hd,en,wd,WA,D,t1,r,rfl,S1,by lia,fun x2 H2 t2 S2 f2 ac _=>⟨_,_,rfl,?_⟩⟩;obtain⟨d,m,hh⟩:=S2.hand;refine⟨_,rfl,_,rfl,wd,_,rfl,S2.w.g.2.2.2.2.2.2.2.1,hd,WA.fields,d,m,t2,r,_,rfl,hh,by lia,zh9 S2.w.fields.2 hh,SqL.of S2.w.fields.2,?_,by rw[lqm];lia,fun x d3 m3 t3 hx c3 e3=>?_⟩
 .intro z;have:=vg1 List.length z;rw[lqm,vk8]at this;lia
 obtain⟨fx,a9,rfl⟩:=vb9.mp hx;have S3:=S2.setHand (r':=r) c3;have a5:=(f1.trans f2).put' (a:=hd) (o:=hl d3 m3 t3 r) (by trivial);obtain⟨d,m,hh⟩:=S3.hand;refine⟨_,rfl,hd,d,m,t3,r,2,rfl,hh,by lia,by decide,by decide,fun x d4 m4 t4 x0 x1 c4 e4=>⟨rfl,_,rfl,?_⟩⟩;have S4:=S3.setHand (r':=r) c4;have a4:=a5.put' (a:=hd) (o:=hl d4 m4 t4 r) (by trivial);obtain⟨kv,a2,hk⟩:=S4.env;obtain⟨kh,a3,a1⟩:=S4.held;refine ite2 (fun c=>?_) (fun c=>?_)
 .exists _,rfl,en,rfl,.inl ⟨_,.inl a2⟩,_,rfl,_,DGet.k (k:=(Sum.inr x2:Key)) a2,_,rfl,wd,_,rfl,S4.w.g.2.2.2.2.2.2.2.2.2.1,_,rfl,WA.held,_,rfl,DPut.k (k:=(Sum.inr fx:Key)) a3 (zb8 (by have:=a1.len;lia));have S5:=S4.setHeld (a1.put a9 (hk.get (Sum.inr x2)));have a7:=a4.put' (a:=WA.held) (o:=.dK (putK kh (Sum.inr fx) ((valV kv (Sum.inr x2)).getD .non))) (by trivial);refine⟨_,rfl,_,rfl,_,rfl,sz9 rfl,fun pr a0=>?_⟩;exact q pr _ t4 ⟨"put",_,zb1,by rfl',by rfl',by rfl',fun e=>absurd e (by rfl')⟩ (S5.fr0 (FrS.new a0)) (a7.trans (FrS.new a0)) (by lia)
 .refine⟨_,rfl,_,rfl,_,rfl,hd,en,wd,WA,D,t4,r,rfl,S4,by lia,fun x5 H5 t5 a6 S5 f5 ab _=>?_⟩;obtain⟨kv,a2,hk⟩:=S5.env;obtain⟨kh,a3,a1⟩:=S5.held;exists _,rfl,wd,_,rfl,S5.w.g.2.2.2.2.2.2.2.2.2.1,WA.held,rfl,.inl ⟨_,.inl a3⟩,_,rfl,_,DGet.k (k:=(Sum.inr fx:Key)) a3,_,rfl,_,rfl,en,_,rfl,DPut.k (k:=(Sum.inr x5:Key)) a2 (zb8 (by have:=hk.len;lia));have S6:=S5.setEnv (hk.put a6 (a1.get (Sum.inr fx)));have a8:=(a4.trans f5).put' (a:=en) (o:=.dK (putK kv (Sum.inr x5) ((valV kh (Sum.inr fx)).getD .non))) (by trivial);refine⟨_,rfl,_,rfl,_,rfl,sz9 rfl,fun pr a0=>?_⟩;exact q pr _ t5 ⟨"take",_,zb1,by rfl',by rfl',by rfl',fun e=>absurd e (by rfl')⟩ (S6.fr0 (FrS.new a0)) (a8.trans (FrS.new a0)) (by lia)
end
abbrev ww1:Stmt:=top 30
inductive wm4(vs:List V)(H:Hp)(Q:VK):Prop
 | mk(hd en wd:Addr)(A:WA)(D:WD)(t r lv:Int)(h1:vs=[.ref hd,.ref wd,.ref en,.int lv])(h2:Sit H hd en wd A D t r)(h3:t+18<1000000)(h4:∀(x:Addr)(H':Hp)(t':Int),Row1 (HsD D) H' x->Sit H' hd en wd A D t' r->FrS (Ms hd en A) H H'->t'<=t+18->Q (.ref x) H'):wm4  vs H Q
def ys1:Sp:=fun vs H Q _=>wm4  vs H Q
def Ws(D:WD)(H:Hp)(as:List Addr):Prop:=∀a∈as,∃o d,H a=some (.tup [.str o,.str d])/\o∈D.names/\d∈D.deeds/\HsD D o d
def Ws.mono(h:Ws D H as)(f:∀b xs,H b=some (.tup xs)->H' b=some (.tup xs)):Ws D H' as:=fun a ha=>by
 obtain⟨o,d,e,r⟩:=h a ha;exact⟨o,d,f _ _ e,r⟩
def Ws.app(h:Ws D H as)(h':Ws D H bs):Ws D H (as++bs):=fun a ha=>(vc4.mp ha).elim (h a) (h' a)
def yn0(hp:H p=some (.lst ys)):∀b xs,H b=some (.tup xs)->upd H p o b=some (.tup xs):=fun b xs h=>by
 rw[zb5 (fun z=>by rw[z,hp]at h;cases h)];exact h
def xx7(ds:List Str)(lo hi:Option Int):∃ds':List Str,cutV (ds.map V.str) lo hi=ds'.map V.str/\↑ds'<=↑ds/\∀x∈ds',x∈ds:=by
 unfold cutV;rw[<-uc4,<-ub2];refine⟨_,rfl,?_,fun x hx=>vw8 (vk4 hx)⟩;rw[vc2,vh2];lia
section
abbrev nCall:List Str:=[qH,qW,"_law_env","_law_level","_law_y","_law_kind","_law_some","_law_ways","_law_deed_here","_law_above","_law_args_here","_law_x"]
def zp0:zd0 nCall qF (zc1 ww1):=fsc
def wn8(F:Fun K "_law_call" "_law_call" ww1 f fd)(T:Cal P w K mg base k "_law_take" qB zh6)(O:Cal P w K mg base k "_law_of" qC (spOf K))(V':Cal P w K mg base k "_law_variable" qA ys0)(L:Cal P w K mg base k "_law_line" qG yp9)(G:Cal P w K mg base k "_law_target" qA yv2)(HS:Cal P w K mg base k "_law_has" qE wt7)(MK:Cal P w K mg base k "_law_make" qA xd3)(AR:Cal P w K mg base k "_law_args" qD xk2):
  FnOk P w K mg base CX0 (k+1) f fd qF ys1:=by
 refine F.ok zp0 (fun vs H Q E h=>?_) (fun bv A outer s H vs Q E hr h=>?_)
 .obtain⟨hd,en,wd,A,D,t,r,lv,rfl,_⟩:=h;rfl
 obtain⟨hd,en,wd,WA,D,t,r,lv,rfl,S,ht,q⟩:=h;have hu:=zn5 hr;have ao:(["_law_name","_law_elder"]:List Str).Nodup:=by rfl'
 have be:(["_law_one","_law_deed_here",qW]:List Str).Nodup:=by rfl'
 exists _,zb3 (sL 4 zp0.nd (zb9 V' hr rfl (zb0 (pv 0) (zb0 (pv 1) (zb0 (pv 2) zb2)))))
  (zb3 (sL 5 zp0.nd (zt7 hu (pv 2) (pv 4) ⟨rfl,rfl,rfl,rfl⟩))
  (zb3 (zg8 (zq9 (xb7 (pv 5))) (zb7 (sL 5 zp0.nd (zb9 O hr rfl (zb0 (pv 0) (zb0 (zh0 (N':=["_law_name","_law_elder"]) (src:=[none,none]) rfl bkn
   (zf6 (zc6 hu (pv 1) zd3 (fun _ _=>rfl))) (g:=gTup K 2 (zk0 (zf0 0) (zk0 (zf0 1) gNil))) (fun _ _ _ _=>zh4 (n:=2) rfl (zc0 (gL 0 ao) (zc0 (gL 1 ao) zf8)))
   (fun _ _ _ _=>zg2) (fun _ _ _ _=>pv 0)) zb2))))) zd4)
  (zb3 (sL 6 zp0.nd (zj9 zv4 (zc6 hu (pv 1) zd3 (fun _ _=>rfl)) (zm7 (zf2 zm3 (pv 3) zb6)) zm9))
  (zb3 (zg8 (zc2 zn2 (zb9 T hr rfl (zb0 (pv 0) (zb0 zb6 zb2))) zb6 (zd6 _)) (zb7 (sL 6 zp0.nd (zc6 hu (pv 1) zd3 (fun _ _=>rfl)))) zd4)
  (zb3 (sL 7 zp0.nd (zd7 zb2))
  (zb3 (zf9 vd5 rfl (zf6 (pv 6)) (zq0 (i:=8) zp0.nd rfl (Or.inr rfl))
   (zb7 (zf5 (zk8 vd2 vz2 vz3 yb9 (pv 7) (zb0 (zh0 (N':=["_law_one","_law_deed_here",qW]) (src:=[none,some 8,some 1]) rfl bkn
    (zf6 (zb9 L hr rfl (zb0 (pv 1) (zb0 (pv 5) zb2)))) (g:=zf0 0) (fun _ _ _ _=>gL 0 be)
    (fun _ _ _ _=>zr6 (zx4 (zb9 HS hr rfl (zb0 (pv 2) (zb0 (pv 0) (zb0 (pv 1) zb2)))))) (fun _ _ _ _=>zf1 (zb0 (pv 0) (zb0 (pv 1) zb2)))) zb2)))))
  (zb3 (zg8 (zc2 (yz7 (vs4 hu)) (pv 7) (zd7 zb2) (zd6 _)) (zb7 (zd1 (zb9 MK hr rfl (zb0 (pv 0) (zb0 (pv 1) (zb0 (pv 2) zb2)))))) zd4)
  (zb3 (zx0 (zb9 O hr rfl (zb0 (pv 0) (zb0 (pv 7) zb2))) (zh4 (n:=2) rfl (zc0 (gL 9 zp0.nd) (zc0 (zq0 (i:=8) zp0.nd rfl (Or.inr rfl)) zf8))))
  (zb3 (sL 10 zp0.nd (zb9 AR hr rfl (zb0 (pv 0) (zb0 (pv 1) (zb0 (pv 2) (zb0 (pv 9) (zb0 (pv 8) zb2)))))))
  (zb3 (sL 11 zp0.nd (zb9 G hr rfl (zb0 (pv 0) (zb0 (pv 1) (zb0 (pv 2) zb2)))))
  (zb3 (zn7 hu (pv 2) (pv 11) (zt7 hu (zc6 hu (pv 1) zd3 (fun _ _=>rfl)) (pv 8) ⟨rfl,rfl,rfl,rfl⟩) rfl)
  (zb7 (zd1 (zf1 (zb0 zd3 (zb0 (pv 11) (zb0 (pv 4) (zb0 (pv 9) (zb0 (pv 8) (zb0 (pv 10) zb2))))))))))))))))))))
 ac_rfl
 have hU:D.U.length=9:=by unfold WD.U;rw[vc6,wz4,S.ok.v4,S.ok.p4]
 have bt:=S.ok.l12;have h6:=S.ok.d6;refine⟨_,rfl,_,rfl,_,rfl,hd,en,wd,WA,D,t,r,rfl,S,by lia,fun y1 H1 t1 S1 f1 br _=>?_⟩;obtain⟨kv,a7,hk⟩:=S1.env;exists _,rfl,en,rfl,.inl ⟨_,.inl a7⟩,_,rfl,_,DGet.k (k:=(Sum.inr y1:Key)) a7;have ak:=hk.get (Sum.inr y1);generalize (valV kv (Sum.inr y1)).getD .non=vk at ak;have b3:∀(nx:St->Hp->Prop),(∀(n:Str)(H2:Hp)(t2:Int),n∈D.names->Sit H2 hd en wd WA D t2 r->FrS (Ms hd en WA) H H2->t2<=t+3->nx [some (.ref hd),some (.ref wd),some (.ref en),some (.int lv),some (.str y1),some (.str n),none,none,none,none,none,none] H2)->
   tIfS (tB (tIsN (tVar 5))) (tAsg (zm8 (spOf K) [] E0 (zc3 (tVar 0) (zc3 (xg7 (ws1 K (yx2 (tVar 1) (tC (.str "tree")))) [none,none] (gTup K 2 (zk0 (zf0 0) (zk0 (zf0 1) gNil))) tAll (tVar 0)) tNil))) (zf0 5)) yx8 ⟨nx,Q,fun _ _=>False,fun _ _=>False⟩ [some (.ref hd),some (.ref wd),some (.ref en),some (.int lv),some (.str y1),some vk,none,none,none,none,none,none] H1:=by
  intro nx a4;exists _,rfl,_,rfl;rcases ak with rfl | ⟨n,hn,rfl⟩
  .show if (decide (V.non=V.non))=true then _ else _
   rw[vd3 (by trivial)];obtain⟨ts,al,b7,bg⟩:=S1.w.tree;refine⟨_,rfl,_,rfl,wd,_,rfl,S1.w.g.1,WA.tree,rfl,⟨_,SqL.of al.2⟩,fun Dn bk=>?_⟩;refine zw5 (tr:=D.tr) al.2 b7 (fun j t x a b=>(bg j t x a b).2) bk (by lia) fun H2 f2 b0=>?_
   have S2:=S1.fr0 f2;obtain⟨d,m,hh⟩:=S2.hand;refine⟨hd,Dn,d,m,t1,r,_,rfl,hh,by lia,zh9 b0 hh,SqL.of b0,?_,by rw[lqm,lqm];lia,fun x d3 m3 t3 hx c3 e3=>?_⟩
   .intro z;have:=vg1 List.length z;rw[lqm,lqm,vk8]at this;exact S.ok.l1 (vq0.mp this)
   .obtain⟨n,hn,rfl⟩:=vb9.mp hx;exact a4 n _ t3 hn (S2.setHand c3) ((f1.trans (f2.mono (by trivial))).put' (by trivial)) (by lia)
  .show if (decide (V.str n=V.non))=true then _ else _
   rw[vd0 (by trivial)];exact a4 n H1 t1 hn S1 f1 (by lia)
 refine b3 _ fun n H2 t2 hn S2 f2 c1=>?_;refine⟨_,rfl,wd,_,rfl,S2.w.g.2.2.1,_,rfl,lv,1,rfl,rfl,_,rfl,WA.deeds,_,rfl,SqL.of S2.w.deeds.2,fun ps ab=>?_⟩;obtain⟨ds,ed,c0,bl⟩:=xx7 D.deeds (some (lv+1)) none;rw[ed];have S3:=S2.fr0 (FrS.new (S:=[]) (o:=.lst (ds.map V.str)) ab);have f3:FrS (Ms hd en WA) H (upd H2 ps (.lst (ds.map V.str))):=f2.trans (FrS.new ab);have a2:Stt (Ms hd en WA) (upd H2 ps (.lst (ds.map V.str))) ps (.lst (ds.map V.str)):=⟨S2.notin ab,zb1⟩;generalize upd H2 ps (.lst (ds.map V.str))=H3 at S3 f3 a2;have bo:∀(nx:St->Hp->Prop),(∀(pz:Addr)(zs:List Str)(H4:Hp)(t4:Int),Stt (Ms hd en WA) H4 pz (.lst (zs.map V.str))->↑zs<=6->(∀x∈zs,x∈D.deeds)->Sit H4 hd en wd WA D t4 r->FrS (Ms hd en WA) H H4->t4<=t+4->nx [some (.ref hd),some (.ref wd),some (.ref en),some (.int lv),some (.str y1),some (.str n),some (.ref pz),none,none,none,none,none] H4)->
   tIfS (zp4 (tOp rEq (zm8 zh6 [] E0 (zc3 (tVar 0) (zc3 (tC (.int 8)) tNil))) (tC (.int 0)))) (tAsg (yx2 (tVar 1) (tC (.str "deeds"))) (zf0 6)) yx8 ⟨nx,Q,fun _ _=>False,fun _ _=>False⟩ [some (.ref hd),some (.ref wd),some (.ref en),some (.int lv),some (.str y1),some (.str n),some (.ref ps),none,none,none,none,none] H3:=by
  intro nx a4;obtain⟨d,m,hh⟩:=S3.hand;refine⟨_,rfl,hd,d,m,t2,r,8,rfl,hh,by lia,by decide,by decide,fun x d4 m4 t4 x0 x1 c4 e4=>⟨rfl,_,rfl,?_⟩⟩;have S4:=S3.setHand (r':=r) c4;have f4:=f3.put' (a:=hd) (o:=hl d4 m4 t4 r) (by trivial);refine ite2 (fun c=>?_) (fun c=>?_)
  .exact⟨_,rfl,wd,_,rfl,S4.w.g.2.2.1,a4 WA.deeds D.deeds _ t4 S4.w.deeds h6 (fun x hx=>hx) S4 f4 (by lia)⟩
  .exact a4 ps ds _ t4 (a2.keep (FrS.chg (by trivial))) (by lia) bl S4 f4 (by lia)
 refine bo _ fun pz zs H4 t4 hz bz bn S4 f4 bx=>?_;refine⟨vc9 _,fun pw a3=>?_⟩;have S5:=S4.fr0 (FrS.new (S:=[]) (o:=.lst []) a3);have a8:pw∉Ms hd en WA:=S4.notin a3;have ah:pz≠pw:=zb4 hz.2 a3;obtain⟨l,b6,bm,bb⟩:=wt3 S.ok hn;exists _,rfl,pz,rfl,⟨_,SqL.of (by rw[zb5 ah];exact hz.2)⟩;refine zm5 (xs:=zs.map V.str) (fun i σ Hx=>∃(dx:Option V)(as:List Addr),σ=[some (.ref hd),some (.ref wd),some (.ref en),some (.int lv),some (.str y1),some (.str n),some (.ref pz),some (.ref pw),dx,none,none,none]/\Sit Hx hd en wd WA D t4 r/\FrS (Ms hd en WA) H4 Hx/\Hx pw=some (.lst (as.map V.ref))/\Ws D Hx as/\↑as<=12*i) ⟨_,[],rfl,S5,FrS.new a3,zb1,(fun a ha=>nomatch ha),by simp⟩ ?_ ?_ ?_
 .rintro i σ Hx hi ⟨_,_,_,_,fr,_⟩;exact SqL.of (hz.keep fr).2
 .rintro i x σ Hx hx ⟨dx,as,rfl,Sx,fr,ay,bf,a1⟩;obtain⟨hi,_⟩:=wz2.mp hx;rw[lqm]at hi;rw[wz5,zz2 hi]at hx;cases hx;have ax:zs[i]∈D.deeds:=bn _ (vg6 hi);refine⟨_,rfl,.inl ⟨rfl,_,SqL.of ay⟩,_,rfl,_,rfl,wd,_,WA,D,n,l,rfl,Sx.w,S.ok,b6,fun la Hy fy bw an=>⟨la,rfl,⟨_,SqL.of an⟩,fun Dl b2=>?_⟩⟩;have Sy:=Sx.fr0 fy;have bp:=fy _ _ (by trivial) ay;have aj:Ws D Hy as:=bf.mono fun b xs h=>fy _ _ (by trivial) h
  refine zg9 (xs:=l.map V.str) (fun i' σ Hz=>(∃x,σ=[x,some (.str zs[i]),some (.ref wd)])/\FrS [] Hy Hz/\∃bs:List Addr,↑bs<=i'/\Hz Dl=some (.lst (bs.map V.ref))/\Ws D Hz bs) ⟨⟨_,rfl⟩,(FrS.refl).put b2,[],by simp,zb1,fun a ha=>nomatch ha⟩ ?_ ?_ ?_
  .rintro i' σ Hz hi ⟨_,fz,_⟩;exact SqL.of (fz _ _ (by trivial) an)
  .rintro i' x σ Hz hx ⟨⟨x0,rfl⟩,fz,bs,ar,a9,aa⟩;obtain⟨af,_⟩:=wz2.mp hx;rw[lqm]at af;rw[wz5,zz2 af]at hx;cases hx;have am:l[i']∈D.names:=bb _ (vg6 af);refine⟨_,rfl,_,rfl,_,rfl,wd,_,WA,D,l[i'],zs[i],rfl,(Sy.fr0 fz).w,S.ok,am,ax,fun b Hv fv bq=>⟨_,rfl,?_⟩⟩;have ai:=fv _ _ (by trivial) a9;have av:Ws D Hv bs:=aa.mono fun b xs h=>fv _ _ (by trivial) h
   refine ite2 (fun c=>?_) (fun c=>?_)
   .refine⟨_,rfl,_,rfl,sz9 rfl,fun tp a5=>?_⟩;have b5:Dl≠tp:=zb4 ai a5;have aw:upd Hv tp (.tup [V.str l[i'],V.str zs[i]]) Dl=some (.lst (bs.map V.ref)):=by rw[zb5 b5];exact ai
    exists _,aw,by rw[lqm];exact zb8 (by lia),⟨_,rfl⟩,((fz.trans fv).trans (FrS.new a5)).put b2,bs++[tp],?_,?_
    .rw[wz4,vc1];lia
    .rw[zb1,wz9];rfl
    .refine Ws.mono (H:=upd Hv tp (.tup [V.str l[i'],V.str zs[i]])) (Ws.app (av.mono fun b xs h=>?_) fun a ha=>?_) (yn0 aw)
     .rw[zb5 (zb4 h a5)];exact h
     .rw[vc7.mp ha];exact⟨_,_,zb1,am,ax,bq c⟩
   .exact⟨⟨_,rfl⟩,fz.trans fv,bs,by lia,ai,av⟩
  .rintro σ Hz ⟨_,fz,bs,ar,a9,aa⟩;rw[lqm]at ar;have b1:=fz _ _ (by trivial) bp;have Sz:=Sy.fr0 fz;have ac:Ws D Hz as:=aj.mono fun b xs h=>fz _ _ (by trivial) h
   have S7:=Sit.own (o:=.lst (as.map V.ref++bs.map V.ref)) S4 Sz (fr.trans ((fy.trans fz).mono (by trivial))) a3;refine⟨pw,Dl,_,_,rfl,rfl,b1,a9,by rw[lqm,lqm];exact vb5 (zb8 (by lia)),_,as++bs,rfl,S7.1,S7.2,by rw[zb1,wz9],(Ws.app ac aa).mono (yn0 b1),by rw[wz4];lia⟩
 rintro σ H6 ⟨dx,as,rfl,S6,f6,ap,bc,a1⟩;rw[lqm]at a1;have b4:=f4.trans f6;refine⟨_,rfl,vc9 _,fun pe a6=>?_⟩;have S7:=S6.fr0 (FrS.new (S:=[]) (o:=.lst []) a6);have aq:pw≠pe:=zb4 ap a6;have ad:FrS (Ms hd en WA) H (upd H6 pe (.lst [])):=b4.trans (FrS.new a6);have ae:upd H6 pe (.lst []) pw=some (.lst (as.map V.ref)):=by rw[zb5 aq];exact ap
 have au:Ws D (upd H6 pe (.lst [])) as:=bc.mono fun b xs h=>by rw[zb5 (zb4 h a6)];exact h
 exists pw,pe,_,rfl,rfl,aq,SqL.of ae,SqL.of zb1,_,rfl;generalize upd H6 pe (.lst [])=H7 at S7 ad ae au;cases as with
 | nil=>
  refine⟨_,rfl,_,rfl,_,rfl,hd,en,wd,WA,D,t4,r,rfl,S7,by lia,fun x H8 t8 p8 S8 f8 c5=>q x H8 t8 (.inl p8) S8 (ad.trans f8) (by lia)⟩
 | cons a0 as'=>
  obtain⟨d,m,hh⟩:=S7.hand;refine⟨_,rfl,_,rfl,hd,pw,d,m,t4,r,_,rfl,hh,by lia,fun z=>a8 (by rw[z];simp),SqL.of ae,by simp,by rw[lqm];lia,fun x d8 m8 t8 hx c8 e8=>?_⟩;obtain⟨tp,a5,rfl⟩:=vb9.mp hx;obtain⟨on,dn,e1,e2,e3,e4⟩:=au tp a5;have S8:=S7.setHand (r':=r) c8;have f8:=ad.put' (a:=hd) (o:=hl d8 m8 t8 r) (by trivial);have bh:tp≠hd:=fun z=>by have:=hh.1;rw[<-z,e1]at this;cases this
  exists tp,_,rfl,SqT.of (by rw[zb5 bh];exact e1),rfl,_,_,rfl,_,_,rfl,rfl;refine⟨_,rfl,_,rfl,_,rfl,_,rfl,_,rfl,hd,en,wd,WA,D,t8,r,on,dn,rfl,S8,by lia,e2,e3,fun x9 b8 H9 t9 bj ba S9 f9 c2=>?_⟩;refine⟨_,rfl,_,rfl,_,rfl,hd,en,wd,WA,D,t9,r,rfl,S9,by lia,fun xa Ha ta bi Sa fa bu _=>?_⟩;obtain⟨kv,a7,hk⟩:=Sa.env;obtain⟨kt,az,b9⟩:=Sa.told;exists _,rfl,wd,_,rfl,Sa.w.g.2.2.2.2.2.2.2.2.1,WA.told,rfl,.inl ⟨_,.inl az⟩,_,rfl,_,DGet.k (k:=(Sum.inr dn:Key)) az,_,rfl,_,rfl,en,_,rfl,DPut.k (k:=(Sum.inr xa:Key)) a7 (zb8 (by have:=hk.len;lia));have Sb:=Sa.setEnv (hk.put bi (b9.get (Sum.inr dn)));have fb:=((f8.trans f9).trans fa).put' (a:=en) (o:=.dK (putK kv (Sum.inr xa) ((valV kt (Sum.inr dn)).getD .non))) (by trivial);refine⟨_,rfl,_,rfl,_,rfl,_,rfl,_,rfl,sz9 rfl,fun pr ag=>?_⟩;have bd:Tup H9 (upd (upd Ha en (.dK (putK kv (Sum.inr xa) ((valV kt (Sum.inr dn)).getD .non)))) pr (.tup [V.str "call",V.str xa,V.str y1,V.str on,V.str dn,V.ref x9])):=((S9.tup fa).trans (Sa.tup (FrS.chg (.tail _ (.head _))))).trans (Tup.new ag);exact q pr _ ta (.inr ⟨xa,y1,on,dn,x9,b8,zb1,bd _ _ bj,ba,e4⟩) (Sb.fr0 (FrS.new ag)) (fb.trans (FrS.new ag)) (by lia)
end
abbrev sRow:Stmt:=top 32
abbrev wg3:Stmt:=top 33
abbrev pRow:List Str:=[qH,qW,"_law_env","_law_level","_law_deep"]
abbrev yg7:List Str:=[qH,qW,"_law_env","_law_level","_law_deep","_law_most"]
inductive SpRow(n:Nat)(vs:List V)(H:Hp)(Q:VK):Prop
 | mk(hd en wd:Addr)(A:WA)(D:WD)(t r lv:Int)(dp:Nat)(h1:vs=[.ref hd,.ref wd,.ref en,.int lv,.int (dp:Int)])(h2:dp<=n)(h3:Sit H hd en wd A D t r)(h4:0<=r)(h5:t+25*r+24<1000000)(h6:∀(x:Addr)(fs:List Addr)(H':Hp)(t' r':Int),Fl (HsD D) H' n [x] fs->(↑fs:Int)+r'<=r+1->Sit H' hd en wd A D t' r'->FrS (Ms hd en A) H H'->0<=r'->r'<=r->t'+25*r'<=t+25*r+24->Q (.ref x) H'):SpRow n vs H Q
def ws8(n:Nat):Sp:=fun vs H Q _=>SpRow n vs H Q
inductive wm6(n:Nat)(vs:List V)(H:Hp)(Q:VK):Prop
 | mk(hd en wd:Addr)(A:WA)(D:WD)(t r lv mo:Int)(dp:Nat)(h1:vs=[.ref hd,.ref wd,.ref en,.int lv,.int (dp:Int),.int mo])(h2:dp<=n)(h3:0<=mo)(h4:mo<=100)(h5:Sit H hd en wd A D t r)(h6:0<=r)(h7:t+25*r+1<1000000)(h8:∀(x:Addr)(rs fs:List Addr)(H':Hp)(t' r':Int),H' x=some (.tup (rs.map V.ref))->Fl (HsD D) H' n rs fs->(↑fs:Int)+r'<=r->Sit H' hd en wd A D t' r'->FrS (Ms hd en A) H H'->0<=r'->r'<=r->t'+25*r'<=t+25*r+1->Q (.ref x) H'):wm6 n vs H Q
def yf3(n:Nat):Sp:=fun vs H Q _=>wm6 n vs H Q
def yf0:Nat->Sp
 | 0=>fun _ _ _ _=>False
 | n+1=>yf3 n
section
abbrev nRow:List Str:=[qH,qW,"_law_env","_law_level","_law_deep","_law_way","_law_y","_law_x","_law_lots"]
def xj8:zd0 nRow pRow (zc1 sRow):=fsc
def ok_row(F:Fun K "_law_row" "_law_row" sRow f fd)(T:Cal P w K mg base k "_law_take" qB zh6)(O:Cal P w K mg base k "_law_of" qC (spOf K))(V':Cal P w K mg base k "_law_variable" qA ys0)(G:Cal P w K mg base k "_law_target" qA yv2)(MK:Cal P w K mg base k "_law_make" qA xd3)(FI:Cal P w K mg base k "_law_field" qA yx1)(CA:Cal P w K mg base k "_law_call" qF ys1)(R:Cal P w K mg base k "_law_rows" yg7 (yf0 n))(mr:mg "range"=none)(ml:mg "len"=none)(ap:mg "tuple"=none):
  FnOk P w K mg base CX0 (k+1) f fd pRow (ws8 n):=by
 refine F.ok xj8 (fun vs H Q E h=>?_) (fun ba A outer s H vs Q E hr h=>?_)
 .obtain⟨hd,en,wd,A,D,t,r,lv,dp,rfl,_⟩:=h;rfl
 obtain⟨hd,en,wd,WA,D,t,r,lv,dp,rfl,bb,S,a1,ht,q⟩:=h;have hu:=zn5 hr;have ar:(["_law_k",qH,qW,"_law_env","_law_level","_law_deep"]:List Str).Nodup:=by rfl'
 exists _,zb3 (sL 5 xj8.nd (zb9 T hr rfl (zb0 (pv 0) (zb0 zb6 zb2))))
  (zb3 (zg8 (zc2 xh2 (pv 5) zb6 (zd6 _)) (zb7 (zd1 (zb9 MK hr rfl (zb0 (pv 0) (zb0 (pv 1) (zb0 (pv 2) zb2)))))) zd4)
  (zb3 (zg8 (zc2 zn2 (pv 5) zb6 (zd6 _))
   (zb3 (sL 6 xj8.nd (zb9 V' hr rfl (zb0 (pv 0) (zb0 (pv 1) (zb0 (pv 2) zb2)))))
   (zb3 (sL 7 xj8.nd (zb9 G hr rfl (zb0 (pv 0) (zb0 (pv 1) (zb0 (pv 2) zb2)))))
   (zb3 (zn7 hu (pv 2) (pv 7) (zt7 hu (pv 2) (pv 6) ⟨rfl,rfl,rfl,rfl⟩) rfl)
   (zb7 (zd1 (zf1 (zb0 zd3 (zb0 (pv 7) (zb0 (pv 6) zb2))))))))) zd4)
  (zb3 (zg8 (zc2 xh2 (pv 5) zb6 (zd6 _)) (zb7 (zd1 (zb9 FI hr rfl (zb0 (pv 0) (zb0 (pv 1) (zb0 (pv 2) zb2)))))) zd4)
  (zb3 (zg8 (PW.pt (zk5 (zc2 zn2 (pv 5) zb6 (zd6 _)) (zk2 (zc2 (yn5 (vs4 hu)) (zc6 hu (pv 1) zd3 (fun _ _=>rfl)) (zd7 zb2) (zd6 _)))))
   (zb7 (zd1 (zf1 (zb0 zd3 (zb0 (zb9 O hr rfl (zb0 (pv 0) (zb0 (zc6 hu (pv 1) zd3 (fun _ _=>rfl)) zb2))) zb2))))) zd4)
  (zb3 (zg8 (PW.pt (xh7 (zc2 zn2 (pv 5) zb6 (zd6 _)) (yh3 (zc2 zn2 (pv 5) zb6 (zd6 _)))))
   (zb7 (zd1 (zf1 (zb0 zd3 (zb0 (zb9 O hr rfl (zb0 (pv 0) (zb0 (zc6 hu (pv 1) zd3 (fun _ _=>rfl)) zb2))) zb2))))) zd4)
  (zb3 (zg8 (PW.pt (zk5 (zc2 xh2 (pv 5) zb6 (zd6 _)) (zk5 (zc2 yk4 (pv 4) zb6 (zd6 _)) (zk2 (zc2 yk4 (eI (pv 0) zb6) zb6 (zd6 _))))))
   (zb3 (zj0 (i:=8) (N':=["_law_k",qH,qW,"_law_env","_law_level","_law_deep"]) (src:=[none,some 0,some 1,some 2,some 3,some 4]) rfl xj8.nd rfl rfl bkn
    (zm2 rfl mr (zb0 (zf2 zw9 zb6 (pv 5)) zb2)) (g:=zf0 0) (fun _ _ _ _=>gL 0 ar) (fun _ _ _ _=>zg2)
    (fun _ _ _ _=>zb9 R hr rfl (zb0 (pv 1) (zb0 (pv 2) (zb0 (pv 3) (zb0 (pv 4) (zb0 (zf2 zw9 (pv 5) zb6) (zb0 zb6 zb2))))))))
   (zb7 (zd1 (zf2 wq8 (zf1 (zb0 (eI (zd7 (zb0 zd3 (zb0 zd3 zb2))) (zf2 zw9 (zc5 zd5 rfl ml vg7 (zb0 (pv 8) zb2)) zb6)) zb2)) (zc7 zc8 rfl ap (by rfl') (zb0 (pv 8) zb2)))))) zd4)
  (zb7 (zd1 (zb9 CA hr rfl (zb0 (pv 0) (zb0 (pv 1) (zb0 (pv 2) (zb0 (pv 3) zb2)))))))))))))
 ac_rfl
 have hU:D.U.length=9:=by unfold WD.U;rw[vc6,wz4,S.ok.v4,S.ok.p4]
 have bc:=S.ok.f3;have b1:=S.ok.lateLen;obtain⟨d,m,hh⟩:=S.hand;refine⟨_,rfl,hd,d,m,t,r,14,rfl,hh,by lia,by decide,by decide,fun x d1 m1 t1 x0 x1 c1 e1=>?_⟩;have S1:=S.setHand (r':=r) c1;have f1:FrS (Ms hd en WA) H (upd H hd (hl d1 m1 t1 r)):=FrS.chg (by trivial);have a4:upd H hd (hl d1 m1 t1 r) hd=some (hl d1 m1 t1 r):=zb1;generalize upd H hd (hl d1 m1 t1 r)=H1 at S1 f1 a4;exists _,rfl,_,_,rfl,rfl,_,rfl;refine ite2 (fun c=>?_) (fun c=>?_)
 .exact⟨_,rfl,_,rfl,_,rfl,hd,en,wd,WA,D,t1,r,rfl,S1,by lia,fun x H2 t2 p2 S2 f2 ak=>q x [x] H2 t2 r (.one (.inl p2) .nil) (by show(1:Int)+_<=_;lia) S2 (f1.trans f2) a1 (by lia) (by lia)⟩
 have n3:¬x<3:=fun z=>c (vd1 z);exists _,rfl,rfl,_,rfl;refine ite2 (fun c=>?_) (fun c=>?_)
 .refine⟨_,rfl,_,rfl,_,rfl,hd,en,wd,WA,D,t1,r,rfl,S1,by lia,fun y2 H2 t2 S2 f2 ak _=>?_⟩;refine⟨_,rfl,_,rfl,_,rfl,hd,en,wd,WA,D,t2,r,rfl,S2,by lia,fun x3 H3 t3 aq S3 f3 b5 _=>?_⟩;obtain⟨kv,ae,hk⟩:=S3.env;exists _,rfl,en,rfl,.inl ⟨_,.inl ae⟩,_,rfl,_,DGet.k (k:=(Sum.inr y2:Key)) ae,_,rfl,_,rfl,en,_,rfl,DPut.k (k:=(Sum.inr x3:Key)) ae (zb8 (by have:=hk.len;lia));have S4:=S3.setEnv (hk.put aq (hk.get (Sum.inr y2)));have f4:=((f1.trans f2).trans f3).put' (a:=en) (o:=.dK (putK kv (Sum.inr x3) ((valV kv (Sum.inr y2)).getD .non))) (by trivial);refine⟨_,rfl,_,rfl,sz9 rfl,fun pr a0=>?_⟩;exact q pr [pr] _ t3 r (.one (.inl ⟨"copy",_,zb1,by rfl',by rfl',by rfl',fun e=>absurd e (by rfl')⟩) .nil) (by show(1:Int)+_<=_;lia) (S4.fr0 (FrS.new a0)) (f4.trans (FrS.new a0)) a1 (by lia) (by lia)
 have n4:x≠3:=fun z=>c (vd1 (by rw[z]))
 exists _,rfl,_,_,rfl,rfl,_,rfl;refine ite2 (fun c=>?_) (fun c=>?_)
 .exact⟨_,rfl,_,rfl,_,rfl,hd,en,wd,WA,D,t1,r,rfl,S1,by lia,fun x H2 t2 p2 S2 f2 ak=>q x [x] H2 t2 r (.one (.inl p2) .nil) (by show(1:Int)+_<=_;lia) S2 (f1.trans f2) a1 (by lia) (by lia)⟩
 have n6:¬x<6:=fun z=>c (vd1 z);have rest:∀(H2:Hp),Sit H2 hd en wd WA D t1 r->FrS (Ms hd en WA) H H2->H2 hd=some (hl d1 m1 t1 r)->
   tSeq (tIfS (tOr (zp4 (tOp rEq (tVar 5) (tC (.int 6)))) (zp4 (tOp rEq (tVar 5) (tC (.int 7))))) (tRet (tTup (zc3 (tC (.str "say")) (zc3 (zm8 (spOf K) [] E0 (zc3 (tVar 0) (zc3 (yx2 (tVar 1) (tC (.str "fields"))) tNil))) tNil)))) yx8)
   (tSeq (tIfS (tAnd (zp4 (tOp (rI0 fun i j=>.bl (decide (i<j))) (tVar 5) (tC (.int 10)))) (tAnd (zp4 (tOp (rI0 fun i j=>.bl (decide (j<i))) (tVar 4) (tC (.int 0)))) (zp4 (tOp (rI0 fun i j=>.bl (decide (j<i))) (tOp (rIxL K) (tVar 0) (tC (.int 3))) (tC (.int 2))))))
    (tSeq (tAsg (xg7 (iRng1 (zc3 (tOp (rI0 fun i j=>.int (i-j)) (tC (.int 10)) (tVar 5)) tNil)) [none,some 0,some 1,some 2,some 3,some 4] (zf0 0) tAll (zm8 (yf0 n) [] E0 (zc3 (tVar 1) (zc3 (tVar 2) (zc3 (tVar 3) (zc3 (tVar 4) (zc3 (tOp (rI0 fun i j=>.int (i-j)) (tVar 5) (tC (.int 1))) (zc3 (tC (.int 3)) tNil)))))))) (zf0 8))
     (tRet (tOp (rCatT K) (tTup (zc3 (tOp (rIxL K) (tLst (zc3 (tC (.str "again")) (zc3 (tC (.str "either")) tNil))) (tOp (rI0 fun i j=>.int (i-j)) (tCB (fun xs H Q=>∃p ys,xs=[.ref p]/\(SqL K H p ys\/SqT K H p ys)/\Q (.int ↑ys) H) (zc3 (tVar 8) tNil)) (tC (.int 1)))) tNil))
      (tCB (fun xs H Q=>∃p ys,xs=[.ref p]/\((SqL K H p ys/\∀l,H l=none->Q (.ref l) (upd H l (.tup ys)))\/(SqT K H p ys/\Q (.ref p) H))) (zc3 (tVar 8) tNil))))) yx8)
   (tRet (zm8 ys1 [] E0 (zc3 (tVar 0) (zc3 (tVar 1) (zc3 (tVar 2) (zc3 (tVar 3) tNil)))))))
   ⟨fun _ H=>Q .non H,Q,fun _ _=>False,fun _ _=>False⟩ [some (.ref hd),some (.ref wd),some (.ref en),some (.int lv),some (.int (dp:Int)),some (.int x),none,none,none] H2:=by
  intro H2 S2 f2 a5;have say:tRet (tTup (zc3 (tC (.str "say")) (zc3 (zm8 (spOf K) [] E0 (zc3 (tVar 0) (zc3 (yx2 (tVar 1) (tC (.str "fields"))) tNil))) tNil))) ⟨fun _ H=>Q .non H,Q,fun _ _=>False,fun _ _=>False⟩ [some (.ref hd),some (.ref wd),some (.ref en),some (.int lv),some (.int (dp:Int)),some (.int x),none,none,none] H2:=by
   obtain⟨d,m,hh⟩:=S2.hand;refine⟨_,rfl,_,rfl,wd,_,rfl,S2.w.g.2.2.2.2.2.2.2.1,hd,WA.fields,d,m,t1,r,_,rfl,hh,by lia,zh9 S2.w.fields.2 hh,SqL.of S2.w.fields.2,?_,by rw[lqm];lia,fun x d3 m3 t3 hx c3 e3=>?_⟩
   .intro z;have:=vg1 List.length z;rw[lqm,vk8]at this;lia
   refine⟨sz9 rfl,fun pr a0=>?_⟩;exact q pr [pr] _ t3 r (.one (.inl ⟨"say",_,zb1,by rfl',by rfl',by rfl',fun e=>absurd e (by rfl')⟩) .nil) (by show(1:Int)+_<=_;lia) ((S2.setHand c3).fr0 (FrS.new a0)) ((f2.put' (by trivial)).trans (FrS.new a0)) a1 (by lia) (by lia)
  have ab:tRet (zm8 ys1 [] E0 (zc3 (tVar 0) (zc3 (tVar 1) (zc3 (tVar 2) (zc3 (tVar 3) tNil))))) ⟨fun _ H=>Q .non H,Q,fun _ _=>False,fun _ _=>False⟩ [some (.ref hd),some (.ref wd),some (.ref en),some (.int lv),some (.int (dp:Int)),some (.int x),none,none,none] H2:=
   ⟨_,rfl,_,rfl,_,rfl,_,rfl,hd,en,wd,WA,D,t1,r,lv,rfl,S2,by lia,fun x H3 t3 p3 S3 f3 b5=>q x [x] H3 t3 r (.one p3 .nil) (by show(1:Int)+_<=_;lia) S3 (f2.trans f3) a1 (by lia) (by lia)⟩
  exists _,rfl,rfl,_,rfl;refine ite2 (fun c=>?_) (fun c=>?_)
  .exact say
  have b7:x≠6:=fun z=>c (vd1 (by rw[z]))
  exists _,rfl,rfl,_,rfl;refine ite2 (fun c=>?_) (fun c=>?_)
  .exact say
  have bd:x≠7:=fun z=>c (vd1 (by rw[z]))
  exists _,rfl,_,_,rfl,rfl,_,rfl;refine ite2 (fun c=>?_) (fun c=>ab);have bg:x<10:=vb3 c;exists _,rfl,_,_,rfl,rfl,_,rfl;refine ite2 (fun c=>?_) (fun c=>ab);have bf:(0:Int)<(dp:Int):=vb3 c;exists _,rfl,hd,_,_,_,rfl,rfl,SqL.of a5,at3,_,_,rfl,rfl,_,rfl;refine ite2 (fun c=>?_) (fun c=>ab);have nr:(2:Int)<r:=vb3 c;obtain⟨n',rfl⟩:∃n',n=n'+1:=⟨n-1,by lia⟩;refine⟨_,rfl,_,_,rfl,rfl,_,rfl,by lia,by lia,fun Dl a7=>?_⟩;have an:Dl∉Ms hd en WA:=S2.notin a7;refine yc8 (lo:=0) (n:=(10-x).toNat) (fun i σ Hx=>∃(kx:Option V)(tx rx:Int)(ls fs:List Addr),σ=[kx,some (.ref hd),some (.ref wd),some (.ref en),some (.int lv),some (.int (dp:Int))]/\Sit Hx hd en wd WA D tx rx/\FrS (Ms hd en WA) H2 Hx/\0<=rx/\rx<=r/\tx+25*rx<=t1+25*r+i/\Hx Dl=some (.lst (ls.map V.ref))/\↑ls=i/\Lots (HsD D) Hx n' ls fs/\(↑fs:Int)+rx<=r)
   ⟨_,t1,r,[],[],rfl,S2.fr0 (FrS.new a7),FrS.new a7,a1,by lia,by lia,zb1,rfl,.nil,by show(0:Int)+r<=r;lia⟩ ?_ ?_
  .rintro i σ Hx hi ⟨kx,tx,rx,ls,fs,rfl,Sx,fx,ad,ai,ao,a2,aw,ac,as⟩;refine⟨_,rfl,_,rfl,_,rfl,_,rfl,_,rfl,_,_,rfl,rfl,hd,en,wd,WA,D,tx,rx,lv,3,dp-1,?_,by lia,by decide,by decide,Sx,ad,by lia,fun v b8 au Hy ty ry b2 b0 b9 Sy fy ay be b6=>?_⟩
   .have:((dp-1:Nat):Int)=(dp:Int)-1:=by lia
    rw[this];rfl
   .have ag:=fy _ _ an a2;have S7:=Sit.own (o:=.lst (ls.map V.ref++[V.ref v])) S2 Sy (fx.trans fy) a7;have aa:Tup Hy (upd Hy Dl (.lst (ls.map V.ref++[V.ref v]))):=Tup.lst ag;exact⟨_,ag,zb8 (by rw[lqm];lia),_,ty,ry,ls++[v],fs++au,rfl,S7.1,S7.2,ay,by lia,by lia,by rw[zb1,wz9];rfl,by rw[wz4,vc1];lia,(ac.keep ((Sx.tup fy).trans aa)).snoc (aa _ _ b2) (b0.keep aa),by rw[wz4];lia⟩
  .rintro σ Hx ⟨kx,tx,rx,ls,fs,rfl,Sx,fx,ad,ai,ao,a2,aw,ac,as⟩;have hj:↑ls=1\/↑ls=2:=by lia
   refine⟨sz9 rfl,fun pl aj=>?_⟩;have al:Dl≠pl:=zb4 a2 aj;have ax:∃v:Str,atI [V.str "again",V.str "either"] (((↑(ls.map V.ref):Nat):Int)-1)=some (.str v)/\(↑ls=1/\v="again"\/↑ls=2/\v="either"):=by
    rw[lqm];rcases hj with h | h
    .exact⟨"again",by rw[h];rfl,.inl ⟨h,rfl⟩⟩
    .exact⟨"either",by rw[h];rfl,.inr ⟨h,rfl⟩⟩
   obtain⟨v,hv,av⟩:=ax;refine⟨_,rfl,Dl,_,rfl,.inl (SqL.of (by rw[zb5 al];exact a2)),_,_,rfl,rfl,pl,_,_,_,rfl,rfl,SqL.of zb1,hv,sz9 rfl,fun pt ah=>?_⟩;have a3:upd Hx pl (.lst [V.str "again",V.str "either"]) Dl=some (.lst (ls.map V.ref)):=by rw[zb5 al];exact a2
   have am:Dl≠pt:=zb4 a3 ah;refine⟨_,rfl,Dl,_,rfl,.inl ⟨SqL.of (by rw[zb5 am];exact a3),fun pu a8=>?_⟩⟩;have az:pt≠pu:=fun z=>by rw[<-z,zb1]at a8;cases a8
   refine⟨pt,pu,[.str v],ls.map V.ref,rfl,rfl,SqT.of (by rw[zb5 az];exact zb1),SqT.of zb1,by simp,by rw[lqm];show 1+↑ls<=sizeLine;exact vb5 (zb8 (by lia)),fun z=>?_,fun _ pz b4=>?_⟩
   .have:=vg1 List.length z;rw[lqm,vk8]at this;lia
   .have ff:FrS [] Hx _:=(((FrS.new (S:=[]) aj).trans (FrS.new ah)).trans (FrS.new a8)).trans (FrS.new (o:=.tup ([V.str v]++ls.map V.ref)) b4);exact q pz (pz::fs) _ tx rx ((ac.keep (Tup.of0 ff)).row zb1 av) (by rw[vc6];lia) (Sx.fr0 ff) (f2.trans (fx.trans (ff.mono (by trivial)))) ad ai (by lia)
 exists _,rfl,rfl,_,rfl;refine ite2 (fun c=>?_) (fun c=>rest H1 S1 f1 a4);refine⟨_,rfl,wd,_,rfl,S1.w.g.2.1,vc9 _,fun pe a6=>?_⟩;have S2:=S1.fr0 (FrS.new (S:=[]) (o:=.lst []) a6);have b3:WA.late≠pe:=zb4 S1.w.late.2 a6;exists WA.late,pe,_,rfl,rfl,b3,SqL.of S2.w.late.2,SqL.of zb1,_,rfl;have f2:FrS (Ms hd en WA) H (upd H1 pe (.lst [])):=f1.trans (FrS.new a6);have a5:upd H1 pe (.lst []) hd=some (hl d1 m1 t1 r):=by rw[zb5 (zb4 a4 a6)];exact a4
 generalize upd H1 pe (.lst [])=H2 at S2 f2 a5;cases hla:D.late with
 | nil=>exact rest H2 S2 f2 a5
 | cons y ys=>
  have af:=S2.w.late.2;rw[hla]at af;have a9:=b1;rw[hla]at a9;obtain⟨d,m,hh⟩:=S2.hand;refine⟨_,rfl,_,rfl,wd,_,rfl,S2.w.g.2.1,hd,WA.late,d,m,t1,r,_,rfl,hh,by lia,zh9 af hh,SqL.of af,by simp,by rw[lqm];lia,fun x d3 m3 t3 hx c3 e3=>?_⟩;refine⟨sz9 rfl,fun pr a0=>?_⟩;exact q pr [pr] _ t3 r (.one (.inl ⟨"bring",_,zb1,by rfl',by rfl',by rfl',fun e=>absurd e (by rfl')⟩) .nil) (by show(1:Int)+_<=_;lia) ((S2.setHand c3).fr0 (FrS.new a0)) ((f2.put' (by trivial)).trans (FrS.new a0)) a1 (by lia) (by lia)
end
section
abbrev nRows:List Str:=[qH,qW,"_law_env","_law_level","_law_deep","_law_most","_law_rows_here","_law_k"]
def xb3:zd0 nRows yg7 (zc1 wg3):=fsc
def xt5(F:Fun K "_law_rows" "_law_rows" wg3 f fd)(T:Cal P w K mg base k "_law_take" qB zh6)(R:Cal P w K mg base k "_law_row" pRow (ws8 n))(mr:mg "range"=none)(af:mg "tuple"=none):
  FnOk P w K mg base CX0 (k+1) f fd yg7 (yf3 n):=by
 refine F.ok xb3 (fun vs H Q E h=>?_) (fun ak A outer s H vs Q E hr h=>?_)
 .obtain⟨hd,en,wd,A,D,t,r,lv,mo,dp,rfl,_⟩:=h;rfl
 obtain⟨hd,en,wd,WA,D,t,r,lv,mo,dp,rfl,ah,ai,al,S,ae,ht,q⟩:=h;have hu:=zn5 hr;exists _,zb3 (sL 6 xb3.nd (zd7 zb2))
  (zb3 (zf9 vd5 rfl (zm2 rfl mr (zb0 (zb9 T hr rfl (zb0 (pv 0) (zb0 (zf2 zm3 (pv 5) zb6) zb2))) zb2)) (gL 7 xb3.nd)
   (zb7 (zg8 (zc2 yk4 (eI (pv 0) zb6) zb6 (zd6 _))
    (zb3 (zx0 (zf2 zw9 (eI (pv 0) zb6) zb6) (yj2 (pv 0) zb6 zq1))
    (zb7 (zf5 (zk8 vd2 vd9 vf0 zd8 (pv 6) (zb0 (zb9 R hr rfl (zb0 (pv 0) (zb0 (pv 1) (zb0 (pv 2) (zb0 (pv 3) (zb0 (pv 4) zb2)))))) zb2))))) zd4)))
  (zb7 (zd1 (zc7 zc8 rfl af (by rfl') (zb0 (pv 6) zb2)))))
 ac_rfl
 refine⟨vc9 _,fun pr a0=>?_⟩;have S1:=S.fr0 (FrS.new (S:=[]) (o:=.lst []) a0);have aa:pr∉Ms hd en WA:=S.notin a0;obtain⟨d,m,hh⟩:=S1.hand;refine⟨_,rfl,_,rfl,_,_,rfl,rfl,hd,d,m,t,r,_,rfl,hh,by lia,by lia,by lia,fun x d1 m1 t1 x0 x1 c1 e1=>?_⟩;have S2:=S1.setHand (r':=r) c1;have a8:pr≠hd:=fun z=>aa (by rw[z];simp)
 refine⟨_,rfl,by lia,by lia,?_⟩;refine zp2 (lo:=0) (n:=x.toNat) (fun i σ Hx=>∃(kx:Option V)(tx rx:Int)(rs fs:List Addr),σ=[some (.ref hd),some (.ref wd),some (.ref en),some (.int lv),some (.int (dp:Int)),some (.int mo),some (.ref pr),kx]/\Sit Hx hd en wd WA D tx rx/\FrS (Ms hd en WA) H Hx/\0<=rx/\rx<=r/\tx+25*rx<=t+25*r+1/\Hx pr=some (.lst (rs.map V.ref))/\↑rs<=i/\Fl (HsD D) Hx n rs fs/\(↑fs:Int)+rx<=r)
  ⟨_,t1,r,[],[],rfl,S2,((FrS.new a0).put' (by trivial)),ae,by lia,by lia,by rw[zb5 a8];exact zb1,by simp,.nil,by show(0:Int)+r<=r;lia⟩ ?_ ?_
 .rintro i σ Hx hi ⟨kx,tx,rx,rs,fs,rfl,Sx,fx,a5,a3,a4,a1,ad,a2,a6⟩;obtain⟨d,m,hH,ok⟩:=Sx.hand;exists _,rfl,hd,_,_,_,rfl,rfl,SqL.of hH,at3,_,_,rfl,rfl,_,rfl;refine ite2 (fun c=>?_) (fun c=>?_)
  .have c':0<rx:=vb3 c;exists _,rfl,hd,_,_,_,rfl,rfl,SqL.of hH,at3,_,_,rfl,rfl;exists _,rfl,hd,_,3,3,rfl,rfl,hH,rfl;have S3:=Sx.setHand (r':=rx-1) ok;have f3:=fx.put' (a:=hd) (o:=hl d m tx (rx-1)) (by trivial);have a7:upd Hx hd (hl d m tx (rx-1)) pr=some (.lst (rs.map V.ref)):=by rw[zb5 a8];exact a1
   refine⟨_,rfl,.inl ⟨rfl,_,SqL.of a7⟩,_,rfl,_,rfl,_,rfl,_,rfl,_,rfl,hd,en,wd,WA,D,tx,rx-1,lv,dp,rfl,ah,S3,by lia,by lia,fun v fv H4 t4 r4 ag aj S4 f4 h0 h1 h2=>?_⟩;have a9:=f4 _ _ aa a7;have S7:=Sit.own (o:=.lst (rs.map V.ref++[V.ref v])) S S4 (f3.trans f4) a0;have ab:Tup H4 (upd H4 pr (.lst (rs.map V.ref++[V.ref v]))):=Tup.lst a9;have ac:Tup Hx H4:=(Sx.tup (FrS.chg (.head _))).trans (S3.tup f4);exact⟨pr,_,_,rfl,rfl,a9,zb8 (by rw[lqm];lia),_,t4,r4,rs++[v],fs++fv,rfl,S7.1,S7.2,h0,by lia,by lia,by rw[zb1,wz9];rfl,by rw[wz4,vc1];lia,(a2.keep (ac.trans ab)).app (ag.keep ab),by rw[wz4];lia⟩
  .exact⟨_,tx,rx,rs,fs,rfl,Sx,fx,a5,a3,a4,a1,by lia,a2,a6⟩
 .rintro σ Hx ⟨kx,tx,rx,rs,fs,rfl,Sx,fx,a5,a3,a4,a1,ad,a2,a6⟩;refine⟨_,rfl,pr,_,rfl,.inl ⟨SqL.of a1,fun l hl=>?_⟩⟩;exact q l rs fs _ tx rx zb1 (a2.keep (Tup.new hl)) a6 (Sx.fr0 (FrS.new hl)) (fx.trans (FrS.new hl)) a5 a3 a4
end
abbrev M0(hd:Addr)(A:WA):List Addr:=[hd,A.told,A.held]
structure Sit0(H:Hp)(hd wd:Addr)(A:WA)(D:WD)(t r:Int):Prop where
 hand:∃d m,Hand H hd d m t r
 told:∃kv,H A.told=some (.dK kv)/\DOk D.deeds D.names kv
 held:∃kv,H A.held=some (.dK kv)/\DOk D.fields D.names kv
 w:Wld (M0 hd A) H wd A D
 nd:(M0 hd A).Nodup
 ok:WOk D
section
def Sit0.have_(S:Sit0 H hd wd A D t r):∀b∈M0 hd A,∃o,H b=some o:=by
 obtain⟨⟨d,m,h1,a2⟩,⟨k2,e2,a3⟩,⟨k3,e3,a0⟩,w,nd,a1⟩:=S;intro b hb;simp only[M0,vb4,wz1,vj2]at hb;rcases hb with rfl | rfl | rfl
 .exact⟨_,h1⟩
 .exact⟨_,e2⟩
 .exact⟨_,e3⟩
def Sit0.notin(S:Sit0 H hd wd A D t r)(hp:H p=none):p∉M0 hd A:=fun z=>by
 obtain⟨o,ho⟩:=S.have_ p z;rw[hp]at ho;cases ho
def Sit0.ne(S:Sit0 H hd wd A D t r):hd≠A.told/\hd≠A.held/\A.told≠A.held:=by
 have:=S.nd;simp only[M0,vh6,vb4,wz1,vj2,not_or]at this;exact⟨this.1.1,this.1.2,this.2.1⟩
def Sit0.fr0(S:Sit0 H hd wd A D t r)(f:FrS [] H H'):Sit0 H' hd wd A D t r:=by
 obtain⟨⟨d,m,h1,a1⟩,⟨k2,e2,a2⟩,⟨k3,e3,a0⟩,w,nd,ok⟩:=S;exact⟨⟨d,m,f _ _ (by trivial) h1,a1⟩,⟨k2,f _ _ (by trivial) e2,a2⟩,⟨k3,f _ _ (by trivial) e3,a0⟩,w.keep (f.mono (by trivial)),nd,ok⟩
def Sit0.setHand(S:Sit0 H hd wd A D t r)(ok:zx2 d' m' t'):Sit0 (upd H hd (hl d' m' t' r')) hd wd A D t' r':=by
 obtain⟨n2,n3,n6⟩:=S.ne;obtain⟨⟨d,m,h1⟩,⟨k2,e2,a2⟩,⟨k3,e3,a0⟩,w,nd,a1⟩:=S;exact⟨⟨d',m',Hand.at ok⟩,⟨k2,by rw[zb5 n2.symm];exact e2,a2⟩,⟨k3,by rw[zb5 n3.symm];exact e3,a0⟩,w.keep (FrS.chg (by trivial)),nd,a1⟩
def Sit0.own(S:Sit0 H hd wd A D t r)(S6:Sit0 H6 hd wd A D t6 r6)(f:FrS (M0 hd A) H H6)(a1:H pa=none):Sit0 (upd H6 pa o) hd wd A D t6 r6/\FrS (M0 hd A) H (upd H6 pa o):=by
 have a0:pa∉M0 hd A:=S.notin a1;have u:∀b∈M0 hd A,upd H6 pa o b=H6 b:=fun b hb=>zb5 (fun z=>a0 (by rw[<-z];exact hb))
 have fr:FrS (M0 hd A) H (upd H6 pa o):=f.put a1;obtain⟨⟨d,m,h1,a2⟩,⟨k2,e2,a4⟩,⟨k3,e3,a3⟩,w,nd,ok⟩:=S6;exact⟨⟨⟨d,m,(u _ (by trivial)).trans h1,a2⟩,⟨k2,(u _ (by trivial)).trans e2,a4⟩,⟨k3,(u _ (by trivial)).trans e3,a3⟩,S.w.keep fr,nd,ok⟩,fr⟩
def Sit0.open(S:Sit0 H hd wd A D t r)(he:H en=none)(hk:DOk D.U D.names kv):Sit (upd H en (.dK kv)) hd en wd A D t r:=by
 have hn:=S.notin he;obtain⟨n2,n3,n6⟩:=S.ne;have fr:FrS [] H (upd H en (.dK kv)):=FrS.new he;have S2:=S.fr0 fr;refine⟨S2.hand,⟨kv,zb1,hk⟩,S2.told,S2.held,S.w.map fun a o h=>⟨fun z=>?_,fr _ _ (by trivial) h.2⟩,?_,S.ok⟩
 .simp only[Ms,vb4,wz1,vj2]at z;rcases z with z | z | z | z
  .exact h.1 (by rw[z];simp)
  .exact zb4 h.2 he z
  .exact h.1 (by rw[z];simp)
  .exact h.1 (by rw[z];simp)
 .simp only[M0,vb4,wz1,vj2,not_or]at hn;simp only[Ms,vh6,vb4,wz1,vj2,not_or];exact⟨⟨vj3 hn.1,n2,n3⟩,⟨hn.2.1,hn.2.2⟩,n6,not_false,vn6⟩
def Sit.close(S:Sit H hd en wd A D t r):Sit0 H hd wd A D t r:=by
 obtain⟨n1,n2,n3,n4,n5,n6⟩:=S.ne;refine⟨S.hand,S.told,S.held,S.w.map fun a o h=>h.sub (by simp +contextual),?_,S.ok⟩;simp only[M0,vh6,vb4,wz1,vj2,not_or];exact⟨⟨n2,n3⟩,n6,not_false,vn6⟩
def FrS.close(he:H en=none)(f:FrS (Ms hd en A) (upd H en o) H1):FrS (M0 hd A) H H1:=fun b u n e=>by
 have hb:b≠en:=zb4 e he;refine f b u (fun z=>?_) (by rw[zb5 hb];exact e);simp only[Ms,vb4,wz1,vj2]at z;rcases z with z | z | z | z
 .exact n (by rw[z];simp)
 .exact hb z
 .exact n (by rw[z];simp)
 .exact n (by rw[z];simp)
def DOk.merge:∀(more:List (Key×V)){kvs:List (Key×V)},DOk U N kvs->(∀kv∈more,∃x∈U,kv.1=Sum.inr x/\(kv.2=.non\/∃n∈N,kv.2=.str n))->DOk U N (zf4 kvs more)
 | [],kvs,h,_=>h
 | a::l,kvs,h,hm=>by
  obtain⟨x,hx,e,hv⟩:=hm a (vp1 ..);show DOk U N (zf4 (putK kvs a.1 a.2) l);refine DOk.merge l ?_ fun kv hk=>hm kv (vf6 _ hk);rw[e];exact h.put hx hv
end
def Sit0.tup{A:WA}(S:Sit0 H hd wd A D t r)(f:FrS (M0 hd A) H H'):Tup H H':=by
 obtain⟨⟨d,m,h1,a1⟩,⟨k2,e2,a3⟩,⟨k3,e3,a2⟩,w,nd,a0⟩:=S;refine FrS.tup f fun b hb xs=>?_;simp only[M0,vb4,wz1,vj2]at hb;rcases hb with rfl | rfl | rfl
 .rw[h1];intro z;cases z
 .rw[e2];intro z;cases z
 .rw[e3];intro z;cases z
abbrev wn7:Stmt:=top 34
inductive wk0(vs:List V)(H:Hp)(Q:VK):Prop
 | mk(hd wd:Addr)(A:WA)(D:WD)(t r:Int)(kd:Str)(lv:Nat)(h1:vs=[.ref hd,.ref wd,.str kd,.int (lv:Int)])(h2:kd∈D.names)(h3:lv<D.deeds.length)(h4:Sit0 H hd wd A D t r)(h5:0<=r)(h6:t+25*r+20<1000000)(h7:∀(x:Addr)(dn:Str)(pv gv:V)(l:Addr)(rs fs:List Addr)(H':Hp)(t' r':Int),D.deeds[lv]?=some dn->H' x=some (.tup [.str dn,pv,.ref l,gv])->H' l=some (.tup (rs.map V.ref))->Fl (HsD D) H' 4 rs fs->(↑fs:Int)+r'<=r->Sit0 H' hd wd A D t' r'->FrS (M0 hd A) H H'->0<=r'->r'<=r->t'+25*r'<=t+25*r+15->Q (.ref x) H'):wk0  vs H Q
def xd5:Sp:=fun vs H Q _=>wk0  vs H Q
section
abbrev nDeed:List Str:=[qH,qW,"_law_kind","_law_level","_law_deed_here","_law_pool","_law_wanted","_law_params","_law_env","_law_rows_here","_law_gives"]
abbrev wp7:List Str:=[qH,qW,"_law_kind","_law_level"]
def zx7:zd0 nDeed wp7 (zc1 wn7):=fsc
def wr8(F:Fun K "_law_deed" "_law_deed" wn7 f fd)(T:Cal P w K mg base k "_law_take" qB zh6)(O:Cal P w K mg base k "_law_of" qC (spOf K))(V':Cal P w K mg base k "_law_variable" qA ys0)(R:Cal P w K mg base k "_law_rows" yg7 (yf3 4))(ml:mg "len"=none)(bp:mg "list"=none)(mz:mg "zip"=none)(c0:mg "dict"=none)(bm:mg "tuple"=none):
  FnOk P w K mg base CX0 (k+1) f fd wp7 xd5:=by
 refine F.ok zx7 (fun vs H Q E h=>?_) (fun ck A outer s H vs Q E hr h=>?_)
 .obtain⟨hd,wd,A,D,t,r,kd,lv,rfl,_⟩:=h;rfl
 obtain⟨hd,wd,WA,D,t,r,kd,lv,rfl,b0,a9,S,bj,ht,q⟩:=h;have hu:=zn5 hr;have c2:(["_law_want","_law_pool",qH]:List Str).Nodup:=by rfl'
 exists _,zb3 (sL 4 zx7.nd (eI (zc6 hu (pv 1) zd3 (fun _ _=>rfl)) (pv 3)))
  (zb3 (zk7 (i:=5) zx7.nd rfl (Or.inr rfl) (zf2 yh2 (zc6 hu (pv 1) zd3 (fun _ _=>rfl)) (zj9 zv4 (zc6 hu (pv 1) zd3 (fun _ _=>rfl)) zm9 (zm7 zb6))))
  (zb3 (sL 6 zx7.nd (zc6 hu (zc6 hu (pv 1) zd3 (fun _ _=>rfl)) (zf1 (zb0 (zc6 hu (zc6 hu (pv 1) zd3 (fun _ _=>rfl)) (pv 2) (fun _ _=>rfl)) (zb0 (pv 4) zb2))) (fun _ _=>rfl)))
  (zb3 (zj0 (i:=7) (N':=["_law_want","_law_pool",qH]) (src:=[none,some 5,some 0]) rfl zx7.nd rfl rfl bkn
   (zf6 (pv 6)) (g:=zf0 0) (fun _ _ _ _=>gL 0 c2) (fun _ _ _ _=>zg2)
   (te:=tBM K "list" wk8 (tVar 1) (zc3 (zm8 zh6 [] E0 (zc3 (tVar 2) (zc3 (tCB (fun xs H Q=>∃p ys,xs=[.ref p]/\(SqL K H p ys\/SqT K H p ys)/\Q (.int ↑ys) H) (zc3 (tVar 1) tNil)) tNil))) tNil))
   (fun _ _ _ _=>zk8 vd2 PySem.F.slot_list_pop PySem.F.type_list_pop wd7 (pv 1) (zb0 (zb9 T hr rfl (zb0 (pv 2) (zb0 (zc5 zd5 rfl ml vg7 (zb0 (pv 1) zb2)) zb2))) zb2)))
  (zb3 (sL 8 zx7.nd (zc7 (zh1 rfl) rfl c0 (by rfl') (zb0 (zf2 yh2 (zd7 (zb0 (zf1 (zb0 zd3 (zb0 (pv 2) zb2))) zb2)) (xh4 rfl rfl bp rfl mz (zb0 (pv 7) (zb0 (pv 6) zb2)))) zb2)))
  (zb3 (sL 9 zx7.nd (zb9 R hr rfl (zb0 (pv 0) (zb0 (pv 1) (zb0 (pv 8) (zb0 (pv 3) (zb0 (zb9 T hr rfl (zb0 (pv 0) (zb0 zb6 zb2)))
   (zb0 (zb9 O hr rfl (zb0 (pv 0) (zb0 (zd7 (zb0 zb6 (zb0 zb6 (zb0 zb6 (zb0 zb6 (zb0 zb6 zb2)))))) zb2))) zb2))))))))
  (zb3 (sL 10 zx7.nd (zb9 O hr rfl (zb0 (pv 0) (zb0 (zd7 (zb0 yp6 (zb0 (zb9 V' hr rfl (zb0 (pv 0) (zb0 (pv 1) (zb0 (pv 8) zb2)))) (zb0 (zb9 V' hr rfl (zb0 (pv 0) (zb0 (pv 1) (zb0 (pv 8) zb2)))) zb2)))) zb2))))
  (zb3 (zn7 hu (zc6 hu (pv 1) zd3 (fun _ _=>rfl)) (pv 4) (wf8 hu (pv 8) (pv 10) ⟨rfl,rfl,rfl,rfl⟩) rfl)
  (zb7 (zd1 (zf1 (zb0 (pv 4) (zb0 (zc7 zc8 rfl bm (by rfl') (zb0 (pv 7) zb2)) (zb0 (pv 9) (zb0 (pv 10) zb2))))))))))))))
 ac_rfl
 have h6:=S.ok.d6;have hU:D.U.length=9:=by unfold WD.U;rw[vc6,wz4,S.ok.v4,S.ok.p4]
 have ao:D.deeds[lv]∈D.deeds:=vg6 a9;have c1:atI (D.deeds.map V.str) (lv:Int)=some (.str D.deeds[lv]):=zr3 (by rw[wz5,zz2 a9];rfl);exists _,rfl,wd,_,rfl,S.w.g.2.2.1,_,rfl,WA.deeds,_,_,_,rfl,rfl,SqL.of S.w.deeds.2,c1;have bc:D.deeds[lv]?=some D.deeds[lv]:=zz2 a9;generalize D.deeds[lv]=dn at ao bc;refine⟨_,rfl,wd,_,rfl,S.w.g.2.2.2.2.2.2.1,_,rfl,wd,_,rfl,S.w.g.2.2.2.2.2.1,_,rfl,WA.vars,_,rfl,SqL.of S.w.vars.2,fun az b8=>?_⟩;obtain⟨ds,ed,c7,cf⟩:=xx7 D.vars none (some 2);rw[ed];rw[S.ok.v4]at c7;have S1:=S.fr0 (FrS.new (S:=[]) (o:=.lst (ds.map V.str)) b8);have f1:FrS (M0 hd WA) H (upd H az (.lst (ds.map V.str))):=FrS.new b8;refine⟨WA.params,az,_,_,rfl,rfl,S1.w.params.2,zb1,by rw[lqm,lqm,S.ok.p4];exact vb5 (zb8 (by lia)),fun pl ac=>?_⟩;generalize upd H az (.lst (ds.map V.str))=H1 at S1 f1 ac;rw[<-wz9];have S2:=S1.fr0 (FrS.new (S:=[]) (o:=.lst ((D.params++ds).map V.str)) ac);have f2:FrS (M0 hd WA) H1 (upd H1 pl (.lst ((D.params++ds).map V.str))):=FrS.new ac;have a4:upd H1 pl (.lst ((D.params++ds).map V.str)) pl=some (.lst ((D.params++ds).map V.str)):=zb1;generalize upd H1 pl (.lst ((D.params++ds).map V.str))=H2 at S2 f2 a4;have ak:↑(D.params++ds)=4+↑ds:=by rw[wz4,S.ok.p4]
 have ab:∀x∈D.params++ds,x∈D.U:=fun x hx=>by
  unfold WD.U;rcases vc4.mp hx with h | h
  .simp[h]
  .simp[cf x h]
 generalize D.params++ds=ps at a4 ak ab;obtain⟨rt,wp,ws,e1,e2,e3,e4,e5⟩:=S.w.wl kd b0 dn ao;refine⟨_,rfl,wd,_,rfl,S2.w.g.2.2.2.1,_,rfl,wd,_,rfl,S2.w.g.2.2.2.2.2.2.2.2.2.2,_,rfl,WA.roots,_,rfl,.inl ⟨_,Sum.inr kd,.inl S2.w.roots.2,rfl,e1.symm⟩,_,rfl,sz9 rfl,fun pk am=>?_⟩;have S3:=S2.fr0 (FrS.new (S:=[]) (o:=.tup [V.str rt,V.str dn]) am);have f3:FrS (M0 hd WA) H1 (upd H2 pk (.tup [V.str rt,V.str dn])):=f2.trans (FrS.new am);have a6:upd H2 pk (.tup [V.str rt,V.str dn]) pl=some (.lst (ps.map V.str)):=by rw[zb5 (zb4 a4 am)];exact a4
 exists WA.wants,.ref wp,rfl,.inr ⟨_,[Sum.inr rt,Sum.inr dn],pk,.inl S3.w.wants.2,rfl,zb1,e2.symm⟩;generalize upd H2 pk (.tup [V.str rt,V.str dn])=H3 at S3 f3 a6;have w3:=e3.keep (f1.trans f3);have aq:pl∉M0 hd WA:=S1.notin ac;refine⟨_,rfl,wp,rfl,⟨_,SqL.of w3.2⟩,fun Dl ad=>?_⟩;have a8:Dl∉M0 hd WA:=S3.notin ad;have cd:H1 Dl=none:=f3.old S3.have_ ad;have ax:pl≠Dl:=zb4 a6 ad;refine zg9 (xs:=ws.map V.str) (fun i σ Hx=>∃(kx:Option V)(tx:Int)(a0 qs:List Str),σ=[kx,some (.ref pl),some (.ref hd)]/\Sit0 Hx hd wd WA D tx r/\FrS (M0 hd WA) H1 Hx/\tx<=t+i/\Hx pl=some (.lst (a0.map V.str))/\↑a0+i=↑ps/\(∀x∈a0,x∈D.U)/\Hx Dl=some (.lst (qs.map V.str))/\↑qs=i/\∀x∈qs,x∈D.U)
  ⟨_,t,ps,[],rfl,S3.fr0 (FrS.new ad),f3.trans (FrS.new ad),by lia,by rw[zb5 ax];exact a6,by lia,ab,zb1,rfl,by simp⟩ ?_ ?_ ?_
 .rintro i σ Hx hi ⟨_,_,_,_,_,_,fx,_⟩;exact SqL.of (e3.keep (f1.trans fx)).2
 .rintro i x σ Hx hx ⟨kx,tx,a0,qs,rfl,Sx,fx,cn,aw,bs,b7,bo,ae,al⟩;obtain⟨hi,_⟩:=wz2.mp hx;rw[lqm]at hi;obtain⟨d,m,hh⟩:=Sx.hand;have br:pl≠hd:=fun z=>aq (by rw[z];simp)
  refine⟨_,rfl,.inl ⟨rfl,_,SqL.of aw⟩,_,rfl,_,rfl,pl,_,rfl,.inl (SqL.of aw),hd,d,m,tx,r,_,rfl,hh,by lia,by rw[lqm];lia,by rw[lqm];lia,fun y d' m' ty y0 y1 c e=>?_⟩;rw[lqm]at y1;have Sy:=Sx.setHand (r':=r) c;have fy:=fx.put' (a:=hd) (o:=hl d' m' ty r) (by trivial);have bf:upd Hx hd (hl d' m' ty r) pl=some (.lst (a0.map V.str)):=by rw[zb5 br];exact aw
  have b1:upd Hx hd (hl d' m' ty r) Dl=some (.lst (qs.map V.str)):=by rw[zb5 (fun z=>a8 (by rw[z];simp))];exact bo
  generalize upd Hx hd (hl d' m' ty r)=Hy at Sy fy bf b1;have ag:y.toNat<↑a0:=by lia
  have bw:seqIndex? y ↑(a0.map V.str)=some y.toNat:=by
   unfold seqIndex?;rw[lqm];have g1:¬y<0:=by lia
   simp only[g1,vp8];rw[vd3 (by simp;lia)]
  refine⟨pl,_,y,y.toNat,.str a0[y.toNat],rfl,rfl,bf,by lia,by lia,bw,by rw[wz5,zz2 ag];rfl,?_⟩;have ci:(a0.map V.str).eraseIdx y.toNat=(a0.eraseIdx y.toNat).map V.str:=by rw[List.eraseIdx_eq_take_drop_succ,List.eraseIdx_eq_take_drop_succ,wz9,ub2,uc4]
  rw[ci];have S7:=Sit0.own (o:=.lst ((a0.eraseIdx y.toNat).map V.str)) S1 Sy fy ac;have ch:upd Hy pl (.lst ((a0.eraseIdx y.toNat).map V.str)) Dl=some (.lst (qs.map V.str)):=by rw[zb5 ax.symm];exact b1
  have S8:=Sit0.own (o:=.lst (qs.map V.str++[V.str a0[y.toNat]])) S1 S7.1 S7.2 cd;refine⟨_,ch,by rw[lqm];exact zb8 (by lia),_,ty,a0.eraseIdx y.toNat,qs++[a0[y.toNat]],rfl,S8.1,S8.2,by lia,by rw[zb5 ax];exact zb1,?_,fun x hx=>b7 x (List.mem_of_mem_eraseIdx hx),by rw[zb1,wz9];rfl,by rw[wz4,ae];rfl,fun x hx=>?_⟩
  .rw[List.length_eraseIdx_of_lt ag];lia
  .rcases vc4.mp hx with h | h
   .exact al x h
   .rw[vc7.mp h];exact b7 _ (vg6 ag)
 rintro σ H4 ⟨kx,t4,a0,qs,rfl,S4,f4,bz,cp,_,_,ai,ae,al⟩;rw[lqm]at bz ae;have b9:FrS (M0 hd WA) H H4:=f1.trans f4;have w4:=e3.keep b9;refine⟨_,rfl,sz9 rfl,fun pt bh=>⟨sz9 rfl,fun po b2=>?_⟩⟩;have f5:FrS [] H4 (upd (upd H4 pt (.tup [V.str "own",V.str kd])) po (.lst [V.ref pt])):=(FrS.new bh).trans (FrS.new b2);have aa:upd (upd H4 pt (.tup [V.str "own",V.str kd])) po (.lst [V.ref pt]) po=some (.lst [V.ref pt]):=zb1;have a5:upd (upd H4 pt (.tup [V.str "own",V.str kd])) po (.lst [V.ref pt]) pt=some (.tup [V.str "own",V.str kd]):=by rw[zb5 (zb4 (o:=.tup [V.str "own",V.str kd]) zb1 b2)];exact zb1
 generalize upd (upd H4 pt (.tup [V.str "own",V.str kd])) po (.lst [V.ref pt])=H5 at f5 aa a5;refine⟨_,rfl,_,rfl,Dl,wp,qs.map V.str,ws.map V.str,rfl,SqL.of (f5 _ _ (by trivial) ai),SqL.of (f5 _ _ (by trivial) w4.2),by rw[lqm,lqm];exact ae,fun zl ts H6 fz cm c5 c6 c3=>?_⟩;have f6:FrS [] H4 H6:=f5.trans fun b o _ e=>fz b o e;rw[lqm]at c6;refine⟨po,zl,_,_,rfl,rfl,fz _ _ aa,c5,by rw[lqm];show 1+↑ts<=sizeLine;exact vb5 (zb8 (by lia)),fun pc ah=>?_⟩;have f7:FrS [] H4 (upd H6 pc (.lst ([V.ref pt]++ts.map V.ref))):=f6.trans (FrS.new ah);have S7:=S4.fr0 f7;refine⟨pc,pt::ts,(Sum.inr "own",.str kd)::(qs.zip ws).map (fun p=>((Sum.inr p.1:Key),V.str p.2)),rfl,SqL.of zb1,?_,?_,fun j t' kv b4 a7=>?_,fun en ay=>?_⟩
 .rw[vc6,vc6,lqm,vw0];lia
 .rw[vc6,lqm,vw0];exact zb8 (by lia)
 .cases j with
  | zero=>
   have a1:pt=t':=by simpa using b4
   have a2:((Sum.inr "own":Key),V.str kd)=kv:=by simpa using a7
   subst a1 a2;exact SqT.of (by rw[zb5 (zb4 (fz _ _ a5) ah)];exact fz _ _ a5)
  | succ j=>
   have a1:ts[j]?=some t':=by simpa using b4
   have a2:((qs.zip ws).map (fun p=>((Sum.inr p.1:Key),V.str p.2)))[j]?=some kv:=by simpa using a7
   obtain⟨x,y,g1,g2,g3⟩:=c3 j t' a1;rw[wz5]at g1 g2 a2;obtain⟨x',bt,rfl⟩:=wz8.mp g1;obtain⟨y',c8,rfl⟩:=wz8.mp g2;obtain⟨p,hp,rfl⟩:=wz8.mp a2;rw[vr7]at hp;obtain⟨z1,z2⟩:=hp;rw[bt]at z1;rw[c8]at z2;cases z1;cases z2;exact SqT.of (by rw[zb5 (zb4 g3 ah)];exact g3)
 have b5:Dl≠en:=zb4 (f7 _ _ (by trivial) ai) ay;have a7:DOk D.U D.names (zf4 [] ((Sum.inr "own",.str kd)::(qs.zip ws).map (fun p=>((Sum.inr p.1:Key),V.str p.2)))):=by
  refine DOk.merge _ DOk.nil fun kv a7=>?_;rcases vb4.mp a7 with rfl | h
  .exact⟨"own",by unfold WD.U;simp,rfl,.inr ⟨kd,b0,rfl⟩⟩
  .obtain⟨p,hp,rfl⟩:=vb9.mp h;have:=vv3 hp;exact⟨p.1,al _ this.1,rfl,.inr ⟨p.2,e5 _ this.2,rfl⟩⟩
 have S8:=S7.open ay a7;have be:Stt (Ms hd en WA) (upd (upd H6 pc (.lst ([V.ref pt]++ts.map V.ref))) en (.dK (zf4 [] ((Sum.inr "own",.str kd)::(qs.zip ws).map (fun p=>((Sum.inr p.1:Key),V.str p.2)))))) Dl (.lst (qs.map V.str)):=by
  refine⟨fun z=>?_,by rw[zb5 b5];exact f7 _ _ (by trivial) ai⟩;simp only[Ms,vb4,wz1,vj2]at z;simp only[M0,vb4,wz1,vj2,not_or]at a8;rcases z with z | z | z | z
  .exact a8.1 z
  .exact b5 z
  .exact a8.2.1 z
  .exact a8.2.2 z
 have bb:∀Hf:Hp,FrS (Ms hd en WA) (upd (upd H6 pc (.lst ([V.ref pt]++ts.map V.ref))) en (.dK (zf4 [] ((Sum.inr "own",.str kd)::(qs.zip ws).map (fun p=>((Sum.inr p.1:Key),V.str p.2)))))) Hf->FrS (M0 hd WA) H Hf:=fun Hf ff=>(b9.trans (f7.mono (by trivial))).trans (FrS.close ay ff)
 generalize upd (upd H6 pc (.lst ([V.ref pt]++ts.map V.ref))) en (.dK (zf4 [] ((Sum.inr "own",.str kd)::(qs.zip ws).map (fun p=>((Sum.inr p.1:Key),V.str p.2)))))=H8 at S8 be bb;obtain⟨d,m,hh⟩:=S8.hand;refine⟨_,rfl,_,rfl,_,rfl,_,rfl,_,rfl,hd,d,m,t4,r,3,rfl,hh,by lia,by decide,by decide,fun x d9 m9 t9 x0 x1 c9 e9=>?_⟩;obtain⟨dp,rfl⟩:∃dp:Nat,x=(dp:Int):=⟨x.toNat,by lia⟩;have S9:=S8.setHand (r':=r) c9;have f9:FrS (Ms hd en WA) H8 (upd H8 hd (hl d9 m9 t9 r)):=FrS.chg (by trivial);refine⟨_,rfl,sz9 rfl,fun pi an=>?_⟩;have Sa:=S9.fr0 (FrS.new (S:=[]) (o:=.lst [V.int 1,V.int 2,V.int 3,V.int 4,V.int 6]) an);have fa:=f9.trans (FrS.new (o:=.lst [V.int 1,V.int 2,V.int 3,V.int 4,V.int 6]) an);have aj:pi≠hd:=fun z=>S9.notin an (by rw[z];simp)
 obtain⟨d,m,hh⟩:=Sa.hand;refine⟨hd,pi,d,m,t9,r,_,rfl,hh,by lia,aj,SqL.of zb1,by simp,by show 5<1000;decide,fun y db mb tb hy cb eb=>?_⟩;obtain⟨mo,rfl,bx,bg⟩:∃mo:Int,y=.int mo/\0<=mo/\mo<=100:=by
  simp only[vb4,wz1,vj2]at hy;rcases hy with rfl | rfl | rfl | rfl | rfl
  .exact⟨1,rfl,by decide,by decide⟩
  .exact⟨2,rfl,by decide,by decide⟩
  .exact⟨3,rfl,by decide,by decide⟩
  .exact⟨4,rfl,by decide,by decide⟩
  .exact⟨6,rfl,by decide,by decide⟩
 have Sb:=Sa.setHand (r':=r) cb;have fb:=fa.put' (a:=hd) (o:=hl db mb tb r) (by trivial);refine⟨hd,en,wd,WA,D,tb,r,(lv:Int),mo,dp,rfl,by lia,bx,bg,Sb,bj,by lia,fun rv bl bv Hc tc rc bk ce a9 Sc fc bu ca cj=>?_⟩;have bn:=fb.trans fc;refine⟨_,rfl,_,rfl,_,rfl,_,rfl,hd,en,wd,WA,D,tc,rc,rfl,Sc,by lia,fun x1 Hd td Sd bd co _=>?_⟩;refine⟨_,rfl,_,rfl,_,rfl,hd,en,wd,WA,D,td,rc,rfl,Sd,by lia,fun x2 He te Se fe cl _=>?_⟩;have c4:=(bn.trans bd).trans fe;refine⟨sz9 rfl,fun pg af=>?_⟩;have Sf:=Se.fr0 (FrS.new (S:=[]) (o:=.lst [V.non,V.str x1,V.str x2]) af);have ff:=c4.trans (FrS.new (o:=.lst [V.non,V.str x1,V.str x2]) af);have ap:pg≠hd:=fun z=>Se.notin af (by rw[z];simp)
 obtain⟨d,m,hh⟩:=Sf.hand;refine⟨hd,pg,d,m,te,rc,_,rfl,hh,by lia,ap,SqL.of zb1,by simp,by show 3<1000;decide,fun gv dg au tg b3 cg eg=>?_⟩;have Sg:=Sf.setHand (r':=rc) cg;have fg:=ff.put' (a:=hd) (o:=hl dg au tg rc) (by trivial);obtain⟨kv,a3,hk⟩:=Sg.env;obtain⟨kt,cc,b6⟩:=Sg.told;obtain⟨ov,as,bi⟩:∃ov:Option V,DAsk (upd (upd He pg (.lst [V.non,V.str x1,V.str x2])) hd (hl dg au tg rc)) en gv ov/\(ov.getD .non=.non\/∃n∈D.names,ov.getD .non=.str n):=by
  simp only[vb4,wz1,vj2]at b3;rcases b3 with rfl | rfl | rfl
  .exact⟨none,⟨kv,.inl a3,.inl ⟨rfl,rfl⟩⟩,.inl rfl⟩
  .exact⟨_,⟨kv,.inl a3,.inr ⟨Sum.inr x1,rfl,rfl⟩⟩,hk.get _⟩
  .exact⟨_,⟨kv,.inl a3,.inr ⟨Sum.inr x2,rfl,rfl⟩⟩,hk.get _⟩
 exists _,rfl,en,rfl,.inl ⟨_,.inl a3⟩,_,rfl,ov,as,_,rfl,wd,_,rfl,Sg.w.g.2.2.2.2.2.2.2.2.1,_,rfl,WA.told,_,rfl,DPut.k (k:=(Sum.inr dn:Key)) cc (zb8 (by have:=b6.len;lia));have Sh:=Sg.setTold (b6.put ao bi);have fh:=fg.put' (a:=WA.told) (o:=.dK (putK kt (Sum.inr dn) (ov.getD .non))) (by trivial);have bq:=be.keep fh;refine⟨_,rfl,_,rfl,Dl,_,rfl,.inl ⟨SqL.of bq.2,fun pq ar=>?_⟩⟩;refine⟨_,rfl,_,rfl,sz9 rfl,fun pr av=>?_⟩;have fk:FrS (Ms hd en WA) Hc (upd (upd (upd He pg (.lst [V.non,V.str x1,V.str x2])) hd (hl dg au tg rc)) WA.told (.dK (putK kt (Sum.inr dn) (ov.getD .non)))):=(((bd.trans fe).trans (FrS.new af)).put' (.head _)).put' (.tail _ (.tail _ (.head _)));have ba:=(Sc.tup fk).trans ((Tup.new ar).trans (Tup.new (o:=.tup [V.str dn,V.ref pq,V.ref rv,gv]) av));exact q pr dn _ gv rv bl bv _ tg rc bc zb1 (ba _ _ bk) (ce.keep ba) a9 ((Sh.fr0 (FrS.new ar)).fr0 (FrS.new av)).close (bb _ ((fh.trans (FrS.new ar)).trans (FrS.new av))) bu ca (by lia)
end
def xz6{K:Fg}{a:Addr}{xs:List V}{g:TG}{tb:TS}{D:Ends}{σ:St}{H:Hp}(Pv:Nat->St->Hp->Prop)(h0:Pv 0 σ H)(hl:∀i σ H,i<=↑xs->Pv i σ H->SqL K H a xs)
  (hs:∀i x p σ H,xs[i]?=some x->Pv i σ H->H p=none->g (.ref p) σ (upd H p (.tup [.int (i:Nat),x])) fun σ2 H2=>tb {D with nx:=Pv (i+1),ct:=Pv (i+1),bk:=D.nx} σ2 H2) (hd:∀σ H,Pv ↑xs σ H->D.nx σ H):
  ∃W:Nat->Nat->St->Hp->Prop,(∃m,W 0 m σ H)/\∀i m σ H,W i m σ H->
   ((Ite K a).stop i H/\D.nx σ H)\/((Ite K a).go i H/\∃N:St->Hp->Prop,(∀σ' H',N σ' H'->∃m',m'<m/\W (i+1) m' σ' H')/\∀x H',(Ite K a).yld i H x H'->g x σ H' fun σ2 H2=>tb {D with nx:=N,ct:=N,bk:=D.nx} σ2 H2):=by
 exists fun i m σ H=>m=↑xs-i/\i<=↑xs/\Pv i σ H,⟨↑xs,by simp,vc9 _,h0⟩;rintro i m σ H ⟨rfl,hi,p⟩;have q:=hl i σ H hi p
 by_cases a0:i<↑xs
 .refine .inr ⟨⟨xs,xs[i],q,by simp[a0]⟩,Pv (i+1),fun σ' H' p'=>⟨↑xs-(i+1),by lia,rfl,a0,p'⟩,fun x H' y=>?_⟩;obtain⟨p2,y2,a1,rfl,rfl,yy⟩:=y;exact hs i y2 p2 σ _ (yy xs q) p a1
 .have e:i=↑xs:=by lia
  subst e;exact .inl ⟨⟨xs,q,wz6 _⟩,hd σ H p⟩
inductive xj2(H:Hp)(hd pn pt pl:Addr)(n:Nat)(way t r:Int)(ws:List Str)(i:Nat)(σ:St)(Hx:Hp):Prop
 | mk(kx nx ex:Option V)(dx mx tx:Int)(tr:Tr)(ts:List Addr)(late:List Str)(h1:σ=[some (.ref hd),some (.int (n:Int)),some (.ref pn),some (.int way),some (.ref pt),some (.ref pl),kx,nx,ex])
   (h2:FrS [hd] H Hx) (h3:Hand Hx hd dx mx tx r) (h4:tx<=t+12+3*(i:Int)) (h5:Hx pn=some (.lst (ws.map V.str))) (h6:Hx pt=some (.lst (ts.map V.ref))) (h7:Hx pl=some (.lst (late.map V.str))) (h8:↑ts=i) (h9:tr.map (·.1)=ws.take i) (h10:TrOk tr)
   (h11:∀(j:Nat) t x,ts[j]?=some t->tr[j]?=some x->Hx t=some (.tup [.str x.1,eldV x.2])) (h12:↑late<=i) (h13:∀x∈late,∃j,1<=j/\j<i/\ws[j]?=some x):xj2 H hd pn pt pl n way t r ws i σ Hx
abbrev wt5:Stmt:=top 22
inductive wh0(vs:List V)(H:Hp)(Q:VK):Prop
 | mk(hd:Addr)(d m t r:Int)(h1:vs=[.ref hd])(h2:Hand H hd d m t r)(h3:t+100<1000000)(h4:∀(a tp lp:Addr)(ts:List Addr)(tr:Tr)(late:List Str)(d' m' t':Int)(H':Hp),FrS [hd] H H'->Hand H' hd d' m' t' r->t'<=t+60->H' a=some (.tup [.ref tp,.ref lp])->H tp=none->H lp=none->H' tp=some (.lst (ts.map V.ref))->↑ts=↑tr->(∀(j:Nat) t x,ts[j]?=some t->tr[j]?=some x->H' t=some (.tup [.str x.1,eldV x.2]))->TrOk tr->tr≠[]->↑tr<=12->H' lp=some (.lst (late.map V.str))->(∀x∈late,x∈tr.map (·.1))->↑late<=12->(∃x∈tr.map (·.1),x∉late)->Q (.ref a) H'):wh0  vs H Q
def xm6:Sp:=fun vs H Q _=>wh0  vs H Q
section
abbrev nTree:List Str:=[qH,"_law_many","_law_names","_law_way","_law_tree_here","_law_late","_law_k","_law_name","_law_elder"]
def zp7:zd0 nTree [qH] (zc1 wt5):=fsc
def wn6(F:Fun K "_law_tree" "_law_tree" wt5 f fd)(T:Cal P w K mg base k "_law_take" qB zh6)(O:Cal P w K mg base k "_law_of" qC (spOf K))(W:Cal P w K mg base k "_law_words" qB yj8)(ml:mg "len"=none)(me:mg "enumerate"=none):FnOk P w K mg base CX0 (k+1) f fd [qH] xm6:=by
 refine F.ok zp7 (fun vs H Q E h=>?_) (fun cr A outer s H vs Q E hr h=>?_)
 .obtain⟨hd,d,m,t,r,rfl,_⟩:=h;rfl
 obtain⟨hd,d,m,t,r,rfl,hh,ht,q⟩:=h;have hu:=zn5 hr;exists _,zb3 (sL 1 zp7.nd (zb9 O hr rfl (zb0 (pv 0) (zb0 (zd7 (zf3 (zf3 (zf3 (zf3 (zf3 (zf3 (zf3 (zf3 zb2))))))))) zb2))))
  (zb3 (sL 2 zp7.nd (zb9 W hr rfl (zb0 (pv 0) (zb0 (pv 1) zb2))))
  (zb3 (sL 3 zp7.nd (zb9 T hr rfl (zb0 (pv 0) (zb0 zb6 zb2))))
  (zb3 (sL 4 zp7.nd (zd7 zb2))
  (zb3 (sL 5 zp7.nd (zd7 zb2))
  (zb3 (zf9 vd5 rfl (xn3 rfl me (zb0 (pv 2) zb2)) (zh4 (n:=2) rfl (zc0 (gL 6 zp7.nd) (zc0 (gL 7 zp7.nd) zf8)))
   (zb3 (sL 8 zp7.nd yp6)
   (zb3 (zg8 (PW.pt (zk5 (zc2 yk4 (pv 6) zb6 (zd6 _)) (zk2 (zc2 yk4 (zb9 T hr rfl (zb0 (pv 0) (zb0 zb6 zb2))) zb6 (zd6 _)))))
    (zb7 (sL 8 zp7.nd (eI (pv 2) (eI (zd7 (zb0 (zf2 zw9 (pv 6) zb6) (zb0 zb6 (zb0 (zf2 yc2 (zf2 zw9 (pv 6) zb6) zb6) (zb0 (zb9 T hr rfl (zb0 (pv 0) (zb0 (pv 6) zb2))) zb2))))) (pv 3))))) zd4)
   (zb3 (zg8 (PW.pt (zk5 (zc2 zg4 (pv 8) (pv 5) rfl) (zk2 (zc2 zn2 (zc5 zd5 rfl ml vg7 (zb0 (pv 5) zb2)) zb6 (zd6 _))))) (zb7 (sL 8 zp7.nd yp6)) zd4)
   (zb3 (zg8 (PW.pt (xh7 (zc2 zg4 (pv 8) (pv 5) rfl) (yh3 (PW.pt (zk5 (zc2 xh2 (zc5 zd5 rfl ml vg7 (zb0 (pv 5) zb2)) zb6 (zd6 _)) (zk5 (zc2 yk4 (pv 6) zb6 (zd6 _)) (zk2 (zc2 zn2 (zb9 T hr rfl (zb0 (pv 0) (zb0 zb6 zb2))) zb6 (zd6 _)))))))))
    (zb7 (zf5 (zk8 vd2 vd9 vf0 zd8 (pv 5) (zb0 (pv 7) zb2)))) zd4)
   (zb7 (zf5 (zk8 vd2 vd9 vf0 zd8 (pv 4) (zb0 (zf1 (zb0 (pv 7) (zb0 (pv 8) zb2))) zb2)))))))))
  (zb7 (zd1 (zf1 (zb0 (pv 4) (zb0 (pv 5) zb2))))))))))
 ac_rfl
 refine⟨_,rfl,sz9 rfl,fun p0 bd=>?_⟩;have co:p0≠hd:=fun z=>by rw[z,hh.1]at bd;cases bd
 have cg:Hand (upd H p0 (.lst [V.int 1,V.int 2,V.int 3,V.int 4,V.int 5,V.int 6,V.int 8,V.int 12])) hd d m t r:=hh.new bd;have f0:FrS [hd] H (upd H p0 (.lst [V.int 1,V.int 2,V.int 3,V.int 4,V.int 5,V.int 6,V.int 8,V.int 12])):=FrS.new bd;have ce:upd H p0 (.lst [V.int 1,V.int 2,V.int 3,V.int 4,V.int 5,V.int 6,V.int 8,V.int 12]) p0=some (.lst [V.int 1,V.int 2,V.int 3,V.int 4,V.int 5,V.int 6,V.int 8,V.int 12]):=zb1;generalize upd H p0 (.lst [V.int 1,V.int 2,V.int 3,V.int 4,V.int 5,V.int 6,V.int 8,V.int 12])=H0 at cg f0 ce;refine⟨hd,p0,d,m,t,r,_,rfl,cg,by lia,co,SqL.of ce,by simp,by show 8<1000;decide,fun x d1 m1 t1 hx c1 e1=>?_⟩;obtain⟨n,rfl,n1,cq⟩:∃n:Nat,x=.int (n:Int)/\1<=n/\n<=12:=by
  simp only[vb4,wz1,vj2]at hx;rcases hx with rfl | rfl | rfl | rfl | rfl | rfl | rfl | rfl
  .exact⟨1,rfl,by decide,by decide⟩
  .exact⟨2,rfl,by decide,by decide⟩
  .exact⟨3,rfl,by decide,by decide⟩
  .exact⟨4,rfl,by decide,by decide⟩
  .exact⟨5,rfl,by decide,by decide⟩
  .exact⟨6,rfl,by decide,by decide⟩
  .exact⟨8,rfl,by decide,by decide⟩
  .exact⟨12,rfl,by decide,by decide⟩
 have f1:FrS [hd] H (upd H0 hd (hl d1 m1 t1 r)):=f0.put' (by trivial);have c8:Hand (upd H0 hd (hl d1 m1 t1 r)) hd d1 m1 t1 r:=Hand.at c1;generalize upd H0 hd (hl d1 m1 t1 r)=H1 at f1 c8;refine⟨_,rfl,_,rfl,hd,d1,m1,t1,r,n,rfl,c8,by lia,cq,fun pn ws d2 m2 t2 H2 f2 cd cw cx b5 cs c6=>?_⟩;have cp:=f1.trans f2;refine⟨_,rfl,hd,d2,m2,t2,r,4,rfl,cd,by lia,by decide,by decide,fun a9 d3 m3 t3 w0 w1 c3 e3=>?_⟩;have bq:FrS [hd] H (upd H2 hd (hl d3 m3 t3 r)):=cp.put' (by trivial);have bo:Hand (upd H2 hd (hl d3 m3 t3 r)) hd d3 m3 t3 r:=Hand.at c3;have al:upd H2 hd (hl d3 m3 t3 r) pn=some (.lst (ws.map V.str)):=by rw[zb5 (zh9 b5 cd)];exact b5
 generalize upd H2 hd (hl d3 m3 t3 r)=H3 at bq bo al;refine⟨vc9 _,fun pt b7=>?_⟩;have bj:=bo.new (o:=.lst []) b7;have br:FrS [hd] H (upd H3 pt (.lst [])):=bq.trans (FrS.new b7);have ai:upd H3 pt (.lst []) pn=some (.lst (ws.map V.str)):=by rw[zb5 (zb4 al b7)];exact al
 have ao:upd H3 pt (.lst []) pt=some (.lst []):=zb1;have ap:H pt=none:=zw7 bq bo b7;have bv:pn≠pt:=zb4 al b7;generalize upd H3 pt (.lst [])=H4 at bj br ai ao;refine⟨vc9 _,fun pl ay=>?_⟩;have bm:=bj.new (o:=.lst []) ay;have c9:FrS [hd] H (upd H4 pl (.lst [])):=br.trans (FrS.new ay);have aj:upd H4 pl (.lst []) pn=some (.lst (ws.map V.str)):=by rw[zb5 (zb4 ai ay)];exact ai
 have bc:upd H4 pl (.lst []) pt=some (.lst []):=by rw[zb5 (zb4 ao ay)];exact ao
 have bb:upd H4 pl (.lst []) pl=some (.lst []):=zb1;have af:H pl=none:=zw7 br bj ay;have c5:pn≠pl:=zb4 ai ay;have b9:pt≠pl:=zb4 ao ay;generalize upd H4 pl (.lst [])=H5 at bm c9 aj bc bb;have b3:pn≠hd:=zh9 aj bm;have ag:pt≠hd:=fun z=>by rw[z,hh.1]at ap;cases ap
 have aq:pl≠hd:=fun z=>by rw[z,hh.1]at af;cases af
 exists _,rfl,pn,_,rfl,SqL.of aj;refine xz6 (xs:=ws.map V.str) (xj2 H hd pn pt pl n a9 t r ws)
  ⟨_,_,_,d3,m3,t3,[],[],[],rfl,c9,bm,by lia,aj,bc,bb,rfl,rfl,TrOk.nil,(fun j t x h=>by simp at h),by simp,by simp⟩ ?_ ?_ ?_
 .rintro i σ Hx hi ⟨_,_,_,_,_,_,_,_,_,_,_,_,_,ah,_⟩;exact SqL.of ah
 .rintro i x p σ Hx hx ⟨kx,nx,ex,dx,mx,tx,tr,ts,late,rfl,fx,bx,ca,ah,az,b2,bt,ad,hok,bp,cf,b4⟩ hp;obtain⟨hi,_⟩:=wz2.mp hx;rw[lqm]at hi;rw[wz5,zz2 hi]at hx;cases hx;have cb:ws[i]?=some ws[i]:=zz2 hi;exists p,_,rfl,SqT.of zb1,rfl,_,_,rfl,_,_,rfl,rfl;have keep:∀b o,Hx b=some o->upd Hx p (.tup [V.int (i:Nat),V.str ws[i]]) b=some o:=fun b o e=>by rw[zb5 (zb4 e hp)];exact e
  have bf:FrS [hd] H (upd Hx p (.tup [V.int (i:Nat),V.str ws[i]])):=fx.trans (FrS.new hp);have ac:Hand (upd Hx p (.tup [V.int (i:Nat),V.str ws[i]])) hd dx mx tx r:=bx.new hp;have as:∀(j:Nat) t x,ts[j]?=some t->tr[j]?=some x->upd Hx p (.tup [V.int (i:Nat),V.str ws[i]]) t=some (.tup [.str x.1,eldV x.2]):=fun j t x a b=>keep _ _ (bp j t x a b);have ak:=keep _ _ ah;have am:=keep _ _ az;have ar:=keep _ _ b2;generalize upd Hx p (.tup [V.int (i:Nat),V.str ws[i]])=Hy at bf ac as ak am ar;have c7:∀(e:Option Str)(a6:List Str)(Hz:Hp)(dz mz tz:Int),(∀x,e=some x->x∈ws.take i)->FrS [hd] H Hz->Hand Hz hd dz mz tz r->tz<=t+12+3*((i+1:Nat):Int)->Hz pn=some (.lst (ws.map V.str))->Hz pt=some (.lst (ts.map V.ref))->Hz pl=some (.lst (a6.map V.str))->
    (∀(j:Nat) t x,ts[j]?=some t->tr[j]?=some x->Hz t=some (.tup [.str x.1,eldV x.2]))->↑a6<=i+1->(∀x∈a6,∃j,1<=j/\j<i+1/\ws[j]?=some x)->
    xk7 (tBM K "list" zw0 (tVar 4) (zc3 (tTup (zc3 (tVar 7) (zc3 (tVar 8) tNil))) tNil))
    ⟨xj2 H hd pn pt pl n a9 t r ws (i+1),fun _ _=>False,fun _ _=>False,fun _ _=>False⟩
    [some (.ref hd),some (.int (n:Int)),some (.ref pn),some (.int a9),some (.ref pt),some (.ref pl),some (.int (i:Nat)),some (.str ws[i]),some (eldV e)] Hz:=by
   intro e a6 Hz dz mz tz he fz ae bu a7 a5 a0 a8 ck bn;refine⟨_,rfl,.inl ⟨rfl,_,SqL.of a5⟩,_,rfl,_,rfl,sz9 rfl,fun pp av=>?_⟩;have b6:upd Hz pp (.tup [V.str ws[i],eldV e]) pt=some (.lst (ts.map V.ref)):=by rw[zb5 (zb4 a5 av)];exact a5
   have bz:pp≠pt:=fun z=>by rw[z,a5]at av;cases av
   have hn:ws[i]∉tr.map (·.1):=by
    rw[ad];intro hm;obtain⟨j,hj,ej⟩:=vf8 hm;rw[vc2]at hj;rw[vq5]at ej;have:=(vx3 c6).mp ej;lia
   refine⟨pt,_,_,rfl,rfl,b6,by rw[lqm];exact zb8 (by lia),_,_,_,dz,mz,tz,tr++[(ws[i],e)],ts++[pp],a6,rfl,(fz.trans (FrS.new av)).put ap,?_,bu,?_,?_,?_,?_,?_,?_,?_,ck,bn⟩
   .exact⟨by rw[zb5 ag.symm,zb5 (zb4 ae.1 av)];exact ae.1,ae.2⟩
   .rw[zb5 bv,zb5 (zb4 a7 av)];exact a7
   .rw[zb1,wz9];rfl
   .rw[zb5 b9.symm,zb5 (zb4 a0 av)];exact a0
   .rw[wz4,bt];rfl
   .rw[wz9,ad,vc5,cb];rfl
   .exact hok.snoc hn fun x hx=>by rw[ad];exact he x hx
   .intro j t' x au hx;have bi:↑tr=↑ts:=by
     have:=vg1 List.length ad;rw[lqm,vc2]at this;lia
    by_cases hj:j<↑ts
    .rw[vh8 hj]at au;rw[vh8 (by lia)]at hx;have h3:=a8 j t' x au hx;have h4:upd Hz pp (.tup [V.str ws[i],eldV e]) t'=some (.tup [.str x.1,eldV x.2]):=by rw[zb5 (zb4 h3 av)];exact h3
     rw[zb5 (fun z=>by rw[z,b6]at h4;cases h4)];exact h4
    .rw[vk0 (by lia)]at au;rw[vk0 (by lia),bi]at hx;have h0:j-↑ts=0:=by
      cases hz:j-↑ts with
      | zero=>rfl
      | succ k=>rw[hz]at au;simp at au
     rw[h0]at au hx;simp only[vt0,ub8]at au hx;subst au hx;rw[zb5 bz];exact zb1
  have bs:∀(e:Option Str)(Hz:Hp)(dz mz tz:Int),(∀x,e=some x->x∈ws.take i)->(i=0->e=none)->FrS [hd] H Hz->Hand Hz hd dz mz tz r->tz<=t+14+3*(i:Int)->Hz pn=some (.lst (ws.map V.str))->Hz pt=some (.lst (ts.map V.ref))->Hz pl=some (.lst (late.map V.str))->
    (∀(j:Nat) t x,ts[j]?=some t->tr[j]?=some x->Hz t=some (.tup [.str x.1,eldV x.2]))->
    tSeq (tIfS (tOr (zp4 (tOp (rIn K false) (tVar 8) (tVar 5))) (tAnd (zp4 (tOp (rI0 fun i j=>.bl (decide (i<j))) (tCB (fun xs H Q=>∃p ys,xs=[.ref p]/\(SqL K H p ys\/SqT K H p ys)/\Q (.int ↑ys) H) (zc3 (tVar 5) tNil)) (tC (.int 6)))) (tAnd (zp4 (tOp (rI0 fun i j=>.bl (decide (j<i))) (tVar 6) (tC (.int 0)))) (zp4 (tOp rEq (zm8 zh6 [] E0 (zc3 (tVar 0) (zc3 (tC (.int 4)) tNil))) (tC (.int 0)))))))
     (xk7 (tBM K "list" zw0 (tVar 5) (zc3 (tVar 7) tNil))) yx8)
    (xk7 (tBM K "list" zw0 (tVar 4) (zc3 (tTup (zc3 (tVar 7) (zc3 (tVar 8) tNil))) tNil)))
    ⟨xj2 H hd pn pt pl n a9 t r ws (i+1),fun _ _=>False,fun _ _=>False,fun _ _=>False⟩
    [some (.ref hd),some (.int (n:Int)),some (.ref pn),some (.int a9),some (.ref pt),some (.ref pl),some (.int (i:Nat)),some (.str ws[i]),some (eldV e)] Hz:=by
   intro e Hz dz mz tz he be fz ae bu a7 a5 a0 a8;have fl:yc9 (eldV e)=true:=by cases e <;> rfl
   have app:1<=i->∀(Hv:Hp)(dv mv tv:Int),FrS [hd] H Hv->Hand Hv hd dv mv tv r->tv<=t+15+3*(i:Int)->Hv pn=some (.lst (ws.map V.str))->Hv pt=some (.lst (ts.map V.ref))->Hv pl=some (.lst (late.map V.str))->
     (∀(j:Nat) t x,ts[j]?=some t->tr[j]?=some x->Hv t=some (.tup [.str x.1,eldV x.2]))->_:=fun h1 Hv dv mv tv fv aa ch a4 a3 a1 a2=>
    c7 e (late++[ws[i]]) (upd Hv pl (.lst (late.map V.str++[V.str ws[i]]))) dv mv tv he (fv.put af) ⟨by rw[zb5 aq.symm];exact aa.1,aa.2⟩ (by lia) (by rw[zb5 c5];exact a4) (by rw[zb5 b9];exact a3) (by rw[zb1,wz9];rfl)
     (fun j t x a b=>by have h3:=a2 j t x a b;rw[zb5 (fun z=>by rw[z,a1]at h3;cases h3)];exact h3) (by rw[wz4,vc1];lia)
     (fun x hx=>by
      rcases vc4.mp hx with h | h
      .obtain⟨j,j1,j2,j3⟩:=b4 x h;exact⟨j,j1,by lia,j3⟩
      .rw[vc7.mp h];exact⟨i,h1,by lia,cb⟩)
   have bh:∀(Hv:Hp)(dv mv tv:Int),FrS [hd] H Hv->Hand Hv hd dv mv tv r->tv<=t+15+3*(i:Int)->Hv pn=some (.lst (ws.map V.str))->Hv pt=some (.lst (ts.map V.ref))->Hv pl=some (.lst (late.map V.str))->
     (∀(j:Nat) t x,ts[j]?=some t->tr[j]?=some x->Hv t=some (.tup [.str x.1,eldV x.2]))->_:=fun Hv dv mv tv fv aa ch a4 a3 a1 a2=>
    c7 e late Hv dv mv tv he fv aa (by lia) a4 a3 a1 a2 (by lia) (fun x hx=>by
      obtain⟨j,j1,j2,j3⟩:=b4 x hx;exact⟨j,j1,by lia,j3⟩)
   exists _,rfl,_,rfl,pl,_,rfl,.inl (SqL.of a0),fl,zg0 _,_,rfl;refine ite2 (fun c=>?_) (fun c=>?_)
   .have h1:1<=i:=by
     rcases Nat.eq_zero_or_pos i with h | h
     .exfalso;rw[be h]at c;have:late=[]:=vq0.mp (by lia);rw[this]at c;cases c
     .exact h
    exact⟨_,rfl,.inl ⟨rfl,_,SqL.of a0⟩,_,rfl,pl,_,_,rfl,rfl,a0,by rw[lqm];exact zb8 (by lia),app h1 Hz dz mz tz fz ae (by lia) a7 a5 a0 a8⟩
   .exists _,rfl,pl,_,rfl,.inl (SqL.of a0),_,_,rfl,rfl,_,rfl;refine ite2 (fun c2=>?_) (fun c2=>bh Hz dz mz tz fz ae (by lia) a7 a5 a0 a8);exists _,rfl,_,_,rfl,rfl,_,rfl;refine ite2 (fun c3=>?_) (fun c3=>bh Hz dz mz tz fz ae (by lia) a7 a5 a0 a8);have h1:(0:Int)<(i:Int):=vb3 c3;refine⟨_,rfl,hd,dz,mz,tz,r,4,rfl,ae,by lia,by decide,by decide,fun y dv mv tv y0 y1 cv ev=>⟨rfl,_,rfl,?_⟩⟩;have aa:Hand (upd Hz hd (hl dv mv tv r)) hd dv mv tv r:=Hand.at cv;have fv:FrS [hd] H (upd Hz hd (hl dv mv tv r)):=fz.put' (by trivial);have a4:upd Hz hd (hl dv mv tv r) pn=some (.lst (ws.map V.str)):=by rw[zb5 b3];exact a7
    have a3:upd Hz hd (hl dv mv tv r) pt=some (.lst (ts.map V.ref)):=by rw[zb5 ag];exact a5
    have a1:upd Hz hd (hl dv mv tv r) pl=some (.lst (late.map V.str)):=by rw[zb5 aq];exact a0
    have a2:∀(j:Nat) t x,ts[j]?=some t->tr[j]?=some x->upd Hz hd (hl dv mv tv r) t=some (.tup [.str x.1,eldV x.2]):=fun j t x a b=>by
     have h3:=a8 j t x a b;rw[zb5 (fun z=>by rw[z,ae.1]at h3;cases h3)];exact h3
    refine ite2 (fun c4=>?_) (fun c4=>bh _ dv mv tv fv aa (by lia) a4 a3 a1 a2);exact⟨_,rfl,.inl ⟨rfl,_,SqL.of a1⟩,_,rfl,pl,_,_,rfl,rfl,a1,by rw[lqm];exact zb8 (by lia),app (by lia) _ dv mv tv fv aa (by lia) a4 a3 a1 a2⟩
  have b0:∀(e:Option Str)(Hz:Hp)(dz mz tz:Int),(∀x,e=some x->x∈ws.take i)->(i=0->e=none)->FrS [hd] H Hz->Hand Hz hd dz mz tz r->tz<=t+14+3*(i:Int)->Hz pn=some (.lst (ws.map V.str))->Hz pt=some (.lst (ts.map V.ref))->Hz pl=some (.lst (late.map V.str))->
    (∀(j:Nat) t x,ts[j]?=some t->tr[j]?=some x->Hz t=some (.tup [.str x.1,eldV x.2]))->∀R:TS,(∀e':Option Str,(∀x,e'=some x->x∈ws.take i)->(i=0->e'=none)->R ⟨xj2 H hd pn pt pl n a9 t r ws (i+1),fun _ _=>False,fun _ _=>False,fun _ _=>False⟩ [some (.ref hd),some (.int (n:Int)),some (.ref pn),some (.int a9),some (.ref pt),some (.ref pl),some (.int (i:Nat)),some (.str ws[i]),some (eldV e')] Hz)->
    tSeq (tIfS (tAnd (zp4 (tOp (rIn K false) (tVar 8) (tVar 5))) (zp4 (tOp rEq (tCB (fun xs H Q=>∃p ys,xs=[.ref p]/\(SqL K H p ys\/SqT K H p ys)/\Q (.int ↑ys) H) (zc3 (tVar 5) tNil)) (tC (.int 6))))) (tAsg (tC .non) (zf0 8)) yx8) R
    ⟨xj2 H hd pn pt pl n a9 t r ws (i+1),fun _ _=>False,fun _ _=>False,fun _ _=>False⟩
    [some (.ref hd),some (.int (n:Int)),some (.ref pn),some (.int a9),some (.ref pt),some (.ref pl),some (.int (i:Nat)),some (.str ws[i]),some (eldV e)] Hz:=by
   intro e Hz dz mz tz he be fz ae bu a7 a5 a0 a8 R hR;have fl:yc9 (eldV e)=true:=by cases e <;> rfl
   exists _,rfl,_,rfl,pl,_,rfl,.inl (SqL.of a0),fl,zg0 _,_,rfl;refine ite2 (fun c=>?_) (fun c=>hR e he be);exists _,rfl,pl,_,rfl,.inl (SqL.of a0),rfl,_,rfl;refine ite2 (fun c=>?_) (fun c=>hR e he be);exact hR none (fun x hx=>nomatch hx) (fun _=>rfl)
  exists _,rfl,_,_,rfl,rfl,_,rfl;refine ite2 (fun c=>?_) (fun c=>?_)
  rotate_left
  .exact b0 none Hy dx mx tx (fun x hx=>nomatch hx) (fun _=>rfl) bf ac (by lia) ak am ar as _ fun e' b8 ab=>bs e' Hy dx mx tx b8 ab bf ac (by lia) ak am ar as
  have ct:(0:Int)<(i:Int):=vb3 c;refine⟨_,rfl,hd,dx,mx,tx,r,6,rfl,ac,by lia,by decide,by decide,fun y dv mv tv y0 y1 cv ev=>⟨_,_,rfl,rfl,_,rfl,?_⟩⟩;have aa:Hand (upd Hy hd (hl dv mv tv r)) hd dv mv tv r:=Hand.at cv;have fv:FrS [hd] H (upd Hy hd (hl dv mv tv r)):=bf.put' (by trivial);have a4:upd Hy hd (hl dv mv tv r) pn=some (.lst (ws.map V.str)):=by rw[zb5 b3];exact ak
  have a3:upd Hy hd (hl dv mv tv r) pt=some (.lst (ts.map V.ref)):=by rw[zb5 ag];exact am
  have a1:upd Hy hd (hl dv mv tv r) pl=some (.lst (late.map V.str)):=by rw[zb5 aq];exact ar
  have a2:∀(j:Nat) t x,ts[j]?=some t->tr[j]?=some x->upd Hy hd (hl dv mv tv r) t=some (.tup [.str x.1,eldV x.2]):=fun j t x a b=>by
   have h3:=as j t x a b;rw[zb5 (fun z=>by rw[z,ac.1]at h3;cases h3)];exact h3
  generalize upd Hy hd (hl dv mv tv r)=Hv at aa fv a4 a3 a1 a2;refine ite2 (fun c=>?_) (fun c=>?_)
  rotate_left
  .exact b0 none Hv dv mv tv (fun x hx=>nomatch hx) (fun _=>rfl) fv aa (by lia) a4 a3 a1 a2 _ fun e' b8 ab=>bs e' Hv dv mv tv b8 ab fv aa (by lia) a4 a3 a1 a2
  refine⟨_,rfl,_,rfl,_,_,rfl,rfl,_,rfl,_,_,rfl,rfl,_,_,rfl,rfl,⟨by decide,by decide⟩,_,rfl,_,rfl,hd,dv,mv,tv,r,_,rfl,aa,by lia,by lia,by lia,fun z du mu tu z0 z1 cu eu=>⟨sz9 rfl,fun p4 bw=>?_⟩⟩;have c0:Hand (upd Hv hd (hl du mu tu r)) hd du mu tu r:=Hand.at cu;have cm:FrS [hd] H (upd Hv hd (hl du mu tu r)):=fv.put' (by trivial);have kp:∀b o,b≠hd->Hv b=some o->upd (upd Hv hd (hl du mu tu r)) p4 (.lst [V.int ((i:Int)-1),V.int 0,V.int (((i:Int)-1) / 2),V.int z]) b=some o:=fun b o n e=>by
   have h1:upd Hv hd (hl du mu tu r) b=some o:=by rw[zb5 n];exact e
   rw[zb5 (zb4 h1 bw)];exact h1
  have bg:=c0.new (o:=.lst [V.int ((i:Int)-1),V.int 0,V.int (((i:Int)-1) / 2),V.int z]) bw;have fu:FrS [hd] H (upd (upd Hv hd (hl du mu tu r)) p4 (.lst [V.int ((i:Int)-1),V.int 0,V.int (((i:Int)-1) / 2),V.int z])):=cm.trans (FrS.new bw);have cc:upd (upd Hv hd (hl du mu tu r)) p4 (.lst [V.int ((i:Int)-1),V.int 0,V.int (((i:Int)-1) / 2),V.int z]) p4=some (.lst [V.int ((i:Int)-1),V.int 0,V.int (((i:Int)-1) / 2),V.int z]):=zb1;have an:=kp _ _ b3 a4;have aw:=kp _ _ ag a3;have b1:=kp _ _ aq a1;have ax:∀(j:Nat) t x,ts[j]?=some t->tr[j]?=some x->upd (upd Hv hd (hl du mu tu r)) p4 (.lst [V.int ((i:Int)-1),V.int 0,V.int (((i:Int)-1) / 2),V.int z]) t=some (.tup [.str x.1,eldV x.2]):=fun j t x a b=>by
   have h3:=a2 j t x a b;exact kp _ _ (fun w=>by rw[w,aa.1]at h3;cases h3) h3
  generalize upd (upd Hv hd (hl du mu tu r)) p4 (.lst [V.int ((i:Int)-1),V.int 0,V.int (((i:Int)-1) / 2),V.int z])=Hu at bg fu cc an aw b1 ax;obtain⟨ix,cj,cy,cn⟩:∃ix:Nat,atI [V.int ((i:Int)-1),V.int 0,V.int (((i:Int)-1) / 2),V.int z] a9=some (.int (ix:Int))/\0<=ix/\ix<i:=by
   have hc:a9=0\/a9=1\/a9=2\/a9=3:=by lia
   rcases hc with rfl | rfl | rfl | rfl
   .exact⟨i-1,by rw[at0];congr 2;lia,by lia,by lia⟩
   .exact⟨0,by rw[at1];rfl,by lia,by lia⟩
   .exact⟨(((i:Int)-1) / 2).toNat,by rw[at2];congr 2;lia,by lia,by lia⟩
   .exact⟨z.toNat,by rw[at3];congr 2;lia,by lia,by lia⟩
  have ci:atI (ws.map V.str) (ix:Int)=some (.str (ws[ix]'(by lia))):=zr3 (by rw[wz5,zz2 (by lia)];rfl);exists _,rfl,p4,_,_,_,rfl,rfl,SqL.of cc,cj,pn,_,_,_,rfl,rfl,SqL.of an,ci;have cl:∀x,some (ws[ix]'(by lia))=some x->x∈ws.take i:=fun x hx=>by
   cases hx;have:(ws.take i)[ix]?=some (ws[ix]'(by lia)):=by rw[List.getElem?_take_of_lt cn];exact zz2 (by lia)
   exact vb0 this
  exact b0 (some (ws[ix]'(by lia))) Hu du mu tu cl (fun h=>by lia) fu bg (by lia) an aw b1 ax _ fun e' b8 ab=>bs e' Hu du mu tu b8 ab fu bg (by lia) an aw b1 ax
 .rintro σ Hx ⟨kx,nx,ex,dx,mx,tx,tr,ts,late,rfl,fx,bx,ca,ah,az,b2,bt,ad,hok,bp,cf,b4⟩;rw[lqm]at ca bt ad cf b4;rw[vb2 (wz6 _)]at ad;have ba:↑tr=↑ws:=by rw[<-ad,lqm]
  refine⟨_,rfl,_,rfl,sz9 rfl,fun pa bk=>?_⟩;have kp:∀b o,Hx b=some o->upd Hx pa (.tup [V.ref pt,V.ref pl]) b=some o:=fun b o e=>by rw[zb5 (zb4 e bk)];exact e
  refine q pa pt pl ts tr late dx mx tx _ (fx.trans (FrS.new bk)) (bx.new bk) (by lia) zb1 ap af (kp _ _ az) (by lia) (fun j t x a b=>kp _ _ (bp j t x a b)) hok ?_ (by lia) (kp _ _ b2) ?_ (by lia) ?_
  .intro z;rw[z]at ba;simp at ba;lia
  .intro x hx;obtain⟨j,_,_,j3⟩:=b4 x hx;rw[ad];exact vb0 j3
  .have h0:0<↑ws:=by lia
   refine⟨ws[0],by rw[ad];exact vg6 h0,fun hm=>?_⟩;obtain⟨j,j1,j2,j3⟩:=b4 _ hm;obtain⟨j4,j5⟩:=wz2.mp j3;have:=(vx3 c6).mp j5;lia
end
inductive VF where
 | var (x:Str)
 | cut (x:Str) (lo hi:Option Int)
 | dict0
deriving DecidableEq
def yg0:Option Expr->Option (Option Int)
 | none=>some none
 | some (.Constant (.int i) _ _)=>some (some i)
 | _=>none
def ym8:Expr->Option VF
 | .Name x _=>some (.var x)
 | .Subscript (.Name x _) (.Slice lo hi none _) _=>match yg0 lo,yg0 hi with
  | some a,some b=>some (.cut x a b)
  | _,_=>none
 | .Dict [] [] _=>some .dict0
 | _=>none
def zv1:List (Option Expr)->List Expr->Option (List (Str×VF))
 | [],[]=>some []
 | some (.Constant (.str x) _ _)::ks,v::vs=>match ym8 v,zv1 ks vs with
  | some f,some r=>some ((x,f)::r)
  | _,_=>none
 | _,_=>none
def xd0:Expr->Option (List (Str×VF))
 | .Dict ks vs _=>zv1 ks vs
 | _=>none
def xf6:List Stmt->Expr
 | [.Return (some v) _]=>v
 | _::r=>xf6 r
 | []=>.Constant .none 0 ⟨0,0,0,0⟩
def wk6:List Stmt->Expr->List Stmt
 | [.Return (some _) p],v=>[.Return (some v) p]
 | a::r,v=>a::wk6 r v
 | [],_=>[]
section
structure VarAt(X:Cx)(i:Nat)(x:Str):Prop where
 n:X.N[i]?=some x
 v:Vis X.env.scope x
 d:(x == ("__debug__":Str))=false
 c:(x == ("__classdict__":Str))=false
def tOpt:Option Int->TO
 | none=>xp9
 | some i=>tPart (tC (.int i))
def xp4(h:yg0 e=some o):PO X e (tOpt o):=by
 cases e with
 | none=>cases h;exact zm9
 | some e=>
  cases e with
  | Constant c j pos=>
   cases c with
   | int i=>cases h;exact zm7 zb6
   | _=>cases h
  | _=>cases h
inductive FTE(X:Cx):VF->TE->Prop
 | var {i:Nat} {x:Str} (h:VarAt X i x):FTE X (.var x) (tVar i)
 | cut {i:Nat} {x:Str} {lo hi:Option Int} (h:VarAt X i x):FTE X (.cut x lo hi) (tSl (rSlL X.K) (tVar i) (tOpt lo) (tOpt hi))
 | dict0:FTE X .dict0 wj8
def wn1{f:VF}(h:ym8 e=some f)(ht:FTE X f t):PE X e t:=by
 cases e with
 | Name x p=>
  cases h;cases ht with
  | var h=>exact xr1 h.n h.v h.d h.c
 | Subscript a b pos=>
  cases a with
  | Name x p=>
   cases b with
   | Slice lo hi st p2=>
    cases st with
    | some z=>cases h
    | none=>
     have h:(match yg0 lo,yg0 hi with | some a,some b=>some (VF.cut x a b) | _,_=>none)=some f:=h;cases h1:yg0 lo with
     | none=>rw[h1]at h;cases h
     | some a=>
      cases h2:yg0 hi with
      | none=>rw[h1,h2]at h;cases h
      | some b=>
       rw[h1,h2]at h;cases h;cases ht with
       | cut q=>exact zj9 zv4 (xr1 q.n q.v q.d q.c) (xp4 h1) (xp4 h2)
   | _=>cases h
  | _=>cases h
 | Dict ks vs pos=>
  cases ks with
  | nil=>
   cases vs with
   | nil=>
    cases h;cases ht;exact zq5
   | cons _ _=>cases h
  | cons _ _=>cases h
 | _=>cases h
inductive FTs(X:Cx):List (Str×VF)->List (TE×TE)->Prop
 | nil:FTs X [] []
 | cons {x:Str} {f:VF} {t:TE} {fs:List (Str×VF)} {ts:List (TE×TE)} (h:FTE X f t) (r:FTs X fs ts):FTs X ((x,f)::fs) ((tC (.str x),t)::ts)
def xc7:∀(ks:List (Option Expr))(vs:List Expr)(fs:List (Str×VF))(ts:List (TE×TE)),zv1 ks vs=some fs->FTs X fs ts->PPs X pos ks vs ts/\ks.all (·.isSome)=true/\↑ks=↑vs/\↑ks=↑fs
 | [],[],fs,ts,h,q=>by
  cases h;cases q;exact⟨xp0,rfl,rfl,rfl⟩
 | [],_::_,fs,ts,h,q=>by cases h
 | none::_,_,fs,ts,h,q=>by
  cases h
 | some k::ks,[],fs,ts,h,q=>by
  cases k with
  | Constant c j p=>cases c <;> cases h
  | _=>cases h
 | some k::ks,v::vs,fs,ts,h,q=>by
  cases k with
  | Constant c j p=>
   cases c with
   | str x=>
    have h:(match ym8 v,zv1 ks vs with | some f,some r=>some ((x,f)::r) | _,_=>none)=some fs:=h;cases h1:ym8 v with
    | none=>rw[h1]at h;cases h
    | some f=>
     cases h2:zv1 ks vs with
     | none=>rw[h1,h2]at h;cases h
     | some r=>
      rw[h1,h2]at h;cases h;cases q with
      | cons ht hr=>
       obtain⟨a,b,c,d⟩:=xc7 ks vs r _ h2 hr;exact⟨xf5 zd3 (wn1 h1 ht) a,by rw[List.all_cons,b];rfl,by rw[vc6,vc6,c],by rw[vc6,vc6,d]⟩
   | _=>cases h
  | _=>cases h
def yx4(h:xd0 e=some fs)(q:FTs X fs ts)(h0:fs≠[])(a0:↑fs<=15):PE X e (tDisp ts):=by
 cases e with
 | Dict ks vs pos=>
  obtain⟨a,b,c,d⟩:=xc7 (pos:=pos) ks vs fs ts h q;refine wp2 a b c (fun z=>h0 ?_) (by lia);rw[z]at d;exact vq0.mp d.symm
 | _=>cases h
end
def xz3{κ:Type}[DecidableEq κ]{kvs:List (κ×V)}{k:κ}{v:V}(h:valV kvs k=some v):(k,v)∈kvs:=by
 unfold valV at h;obtain⟨p,hp,e⟩:=wz8.mp h;have h1:=vr8 hp;have h3:=List.find?_some hp;have h2:p.1=k:=vb3 h3;rw[<-h2,<-e];exact h1
def xp6{κ:Type}[DecidableEq κ]:∀{kvs:List (κ×V)}{i:Nat}{k:κ}{v:V},(kvs.map (·.1)).Nodup->kvs[i]?=some (k,v)->valV kvs k=some v
 | [],i,k,v,_,h=>by simp at h
 | a::l,0,k,v,_,h=>by
  have:a=(k,v):=by simpa using h
  rw[this];exact zh8 rfl
 | a::l,i+1,k,v,nd,h=>by
  have h':l[i]?=some (k,v):=by simpa using h
  rw[vf5,vh6]at nd;rw[zh7 (fun e=>nd.1 (by rw[e];exact vb9.mpr ⟨_,vb0 h',rfl⟩))];exact xp6 nd.2 h'
def yk3:∀(more kvs:List (Key×V)),((kvs++more).map (·.1)).Nodup->zf4 kvs more=kvs++more
 | [],kvs,_=>by rw[vh4];rfl
 | a::l,kvs,nd=>by
  have hv:valV kvs a.1=none:=by
   cases e:valV kvs a.1 with
   | none=>rfl
   | some v=>
    have h1:=yn8 e;rw[wz9,vf5]at nd;have:=(List.nodup_append.mp nd).2.2 a.1 h1 a.1 (vp1 ..);exact absurd rfl this
  show zf4 (putK kvs a.1 a.2) l=_;rw[zz3 _ hv,yk3 l (kvs++[(a.1,a.2)]) (by rw[vd8];exact nd),vd8];rfl
def yh1:∀(more kvs:List (Key×V)),(∀k,k∈(zf4 kvs more).map (·.1)↔k∈kvs.map (·.1)\/k∈more.map (·.1))
 | [],kvs,k=>by simp[zf4]
 | a::l,kvs,k=>by
  show k∈(zf4 (putK kvs a.1 a.2) l).map (·.1)↔_;rw[yh1 l (putK kvs a.1 a.2) k,vf5,vb4];rcases yf2 kvs a.1 a.2 with ⟨e,h⟩ | ⟨e,h⟩
  .rw[e]
   constructor
   .rintro(h1 | h1)
    .exact .inl h1
    .exact .inr (.inr h1)
   .rintro(h1 | h1 | h1)
    .exact .inl h1
    .rw[h1];exact .inl h
    .exact .inr h1
  .rw[e,vc4,vc7]
   constructor
   .rintro((h1 | h1) | h1)
    .exact .inl h1
    .exact .inr (.inl h1)
    .exact .inr (.inr h1)
   .rintro(h1 | h1 | h1)
    .exact .inl (.inl h1)
    .exact .inl (.inr h1)
    .exact .inr h1
def xn6(rs:List Str)(v:V):∃qs:List Str,(zf4 [] (rs.map fun r=>((Sum.inr r:Key),v))).map (fun kv=>kV kv.1)=qs.map V.str/\↑qs<=↑rs/\∀r∈rs,r∈qs:=by
 have hk:=yh1 (rs.map fun r=>((Sum.inr r:Key),v)) [];have key:∀l:List (Key×V),(∀k∈l.map (·.1),∃x,k=Sum.inr x)->∃qs:List Str,l.map (fun kv=>kV kv.1)=qs.map V.str/\↑qs=↑l/\∀x,(Sum.inr x:Key)∈l.map (·.1)->x∈qs:=by
  intro l
  induction l with
  | nil=>intro _;exact⟨[],rfl,rfl,by simp⟩
  | cons a l ih=>
   intro h;obtain⟨qs,e,el,em⟩:=ih fun k hk=>h k (vf6 _ hk);obtain⟨x,ex⟩:=h a.1 (by simp);refine⟨x::qs,by rw[vf5,vf5,e,ex];rfl,by simp[el],fun y hy=>?_⟩;rw[vf5,vb4]at hy;rcases hy with hy | hy
   .rw[ex]at hy;rw[vv2 hy];exact vp1 ..
   .exact vf6 _ (em y hy)
 obtain⟨qs,e,el,em⟩:=key (zf4 [] (rs.map fun r=>((Sum.inr r:Key),v))) fun k h=>by
  rcases(hk k).mp h with h | h
  .simp at h
  .rw[vj9]at h;obtain⟨x,_,ex⟩:=vb9.mp h;exact⟨x,ex.symm⟩
 refine⟨qs,e,?_,fun r hr=>em r ((hk _).mpr (.inr ?_))⟩
 .have:=zh2 (rs.map fun r=>((Sum.inr r:Key),v)) [];rw[lqm,vk8]at this;lia
 .rw[vj9];exact vb9.mpr ⟨r,hr,rfl⟩
def WantsOk(M:List Addr)(H:Hp)(N:List Str)(wk:List (List Key×V))(dn:Str->Str->Prop):Prop:=∀r d,dn r d->∃(p:Addr)(ws:List Str),valV wk [Sum.inr r,Sum.inr d]=some (.ref p)/\Stt M H p (.lst (ws.map V.str))/\↑ws<=4/\∀x∈ws,x∈N
def WantsOk.keep(h:WantsOk M H N wk dn)(f:FrS M H H'):WantsOk M H' N wk dn:=fun r d q=>by
 obtain⟨p,ws,a,b,c⟩:=h r d q;exact⟨p,ws,a,b.keep f,c⟩
def WantsOk.put{M:List Addr}{H:Hp}{N:List Str}{wk:List (List Key×V)}{dn:Str->Str->Prop}{r d:Str}{p:Addr}{ws:List Str}(h:WantsOk M H N wk dn)(hp:Stt M H p (.lst (ws.map V.str)))(hl:↑ws<=4)(hm:∀x∈ws,x∈N):
  WantsOk M H N (putK wk [Sum.inr r,Sum.inr d] (.ref p)) (fun a b=>dn a b\/(a=r/\b=d)):=fun a b q=>by
 by_cases e:([Sum.inr a,Sum.inr b]:List Key)=[Sum.inr r,Sum.inr d]
 .exact⟨p,ws,by rw[zm4,vd3 e],hp,hl,hm⟩
 .rcases q with q | ⟨rfl,rfl⟩
  .obtain⟨p',a0,a1,b1,c1⟩:=h a b q;exact⟨p',a0,by rw[zm4,vd0 e];exact a1,b1,c1⟩
  .exact absurd rfl e
def WantsOk.mono(h:WantsOk M H N wk dn)(f:∀r d,dn' r d->dn r d):WantsOk M H N wk dn':=fun r d q=>h r d (f r d q)
def OwnOk(M:List Addr)(H:Hp)(N:List Str)(ok:List (Key×V))(dn:Str->Prop):Prop:=∀d,dn d->∃(p:Addr)(os:List Str),valV ok (Sum.inr d)=some (.ref p)/\Stt M H p (.lst (os.map V.str))/\(∀x∈os,x∈N)/\↑os<=13
def OwnOk.keep(h:OwnOk M H N ok dn)(f:FrS M H H'):OwnOk M H' N ok dn:=fun d q=>by
 obtain⟨p,os,a,b,c⟩:=h d q;exact⟨p,os,a,b.keep f,c⟩
def OwnOk.put{M:List Addr}{H:Hp}{N:List Str}{ok:List (Key×V)}{dn:Str->Prop}{d:Str}{p:Addr}{os:List Str}(h:OwnOk M H N ok dn)(hp:Stt M H p (.lst (os.map V.str)))(hm:∀x∈os,x∈N)(hl:↑os<=13):
  OwnOk M H N (putK ok (Sum.inr d) (.ref p)) (fun a=>dn a\/a=d):=fun a q=>by
 by_cases e:(Sum.inr a:Key)=Sum.inr d
 .exact⟨p,os,by rw[zm4,vd3 e],hp,hm,hl⟩
 .rcases q with q | rfl
  .obtain⟨p',a0,a1,b1,c1⟩:=h a q;exact⟨p',a0,by rw[zm4,vd0 e];exact a1,b1,c1⟩
  .exact absurd rfl e
def OwnOk.mono'(h:OwnOk M H N ok dn)(f:∀d,dn' d->dn d):OwnOk M H N ok dn':=fun d q=>h d (f d q)
def RootsOk(tr:Tr)(i:Nat)(rk:List (Key×V)):Prop:=rk.map (·.1)=(tr.take i).map (fun z=>(Sum.inr z.1:Key))/\∃rs:List Str,rk.map (·.2)=rs.map V.str
def RootsOk.step(ok:TrOk tr)(h:RootsOk tr i rk)(hi:tr[i]?=some (n,e)):RootsOk tr (i+1) (putK rk (Sum.inr n) (.str r))/\↑(putK rk (Sum.inr n) (.str r))=i+1\/i > ↑tr:=by
 left
 have hn:n∉(tr.take i).map (·.1):=fun hm=>by
  obtain⟨z,hz,ez⟩:=vb9.mp hm;obtain⟨j,hj,ej⟩:=vf8 hz;rw[vc2]at hj;have e1:tr[j]?=some (n,z.2):=by rw[zz2 (by lia),<-ez,<-ej,vq5]
  have:=ok.one hi e1;lia
 have hv:valV rk (Sum.inr n)=none:=by
  cases q:valV rk (Sum.inr n)with
  | none=>rfl
  | some v=>
   have:=yn8 q;rw[h.1]at this;obtain⟨z,hz,ez⟩:=vb9.mp this;exact absurd (vb9.mpr ⟨z,hz,vv2 ez⟩) hn
 obtain⟨rs,a0⟩:=h.2;have a1:i<↑tr:=(wz2.mp hi).1;rw[zz3 _ hv];exists ⟨?_,rs++[r],?_⟩
 .rw[wz9,h.1,vc5,hi,wz9];rfl
 .rw[wz9,a0,wz9];rfl
 .have:=vg1 List.length h.1;rw[lqm,lqm,vc2]at this;rw[wz4,vc1];lia
def RootsOk.val{tr:Tr}{i:Nat}{rk:List (Key×V)}(h:RootsOk tr i rk){k:Key}{v:V}(hv:valV rk k=some v):∃r,v=.str r/\V.str r∈rk.map (·.2):=by
 have hm:=xz3 hv;obtain⟨rs,e⟩:=h.2;have:v∈rk.map (·.2):=vb9.mpr ⟨_,hm,rfl⟩;have h2:=this;rw[e]at this;obtain⟨r,_,er⟩:=vb9.mp this;exact⟨r,er.symm,by rw[er];exact h2⟩
def wv3(xs:List V)(h:b<=↑xs)(a0:a<=b):cutV xs (some (a:Int)) (some (b:Int))=(xs.drop a).take (b-a):=by
 unfold cutV;rw[HT.yj9,HT.yj9,vv9 h,vv9 (by lia)]
inductive DInv(Hb:Hp)(hd tp lp pn pd px pw po pr:Addr)(r t6:Int)(rk:List (Key×V))(rs ds:List Str)(tr:Tr)(i:Nat)(σ:St)(Hx:Hp):Prop
 | mk(nx ex dx sx:Option V)(da ma ta:Int)(wk:List (List Key×V))(ok:List (Key×V))(h1:σ=[some (.ref hd),some (.ref tp),some (.ref lp),some (.ref pn),some (.ref pd),some (.ref px),some (.ref pw),some (.ref po),some (.ref pr),nx,ex,dx,sx])
   (h2:FrS [hd,pw,po,pr] Hb Hx) (h3:Hand Hx hd da ma ta r) (h4:ta<=t6+80*(i:Int)) (h5:Hx pr=some (.dK rk)) (h6:Hx pw=some (.dT wk)) (h7:↑wk<=12*i) (h8:WantsOk [hd,pw,po,pr] Hx (tr.map (·.1)) wk (fun a b=>a∈rs/\b∈ds.take i)) (h9:Hx po=some (.dK ok)) (h10:↑ok<=i) (h11:OwnOk [hd,pw,po,pr] Hx (tr.map (·.1)) ok (fun b=>b∈ds.take i)):DInv Hb hd tp lp pn pd px pw po pr r t6 rk rs ds tr i σ Hx
inductive AInv(H9:Hp)(hd tp lp pn pd px pw po pr:Addr)(r ta:Int)(rk ok:List (Key×V))(rs qs:List Str)(tr:Tr)(dsi:List Str)(di:Str)(ex sx:Option V)(i j:Nat)(σ:St)(Hz:Hp):Prop
 | mk(nx:Option V)(dz mz tz:Int)(wz:List (List Key×V))(h1:σ=[some (.ref hd),some (.ref tp),some (.ref lp),some (.ref pn),some (.ref pd),some (.ref px),some (.ref pw),some (.ref po),some (.ref pr),nx,ex,some (.str di),sx])
   (h2:FrS [hd,pw,po,pr] H9 Hz) (h3:Hand Hz hd dz mz tz r) (h4:tz<=ta+5*(j:Int)) (h5:Hz pr=some (.dK rk)) (h6:Hz pw=some (.dT wz)) (h7:↑wz<=12*i+j) (h8:WantsOk [hd,pw,po,pr] Hz (tr.map (·.1)) wz (fun a b=>(a∈rs/\b∈dsi)\/(a∈qs.take j/\b=di))) (h9:Hz po=some (.dK ok)):AInv H9 hd tp lp pn pd px pw po pr r ta rk ok rs qs tr dsi di ex sx i j σ Hz
inductive BInv(H10:Hp)(hd tp lp pn pd px pw po pr ps:Addr)(r tA:Int)(tr:Tr)(di:Str)(j:Nat)(σ:St)(Hz:Hp):Prop
 | mk(nz ez:Option V)(dz mz tz:Int)(ss:List Str)(h1:σ=[some (.ref hd),some (.ref tp),some (.ref lp),some (.ref pn),some (.ref pd),some (.ref px),some (.ref pw),some (.ref po),some (.ref pr),nz,ez,some (.str di),some (.ref ps)])(h2:FrS [hd] H10 Hz)(h3:Hand Hz hd dz mz tz r)(h4:tz<=tA+(j:Int))(h5:Hz ps=some (.lst (ss.map V.str)))(h6:↑ss<=j)(h7:∀x∈ss,x∈tr.map (·.1)):BInv H10 hd tp lp pn pd px pw po pr ps r tA tr di j σ Hz
abbrev zx6:Stmt:=top 23
def wRet:zg6 zx6=wk6 (zg6 zx6) (xf6 (zg6 zx6)):=rfl
def wFs:List (Str×VF):=[("tree",.var "_law_tree_here"),("late",.var "_law_late"),("deeds",.var "_law_deeds"),("wants",.var "_law_wants"),("owners",.var "_law_owners"),("vars",.cut "_law_words_here" none (some 4)),("params",.cut "_law_words_here" (some 4) (some 8)),("fields",.cut "_law_words_here" (some 6) none),("told",.dict0),("held",.dict0),("roots",.var "_law_roots")]
def wForm:xd0 (xf6 (zg6 zx6))=some wFs:=by rfl'
inductive xr3(vs:List V)(H:Hp)(Q:VK):Prop
 | mk(hd:Addr)(d m t r:Int)(h1:vs=[.ref hd])(h2:Hand H hd d m t r)(h3:t+1000<1000000)(h4:∀(wd:Addr)(A:WA)(D:WD)(H':Hp)(t':Int),Sit0 H' hd wd A D t' r->FrS [hd] H H'->H A.told=none->H A.held=none->t'<=t+900->Q (.ref wd) H'):xr3  vs H Q
def yx9:Sp:=fun vs H Q _=>xr3  vs H Q
def nxI(h:N σ H):({nx:=N,rt:=r,bk:=b,ct:=c}:Ends).nx σ H:=h
def gN(h:Q (σ.set i (some v)) H):zf0 i v σ H Q:=h
def seqN(h:∀N:St->Hp->Prop,u D=N->t {D with nx:=N} σ H):tSeq t u D σ H:=h _ rfl
section
abbrev nWorld:List Str:=[qH,"_law_tree_here","_law_late","_law_names","_law_deeds","_law_words_here","_law_wants","_law_owners","_law_roots","_law_name","_law_elder","_law_deed_here","_law_some"]
def zh5:zd0 nWorld [qH] (zc1 zx6):=fsc
def wf5(F:Fun K "_law_world" "_law_world" zx6 f fd)(T:Cal P w K mg base k "_law_take" qB zh6)(O:Cal P w K mg base k "_law_of" qC (spOf K))(W:Cal P w K mg base k "_law_words" qB yj8)(TR:Cal P w K mg base k "_law_tree" [qH] xm6)(gv:mg "dict"=none)(mr:mg "range"=none)(mi:mg "int"=none):FnOk P w K mg base CX0 (k+1) f fd [qH] yx9:=by
 refine F.ok zh5 (fun vs H Q E h=>?_) (fun iz A outer s H vs Q E hr h=>?_)
 .obtain⟨hd,d,m,t,r,rfl,_⟩:=h;rfl
 obtain⟨hd,d,m,t,r,rfl,hh,ht,q⟩:=h;have hu:=zn5 hr;have gb:(["_law_name","_law_elder"]:List Str).Nodup:=by rfl'
 have gx:(["_law_root"]:List Str).Nodup:=by rfl'
 have id:(["_law_k",qH,"_law_names"]:List Str).Nodup:=by rfl'
 have hO:=wForm;rw[wRet];generalize xf6 (zg6 zx6)=L at hO;exists _,zb3 (zx0 (zb9 TR hr rfl (zb0 (pv 0) zb2)) (zh4 (n:=2) rfl (zc0 (gL 1 zh5.nd) (zc0 (gL 2 zh5.nd) zf8))))
  (zb3 (zk7 (i:=3) zh5.nd rfl (Or.inr rfl) (zh0 (N':=["_law_name","_law_elder"]) (src:=[none,none]) rfl bkn
   (zf6 (pv 1)) (g:=gTup K 2 (zk0 (zf0 0) (zk0 (zf0 1) gNil))) (fun _ _ _ _=>zh4 (n:=2) rfl (zc0 (gL 0 gb) (zc0 (gL 1 gb) zf8)))
   (fun _ _ _ _=>zg2) (fun _ _ _ _=>pv 0)))
  (zb3 (sL 4 zh5.nd (zb9 W hr rfl (zb0 (pv 0) (zb0 (zb9 O hr rfl (zb0 (pv 0) (zb0 (zd7 (zf3 (zf3 (zf3 (zf3 (zf3 (zf3 (zf3 (zf3 zb2))))))))) zb2))) zb2))))
  (zb3 (sL 5 zh5.nd (zb9 W hr rfl (zb0 (pv 0) (zb0 zb6 zb2))))
  (zb3 (sL 6 zh5.nd wc5)
  (zb3 (sL 7 zh5.nd zq5)
  (zb3 (sL 8 zh5.nd zq5)
  (zb3 (zf9 vd5 rfl (zf6 (pv 1)) (zh4 (n:=2) rfl (zc0 (gL 9 zh5.nd) (zc0 (gL 10 zh5.nd) zf8)))
   (zb7 (zn7 hu (pv 8) (pv 9) (wd3 hu (pv 8) (pv 10) (pv 9) ⟨rfl,rfl,rfl,rfl⟩) rfl)))
  (zb3 (zf9 vd5 rfl (zf6 (pv 4)) (gL 11 zh5.nd)
   (zb3 (zf9 vd5 rfl (yj4 (zc7 (zh1 rfl) rfl gv (by rfl') (zb0 (xs9 (zh0 (N':=["_law_root"]) (src:=[none]) rfl bkn
     (wn9 (pv 8)) (g:=zf0 0) (fun _ _ _ _=>gL 0 gx) (fun _ _ _ _=>zg2) (fun _ _ _ _=>zf1 (zb0 (pv 0) (zb0 xg8 zb2))))) zb2))) (gL 9 zh5.nd)
    (zb7 (zn7 hu (pv 6) (zf1 (zb0 (pv 9) (zb0 (pv 11) zb2))) (zh0 (N':=["_law_k",qH,"_law_names"]) (src:=[none,some 0,some 3]) rfl bkn
     (zm2 rfl mr (zb0 (zb9 O hr rfl (zb0 (pv 0) (zb0 (zd7 (zf3 (zf3 (zf3 (zf3 (zf3 zb2)))))) zb2))) zb2)) (g:=zf0 0) (fun _ _ _ _=>gL 0 id) (fun _ _ _ _=>zg2)
     (fun _ _ _ _=>zb9 O hr rfl (zb0 (pv 1) (zb0 (pv 2) zb2)))) rfl)))
   (zb3 (sL 12 zh5.nd (zd7 zb2))
   (zb3 (zf9 vd5 rfl (zf6 (pv 1)) (zh4 (n:=2) rfl (zc0 (gL 9 zh5.nd) (zc0 (gL 10 zh5.nd) zf8)))
    (zb7 (zg8 (zc2 zn2 (zb9 T hr rfl (zb0 (pv 0) (zb0 (eI (zd7 (zf3 (zf3 zb2))) (zc7 zs7 rfl mi (by rfl') (zb0 (pe_cmp (xb7 (pv 10))) zb2))) zb2))) zb6 (zd6 _))
     (zb7 (zf5 (zk8 vd2 vd9 vf0 zd8 (pv 12) (zb0 (pv 9) zb2)))) zd4)))
   (zb7 (zn7 hu (pv 7) (pv 11) (zf2 yh2 (pv 12) (zf2 op_rep (zd7 (zb0 (eI (pv 3) zb6) zb2)) (zc7 zs7 rfl mi (by rfl') (zb0 (zn3 (yz7 (vs4 hu)) (pv 12) (zd7 zb2) (zd6 _)) zb2)))) rfl))))))
  (zb7 (zd1 (yx4 hO (.cons (.var (i:=1) ⟨rfl,vt9 rfl,by decide,by decide⟩) (.cons (.var (i:=2) ⟨rfl,vt9 rfl,by decide,by decide⟩) (.cons (.var (i:=4) ⟨rfl,vt9 rfl,by decide,by decide⟩) (.cons (.var (i:=6) ⟨rfl,vt9 rfl,by decide,by decide⟩) (.cons (.var (i:=7) ⟨rfl,vt9 rfl,by decide,by decide⟩)
   (.cons (.cut (i:=5) ⟨rfl,vt9 rfl,by decide,by decide⟩) (.cons (.cut (i:=5) ⟨rfl,vt9 rfl,by decide,by decide⟩) (.cons (.cut (i:=5) ⟨rfl,vt9 rfl,by decide,by decide⟩) (.cons .dict0 (.cons .dict0 (.cons (.var (i:=8) ⟨rfl,vt9 rfl,by decide,by decide⟩) .nil))))))))))) (by simp[wFs]) (by decide))))))))))))
 ac_rfl
 refine seqN fun N hN=>?_;refine⟨_,rfl,hd,d,m,t,r,rfl,hh,by lia,fun a tp lp ts tr late d1 m1 t1 H1 f1 f0 il ha bx bg an fl fj hok gh fs eb i4 ij ia=>?_⟩;exists a,_,rfl,SqT.of ha,rfl,_,_,rfl,_,_,rfl,rfl;subst hN
 first | refine nxI ?_ | skip
 refine seqN fun N hN=>?_;refine⟨_,rfl,tp,rfl,⟨_,SqL.of an⟩,fun pn ig=>?_⟩;refine zw5 (tr:=tr) an fl fj ig (by lia) fun H2 f2 br=>?_
 subst hN
 first | refine nxI ?_ | skip
 refine seqN fun N hN=>?_;have cr:Hand H2 hd d1 m1 t1 r:=⟨f2 _ _ (by trivial) f0.1,f0.2⟩;have h6:FrS [hd] H H2:=f1.trans (f2.mono (by trivial));have dm:=f2 _ _ (by trivial) an;have ef:=f2 _ _ (by trivial) eb;have c5:∀(j:Nat) t x,ts[j]?=some t->tr[j]?=some x->H2 t=some (.tup [.str x.1,eldV x.2]):=fun j t x a b=>f2 _ _ (by trivial) (fj j t x a b)
 have b4:tp≠hd:=fun z=>by rw[z,hh.1]at bx;cases bx
 have al:lp≠hd:=fun z=>by rw[z,hh.1]at bg;cases bg
 refine⟨_,rfl,_,rfl,sz9 rfl,fun p0 cb=>?_⟩;have gz:p0≠hd:=fun z=>by rw[z,cr.1]at cb;cases cb
 have fi:=cr.new (o:=.lst [V.int 1,V.int 2,V.int 2,V.int 3,V.int 3,V.int 4,V.int 4,V.int 6]) cb;have f3:FrS [] H2 (upd H2 p0 (.lst [V.int 1,V.int 2,V.int 2,V.int 3,V.int 3,V.int 4,V.int 4,V.int 6])):=FrS.new cb;have fk:upd H2 p0 (.lst [V.int 1,V.int 2,V.int 2,V.int 3,V.int 3,V.int 4,V.int 4,V.int 6]) p0=some (.lst [V.int 1,V.int 2,V.int 2,V.int 3,V.int 3,V.int 4,V.int 4,V.int 6]):=zb1;generalize upd H2 p0 (.lst [V.int 1,V.int 2,V.int 2,V.int 3,V.int 3,V.int 4,V.int 4,V.int 6])=H3 at fi f3 fk;refine⟨hd,p0,d1,m1,t1,r,_,rfl,fi,by lia,gz,SqL.of fk,by simp,by show 8<1000;decide,fun x d4 m4 t4 hx c4 e4=>?_⟩;obtain⟨n,rfl,n1,n6⟩:∃n:Nat,x=.int (n:Int)/\1<=n/\n<=6:=by
  simp only[vb4,wz1,vj2]at hx;rcases hx with rfl | rfl | rfl | rfl | rfl | rfl | rfl | rfl
  .exact⟨1,rfl,by decide,by decide⟩
  .exact⟨2,rfl,by decide,by decide⟩
  .exact⟨2,rfl,by decide,by decide⟩
  .exact⟨3,rfl,by decide,by decide⟩
  .exact⟨3,rfl,by decide,by decide⟩
  .exact⟨4,rfl,by decide,by decide⟩
  .exact⟨4,rfl,by decide,by decide⟩
  .exact⟨6,rfl,by decide,by decide⟩
 have f4:FrS [hd] H2 (upd H3 hd (hl d4 m4 t4 r)):=(f3.mono (by trivial)).put' (by trivial);have g0:Hand (upd H3 hd (hl d4 m4 t4 r)) hd d4 m4 t4 r:=Hand.at c4;generalize upd H3 hd (hl d4 m4 t4 r)=H4 at f4 g0;refine⟨hd,d4,m4,t4,r,n,rfl,g0,by lia,by lia,fun pd ds d5 m5 t5 H5 f5 fe iw ip c8 gi j1=>?_⟩;subst hN
 first | refine nxI ?_ | skip
 refine seqN fun N hN=>?_;refine⟨_,rfl,hd,d5,m5,t5,r,9,rfl,fe,by lia,by decide,fun px xs d6 m6 t6 H6 f6 aj j0 j5 bu j2 iq=>?_⟩;subst hN
 first | refine nxI ?_ | skip
 refine seqN fun N hN=>?_;have c1:FrS [hd] H2 H6:=(f4.trans f5).trans f6;have cc:FrS [hd] H H6:=h6.trans c1;have au:pd≠hd:=zh9 c8 fe;have er:px≠hd:=zh9 bu aj;have aa:pn≠hd:=zh9 br cr;have dy:∀(j:Nat) t x,ts[j]?=some t->tr[j]?=some x->t≠hd:=fun j t x a b z=>by have h3:=c5 j t x a b;rw[z,cr.1]at h3;cases h3
 have db:=c1 _ _ (by simpa using b4) dm;have dt:=c1 _ _ (by simpa using al) ef;have cs:=c1 _ _ (by simpa using aa) br;have dw:=f6 _ _ (by simpa using au) c8;have es:∀(j:Nat) t x,ts[j]?=some t->tr[j]?=some x->H6 t=some (.tup [.str x.1,eldV x.2]):=fun j t x a b=>c1 _ _ (by simpa using dy j t x a b) (c5 j t x a b)
 intro pw co;subst hN
 first | refine nxI ?_ | skip
 refine seqN fun N hN=>?_;intro po b6;subst hN
 first | refine nxI ?_ | skip
 refine seqN fun N hN=>?_;intro pr b0;subst hN
 first | refine nxI ?_ | skip
 refine seqN fun N hN=>?_;have b3:H6 po=none:=by rw[<-zb5 (H:=H6) (a:=pw) (b:=po) (o:=.dT []) (fun z=>by rw[z,zb1]at b6;cases b6)];exact b6
 have ad:po≠pw:=fun z=>by rw[z,zb1]at b6;cases b6
 have ac:pr≠pw:=fun z=>by rw[z,zb5 ad.symm,zb1]at b0;cases b0
 have af:pr≠po:=fun z=>by rw[z,zb1]at b0;cases b0
 have ax:H6 pr=none:=by rw[zb5 af,zb5 ac]at b0;exact b0
 have gc:upd (upd (upd H6 pw (.dT [])) po (.dK [])) pr (.dK []) pw=some (.dT []):=by rw[zb5 ac.symm,zb5 ad.symm];exact zb1
 have gg:upd (upd (upd H6 pw (.dT [])) po (.dK [])) pr (.dK []) po=some (.dK []):=by rw[zb5 af.symm];exact zb1
 have fr:upd (upd (upd H6 pw (.dT [])) po (.dK [])) pr (.dK []) pr=some (.dK []):=zb1;have fb:FrS [] H6 (upd (upd (upd H6 pw (.dT [])) po (.dK [])) pr (.dK [])):=((FrS.new co).trans (FrS.new b6)).trans (FrS.new b0);generalize upd (upd (upd H6 pw (.dT [])) po (.dK [])) pr (.dK [])=Hb at gc gg fr fb;have g9:Hand Hb hd d6 m6 t6 r:=⟨fb _ _ (by trivial) aj.1,aj.2⟩;have cj:hd≠pw:=zb4 aj.1 co;have cf:hd≠po:=zb4 aj.1 b3;have cn:hd≠pr:=zb4 aj.1 ax;have a6:∀b o,b≠hd->H6 b=some o->Stt [hd,pw,po,pr] Hb b o:=fun b o n e=>⟨by simp only[vb4,wz1,vj2,not_or];exact⟨n,zb4 e co,zb4 e b3,zb4 e ax⟩,fb _ _ (by trivial) e⟩
 have b9:=a6 _ _ b4 db;have hc:=a6 _ _ al dt;have i3:=a6 _ _ aa cs;have ek:=a6 _ _ au dw;have hs:=a6 _ _ er bu;have aw:∀(j:Nat) t x,ts[j]?=some t->tr[j]?=some x->Stt [hd,pw,po,pr] Hb t (.tup [.str x.1,eldV x.2]):=fun j t x a b=>a6 _ _ (dy j t x a b) (es j t x a b);have ii:FrS [hd] H Hb:=cc.trans (fb.mono (by trivial));have d0:H pw=none:=zw7 cc aj co;have ea:H po=none:=zw7 cc aj b3;have et:H pr=none:=zw7 cc aj ax;have cx:∀Hx:Hp,FrS [hd,pw,po,pr] Hb Hx->FrS [hd] H Hx:=fun Hx fx b o n e=>fx b o (by
  simp only[vb4,wz1,vj2,not_or]at n ⊢;exact⟨n,zb4 e d0,zb4 e ea,zb4 e et⟩) (ii b o n e)
 have ch:∀Hx:Hp,(∃o,Hx hd=some o)->(∃o,Hx pw=some o)->(∃o,Hx po=some o)->(∃o,Hx pr=some o)->∀p,Hx p=none->p∉[hd,pw,po,pr]:=fun Hx a b c e p hp z=>by
  simp only[vb4,wz1,vj2]at z;rcases z with z | z | z | z
  .obtain⟨o,ho⟩:=a;rw[<-z,hp]at ho;cases ho
  .obtain⟨o,ho⟩:=b;rw[<-z,hp]at ho;cases ho
  .obtain⟨o,ho⟩:=c;rw[<-z,hp]at ho;cases ho
  .obtain⟨o,ho⟩:=e;rw[<-z,hp]at ho;cases ho
 exists _,rfl,tp,rfl,⟨_,SqL.of b9.2⟩;refine zm5 (xs:=ts.map V.ref) (fun i σ Hx=>∃(nx ex:Option V)(rk:List (Key×V)),σ=[some (.ref hd),some (.ref tp),some (.ref lp),some (.ref pn),some (.ref pd),some (.ref px),some (.ref pw),some (.ref po),some (.ref pr),nx,ex,none,none]/\FrS [pr] Hb Hx/\Hx pr=some (.dK rk)/\RootsOk tr i rk) ⟨_,_,[],rfl,FrS.refl,fr,rfl,[],rfl⟩ ?_ ?_ ?_
 .rintro i σ Hx hi ⟨_,_,_,_,fx,_⟩;exact SqL.of (b9.keep (fx.mono (by trivial))).2
 .rintro i x σ Hx hx ⟨nx,ex,rk,rfl,fx,a7,az⟩;rw[wz5]at hx;obtain⟨tt,a9,rfl⟩:=wz8.mp hx;obtain⟨hi,_⟩:=wz2.mp a9;have bt:tr[i]?=some tr[i]:=zz2 (by lia);have e3:=(aw i tt _ a9 bt).keep (fx.mono (by trivial));exists tt,_,rfl,SqT.of e3.2,rfl,_,_,rfl,_,_,rfl,rfl;have ik:↑rk<=12:=by
   have:=vg1 List.length az.1;rw[lqm,lqm,vc2]at this;lia
  obtain⟨ov,en,r',i6⟩:∃ov:Option V,DAsk Hx pr (eldV tr[i].2) ov/\∃r',ov.getD (.str tr[i].1)=.str r':=by
   cases he:tr[i].2 with
   | none=>exact⟨none,⟨rk,.inl a7,.inl ⟨rfl,rfl⟩⟩,_,rfl⟩
   | some e=>
    exists _,⟨rk,.inl a7,.inr ⟨Sum.inr e,rfl,rfl⟩⟩;cases hv:valV rk (Sum.inr e)with
    | none=>exact⟨_,rfl⟩
    | some v=>
     obtain⟨r',rfl,_⟩:=az.val hv;exact⟨r',rfl⟩
  exists _,rfl,pr,rfl,.inl ⟨_,.inl a7⟩,_,rfl,_,rfl,ov,en,_,rfl,_,rfl,pr,_,rfl,DPut.k (k:=(Sum.inr tr[i].1:Key)) a7 (zb8 (by lia)),_,_,_,rfl,fx.put' (by trivial),zb1;rw[i6];rcases RootsOk.step (r:=r') (n:=tr[i].1) (e:=tr[i].2) hok az bt with h | h
  .exact h.1
  .lia
 rintro σ H7 ⟨ix,io,rk,rfl,f7,ih,az⟩;subst hN
 first | refine nxI ?_ | skip
 refine seqN fun N hN=>?_;rw[lqm]at az;have a8:=az;unfold RootsOk at a8;rw[vb2 (by lia)]at a8;obtain⟨rs,ci⟩:=a8.2;have gu:↑rs=↑tr:=by
  have h1:=vg1 List.length a8.1;have h2:=vg1 List.length ci;rw[lqm,lqm]at h1 h2;lia
 have g6:FrS [hd,pw,po,pr] Hb H7:=f7.mono (by trivial);have gp:Hand H7 hd d6 m6 t6 r:=⟨f7 _ _ (by simpa using cn) g9.1,g9.2⟩;have i8:=f7 _ _ (by simpa using ac.symm) gc;have h4:=f7 _ _ (by simpa using af.symm) gg;exists _,rfl,pd,rfl,⟨_,SqL.of (ek.keep g6).2⟩;refine zm5 (xs:=ds.map V.str) (DInv Hb hd tp lp pn pd px pw po pr r t6 rk rs ds tr)
  ⟨_,_,_,_,d6,m6,t6,[],[],rfl,g6,gp,by lia,ih,i8,by simp,(fun r d h=>by simp at h),h4,by simp,(fun d h=>by simp at h)⟩ ?_ ?_ ?_
 .rintro i σ Hx hi ⟨_,_,_,_,_,_,_,_,_,_,fx,_⟩;exact SqL.of (ek.keep fx).2
 .rintro i x σ Hx hx ⟨nx,ex,dx,sx,da,ma,ta,wk,ok,rfl,fx,ar,f9,a7,cg,i7,bo,cm,i1,a0⟩;obtain⟨hi,_⟩:=wz2.mp hx;rw[lqm]at hi;rw[wz5,zz2 hi]at hx;cases hx;have a5:∀Hy:Hp,FrS [hd,pw,po,pr] Hb Hy->Hy pn=some (.lst ((tr.map (·.1)).map V.str)):=fun Hy fy=>(i3.keep fy).2;have c6:(tr.map (·.1))≠[]:=by simpa using gh
  have hw:↑(tr.map (·.1))<=12:=by rw[lqm];exact fs
  refine gN ?_;refine seqN fun N2 bv=>?_;exists pr,rk,a7;refine⟨_,rfl,pr,rk,rfl,a7,fun o Dl bf=>?_⟩;have g8:Dl≠pr:=fun z=>by rw[z,zb1]at bf;cases bf
  have iy:Hx Dl=none:=by rw[zb5 g8]at bf;exact bf
  refine yn2 (xs:=rk.map fun kv=>kv.2) (fun i' σ Hy=>(∃x,σ=[x])/\FrS [] (upd Hx pr (.frz o (.dK rk))) Hy/\∃as:List Addr,↑as=i'/\Hy Dl=some (.lst (as.map V.ref))/\∀(j:Nat) a,as[j]?=some a->∃rt,rs[j]?=some rt/\Hy a=some (.tup [.str rt,.bl true])) ⟨⟨_,rfl⟩,(FrS.refl).put bf,[],rfl,zb1,(fun j a h=>by simp at h)⟩ ?_ ?_ ?_
  .rintro i' σ Hy hi ⟨_,fy,_⟩;exact fy _ _ (by trivial) zb1
  .rintro i' x σ Hy hx ⟨⟨x0,rfl⟩,fy,as,dp,cd,has⟩;rw[ci]at hx;obtain⟨eh,_⟩:=wz2.mp hx;rw[lqm]at eh;rw[wz5,zz2 eh]at hx;cases hx;refine⟨_,rfl,sz9 rfl,fun tq dl=>?_⟩;have hg:Dl≠tq:=zb4 cd dl;have dg:upd Hy tq (.tup [V.str rs[i'],V.bl true]) Dl=some (.lst (as.map V.ref)):=by rw[zb5 hg];exact cd
   refine⟨_,dg,by rw[lqm];exact zb8 (by lia),⟨_,rfl⟩,(fy.trans (FrS.new dl)).put bf,as++[tq],by rw[wz4,dp];rfl,by rw[zb1,wz9];rfl,fun j a' e=>?_⟩
   by_cases hj:j<↑as
   .rw[vh8 hj]at e;obtain⟨rt,e1,e2⟩:=has j a' e;have e3:upd Hy tq (.tup [V.str rs[i'],V.bl true]) a'=some (.tup [.str rt,.bl true]):=by rw[zb5 (zb4 e2 dl)];exact e2
    exact⟨rt,e1,yn0 dg _ _ e3⟩
   .rw[vk0 (by lia)]at e;have h0:j-↑as=0:=by
     cases hz:j-↑as with
     | zero=>rfl
     | succ k=>rw[hz]at e;simp at e
    rw[h0]at e;simp only[vt0,ub8]at e;subst e;have:j=i':=by lia
    subst this;exact⟨_,zz2 eh,yn0 dg _ _ zb1⟩
  rintro σ Hy ⟨_,fy,as,dp,cd,has⟩;rw[lqm]at dp;have ie:↑rk=↑rs:=by
   have h2:=vg1 List.length ci;rw[lqm,lqm]at h2;exact h2
  exists o,fy _ _ (by trivial) zb1;have f8:FrS [] Hx (upd Hy pr (.dK rk)):=FrS.thaw a7 fy;have fn:upd Hy pr (.dK rk) Dl=some (.lst (as.map V.ref)):=by rw[zb5 g8];exact cd
  have bh:∀(j:Nat) a,as[j]?=some a->∃rt,rs[j]?=some rt/\upd Hy pr (.dK rk) a=some (.tup [.str rt,.bl true]):=fun j a e=>by
   obtain⟨rt,e1,e2⟩:=has j a e;exact⟨rt,e1,by rw[zb5 (fun z=>by rw[z,fy _ _ (by trivial) zb1]at e2;cases e2)];exact e2⟩
  generalize upd Hy pr (.dK rk)=H8 at f8 fn bh;refine⟨Dl,as,rs.map (fun r=>((Sum.inr r:Key),V.bl true)),rfl,SqL.of fn,by rw[lqm];lia,by rw[lqm];exact zb8 (by lia),fun j t' kv gl fo=>?_,fun l gd=>?_⟩
  .obtain⟨rt,e1,e2⟩:=bh j t' gl;rw[wz5,e1]at fo;cases fo;exact SqT.of e2
  refine⟨l,_,rfl,zb1,fun o2=>?_⟩;obtain⟨qs,eq,it,gy⟩:=xn6 rs (.bl true);generalize zf4 [] (rs.map (fun r=>((Sum.inr r:Key),V.bl true)))=ba at eq;rw[zr2];have ae:FrS [] Hx (upd H8 l (.frz o2 (.dK ba))):=f8.trans (FrS.new gd);have fg:upd H8 l (.frz o2 (.dK ba)) l=some (.frz o2 (.dK ba)):=zb1;generalize upd H8 l (.frz o2 (.dK ba))=H9 at ae fg;have h5:Hx l=none:=f8.old (by trivial) gd;have gq:l∉[hd,pw,po,pr]:=ch Hx ⟨_,ar.1⟩ ⟨_,cg⟩ ⟨_,cm⟩ ⟨_,a7⟩ l h5;refine for_x (xs:=ba.map fun kv=>kV kv.1) (AInv H9 hd tp lp pn pd px pw po pr r ta rk ok rs qs tr (ds.take i) ds[i] ex sx i)
   ⟨_,da,ma,ta,wk,rfl,FrS.refl,⟨ae _ _ (by trivial) ar.1,ar.2⟩,by lia,ae _ _ (by trivial) a7,ae _ _ (by trivial) cg,by lia,(bo.keep (ae.mono (by trivial))).mono (fun a b h=>by rcases h with h | h;exact h;simp at h),ae _ _ (by trivial) cm⟩ ?_ ?_ ?_
  .rintro j σ Hz hj ⟨_,_,_,_,_,_,fz,_⟩;exact fz _ _ gq fg
  .rintro j x σ Hz hx ⟨j4,dz,mz,tz,wz,rfl,fz,ag,em,gf,ft,gs,de,fa⟩;rw[eq]at hx;obtain⟨hj,_⟩:=wz2.mp hx;rw[lqm]at hj;rw[wz5,zz2 hj]at hx;cases hx;have i5:FrS [hd,pw,po,pr] Hb Hz:=(fx.trans (ae.mono (by trivial))).trans fz;refine⟨_,rfl,sz9 rfl,fun p5 bc=>?_⟩;have hk:p5≠hd:=fun z=>by rw[z,ag.1]at bc;cases bc
   refine⟨hd,p5,dz,mz,tz,r,_,rfl,ag.new bc,by lia,hk,SqL.of zb1,by simp,by show 5<1000;decide,fun y dq mq tq hy cq ir=>?_⟩;obtain⟨jn,rfl,iu⟩:∃jn:Nat,y=.int (jn:Int)/\jn<=4:=by
    simp only[vb4,wz1,vj2]at hy;rcases hy with rfl | rfl | rfl | rfl | rfl
    .exact⟨0,rfl,by decide⟩
    .exact⟨1,rfl,by decide⟩
    .exact⟨1,rfl,by decide⟩
    .exact⟨2,rfl,by decide⟩
    .exact⟨4,rfl,by decide⟩
   have fq:FrS [hd] Hz (upd (upd Hz p5 (.lst [V.int 0,V.int 1,V.int 1,V.int 2,V.int 4])) hd (hl dq mq tq r)):=(FrS.new bc).put' (by trivial);have cl:Hand (upd (upd Hz p5 (.lst [V.int 0,V.int 1,V.int 1,V.int 2,V.int 4])) hd (hl dq mq tq r)) hd dq mq tq r:=Hand.at cq;generalize upd (upd Hz p5 (.lst [V.int 0,V.int 1,V.int 1,V.int 2,V.int 4])) hd (hl dq mq tq r)=Hq at fq cl;refine⟨(jn:Int),rfl,by lia,by lia,fun Dw b8=>?_⟩;have ca:Dw≠hd:=fun z=>by rw[z,cl.1]at b8;cases b8
   have dn:Hz Dw=none:=zw7 fq cl b8;have bp:Dw∉[hd,pw,po,pr]:=ch Hz ⟨_,ag.1⟩ ⟨_,ft⟩ ⟨_,fa⟩ ⟨_,gf⟩ Dw dn;refine yc8 (lo:=0) (n:=(jn:Int).toNat) (fun e7 σ Hu=>(∃kx,σ=[kx,some (.ref hd),some (.ref pn)])/\FrS [hd] Hq Hu/\∃(du mu tu:Int)(ws:List Str),Hand Hu hd du mu tu r/\tu<=tq+e7/\Hu Dw=some (.lst (ws.map V.str))/\↑ws=e7/\∀x∈ws,x∈tr.map (·.1))
    ⟨⟨_,rfl⟩,FrS.new b8,dq,mq,tq,[],cl.new b8,by lia,zb1,rfl,by simp⟩ ?_ ?_
   .rintro e7 σ Hu hm ⟨⟨kx,rfl⟩,fu,du,mu,tu,ws,ct,h7,ck,bj,ap⟩;have el:Hu pn=some (.lst ((tr.map (·.1)).map V.str)):=fu _ _ (by simpa using aa) (fq _ _ (by simpa using aa) (a5 Hz i5));refine⟨_,rfl,_,rfl,hd,pn,du,mu,tu,r,_,rfl,ct,by lia,aa,SqL.of el,by simpa using c6,by rw[lqm];lia,fun v dv mv tv hv cv ev=>?_⟩;obtain⟨nm,i9,rfl⟩:=vb9.mp hv;refine⟨_,by rw[zb5 ca];exact ck,by rw[lqm];exact zb8 (by lia),⟨_,rfl⟩,(fu.put' (by trivial)).put b8,dv,mv,tv,ws++[nm],⟨by rw[zb5 ca.symm];exact zb1,cv⟩,by lia,by rw[zb1,wz9];rfl,by rw[wz4,bj];rfl,fun x hx=>?_⟩;rcases vc4.mp hx with h | h
    .exact ap x h
    .rw[vc7.mp h];exact i9
   rintro σ Hu ⟨_,fu,du,mu,tu,ws,ct,h7,ck,bj,ap⟩;have h8:FrS [hd] Hz Hu:=fq.trans fu;refine⟨_,rfl,_,rfl,_,rfl,sz9 rfl,fun pk ee=>?_⟩;have be:FrS [hd] Hz (upd Hu pk (.tup [V.str qs[j],V.str ds[i]])):=h8.trans (FrS.new ee);have fc:upd Hu pk (.tup [V.str qs[j],V.str ds[i]]) Dw=some (.lst (ws.map V.str)):=by rw[zb5 (zb4 ck ee)];exact ck
   have dj:=ct.new (o:=.tup [V.str qs[j],V.str ds[i]]) ee;have b2:upd Hu pk (.tup [V.str qs[j],V.str ds[i]]) pk=some (.tup [V.str qs[j],V.str ds[i]]):=zb1;generalize upd Hu pk (.tup [V.str qs[j],V.str ds[i]])=Hk at be fc dj b2;have d2:=be _ _ (by simpa using cj.symm) ft;have d9:Dw≠pw:=fun z=>bp (by rw[z];simp)
   refine⟨pw,_,rfl,DPut.t (k:=[Sum.inr qs[j],Sum.inr ds[i]]) d2 b2 (zb8 (by lia)),_,du,mu,tu,_,rfl,fz.trans ((be.mono (by trivial)).put' (by trivial)),⟨by rw[zb5 cj];exact dj.1,dj.2⟩,by lia,by rw[zb5 ac];exact be _ _ (by simpa using cn.symm) gf,zb1,?_,?_,by rw[zb5 ad];exact be _ _ (by simpa using cf.symm) fa⟩
   .have:=zg5 wz [Sum.inr qs[j],Sum.inr ds[i]] (V.ref Dw);lia
   .have W1:=de.keep ((be.mono (T:=[hd,pw,po,pr]) (by trivial)).put' (a:=pw) (o:=.dT (putK wz [Sum.inr qs[j],Sum.inr ds[i]] (.ref Dw))) (by trivial));refine(W1.put (r:=qs[j]) (d:=ds[i]) (p:=Dw) (ws:=ws) ⟨bp,by rw[zb5 d9];exact fc⟩ (by lia) ap).mono fun a b h=>?_
    rcases h with h | ⟨h1,h2⟩
    .exact .inl (.inl h)
    .rw[vc5,zz2 hj]at h1;rcases vc4.mp h1 with h1 | h1
     .exact .inl (.inr ⟨h1,h2⟩)
     .have:a=qs[j]:=by simpa using h1
      exact .inr ⟨this,h2⟩
  rintro σ ak ⟨iv,dA,mA,tA,wA,rfl,fA,fh,hn,ew,ga,eg,b1,fw⟩;subst bv
  first | refine nxI ?_ | skip
  refine seqN fun N2 bv=>?_;have i2:↑(ba.map fun kv=>kV kv.1)=↑qs:=by rw[eq,lqm]
  rw[i2]at hn eg b1;rw[vb2 (wz6 _)]at b1;have b5:FrS [hd,pw,po,pr] Hb ak:=(fx.trans (ae.mono (by trivial))).trans fA;have eu:OwnOk [hd,pw,po,pr] ak (tr.map (·.1)) ok (fun b=>b∈ds.take i):=a0.keep ((ae.mono (by trivial)).trans fA);refine⟨vc9 _,fun ps av=>?_⟩;subst bv
  first | refine nxI ?_ | skip
  refine seqN fun N2 bv=>?_;have dr:ps∉[hd,pw,po,pr]:=ch ak ⟨_,fh.1⟩ ⟨_,ga⟩ ⟨_,fw⟩ ⟨_,ew⟩ ps av;have c7:ps≠hd:=fun z=>dr (by rw[z];simp)
  have gn:ps≠pn:=fun z=>by rw[z,a5 ak b5]at av;cases av
  exists _,rfl,tp,rfl,⟨_,SqL.of (by rw[zb5 (zb4 (b9.keep b5).2 av)];exact(b9.keep b5).2)⟩;refine zm5 (xs:=ts.map V.ref) (BInv ak hd tp lp pn pd px pw po pr ps r tA tr ds[i])
   ⟨_,_,dA,mA,tA,[],rfl,FrS.new av,fh.new av,by lia,zb1,by simp,by simp⟩ ?_ ?_ ?_
  .rintro j σ Hz hj ⟨_,_,_,_,_,_,_,fz,_⟩;exact SqL.of ((b9.keep b5).keep (fz.mono (by trivial))).2
  .rintro j x σ Hz hx ⟨nz,ez,dz,mz,tz,ss,rfl,fz,ag,em,c9,bw,ah⟩;rw[wz5]at hx;obtain⟨tt,a9,rfl⟩:=wz8.mp hx;obtain⟨hj,_⟩:=wz2.mp a9;have bt:tr[j]?=some tr[j]:=zz2 (by lia);have e3:=((aw j tt _ a9 bt).keep b5).keep (fz.mono (by trivial));exists tt,_,rfl,SqT.of e3.2,rfl,_,_,rfl,_,_,rfl,rfl;refine⟨_,rfl,sz9 rfl,fun p2 am=>?_⟩;obtain⟨kk,b2,gj,j3⟩:∃kk:Int,atI [V.int 3,V.int 2] (if decide (eldV tr[j].2=V.non)=true then 1 else 0)=some (.int kk)/\0<kk/\kk<10:=by
    cases tr[j].2 with
    | none=>exact⟨2,rfl,by decide,by decide⟩
    | some e=>exact⟨3,rfl,by decide,by decide⟩
   refine⟨_,rfl,.inr ⟨_,rfl,p2,_,_,V.int kk,rfl,rfl,SqL.of zb1,b2,hd,dz,mz,tz,r,kk,rfl,ag.new am,by lia,gj,by lia,fun y dv mv tv y0 y1 cv ev=>⟨rfl,_,rfl,?_⟩⟩⟩;have dh:upd (upd Hz p2 (.lst [V.int 3,V.int 2])) hd (hl dv mv tv r) ps=some (.lst (ss.map V.str)):=by rw[zb5 c7,zb5 (zb4 c9 am)];exact c9
   have fv:FrS [hd] ak (upd (upd Hz p2 (.lst [V.int 3,V.int 2])) hd (hl dv mv tv r)):=(fz.trans (FrS.new am)).put' (by trivial);have e5:Hand (upd (upd Hz p2 (.lst [V.int 3,V.int 2])) hd (hl dv mv tv r)) hd dv mv tv r:=Hand.at cv;refine ite2 (fun c=>?_) (fun c=>?_)
   .refine⟨_,rfl,.inl ⟨rfl,_,SqL.of dh⟩,_,rfl,ps,_,_,rfl,rfl,dh,by rw[lqm];exact zb8 (by lia),_,_,dv,mv,tv,ss++[tr[j].1],rfl,fv.put av,⟨by rw[zb5 c7.symm];exact e5.1,e5.2⟩,by lia,by rw[zb1,wz9];rfl,by rw[wz4,vc1];lia,fun x hx=>?_⟩;rcases vc4.mp hx with h | h
    .exact ah x h
    .rw[vc7.mp h];exact vb9.mpr ⟨_,vb0 bt,rfl⟩
   .exact⟨_,_,dv,mv,tv,ss,rfl,fv,e5,by lia,dh,by lia,ah⟩
  rintro σ ab ⟨nz,ez,dz,mz,tz,ss,rfl,fz,ag,em,c9,bw,ah⟩;subst bv
  first | refine nxI ?_ | skip
  rw[lqm]at em bw;have ff:FrS [hd,pw,po,pr] ak ab:=fz.mono (by trivial);have bk:=a5 ab (b5.trans ff);have h0:0<↑(tr.map (·.1)):=vz0.mpr c6;have cy:atI ((tr.map (·.1)).map V.str) 0=some (.str (tr.map (·.1))[0]):=by
   have:=zr3 (xs:=(tr.map (·.1)).map V.str) (j:=0) (v:=.str (tr.map (·.1))[0]) (by rw[wz5,zz2 h0];rfl);exact this
  refine⟨_,rfl,_,rfl,pn,_,_,_,rfl,rfl,SqL.of bk,cy,sz9 rfl,fun p1 d3=>?_⟩;refine⟨_,rfl,vc9 _,fun pe bm=>?_⟩;have ay:upd ab p1 (.lst [V.str (tr.map (·.1))[0]]) ps=some (.lst (ss.map V.str)):=by rw[zb5 (zb4 c9 d3)];exact c9
  have aq:ps≠pe:=zb4 ay bm;have e9:p1≠pe:=fun z=>by rw[<-z,zb1]at bm;cases bm
  refine⟨ps,pe,_,rfl,rfl,aq,SqL.of (by rw[zb5 aq];exact ay),SqL.of zb1,.inr ⟨_,rfl,?_⟩⟩;obtain⟨kk,b2,zs,gr,im,h9⟩:∃kk:Int,(if ((ss.map V.str).isEmpty != false)=true then(1:Int) else 0)=kk/\∃zs:List Str,(List.replicate kk.toNat [V.str (tr.map (·.1))[0]]).flatten=zs.map V.str/\↑zs<=1/\∀x∈zs,x∈tr.map (·.1):=by
   cases ss with
   | nil=>exact⟨1,rfl,[(tr.map (·.1))[0]],rfl,by simp,fun x hx=>by rw[vc7.mp hx];exact vg6 h0⟩
   | cons y ys=>exact⟨0,rfl,[],rfl,by simp,by simp⟩
  have gk:kk=0\/kk=1:=by
   rw[<-b2]
   split
   .exact .inr rfl
   .exact .inl rfl
  rw[b2];refine⟨p1,kk,_,rfl,rfl,by rw[zb5 e9];exact zb1,by lia,by lia,?_,fun p2 am=>?_⟩
  .rcases gk with rfl | rfl
   .show 1*0<=sizeLine;lia
   .show 1*1<=sizeLine;exact vb5 (zb8 (by lia))
  rw[gr];have bz:upd (upd ab p1 (.lst [V.str (tr.map (·.1))[0]])) pe (.lst []) ps=some (.lst (ss.map V.str)):=by rw[zb5 aq];exact ay
  refine⟨ps,p2,_,_,rfl,rfl,by rw[zb5 (zb4 bz am)];exact bz,zb1,by rw[lqm,lqm];exact vb5 (zb8 (by lia)),fun p3 fm=>?_⟩;rw[<-wz9];have bd:FrS [] ab (upd (upd (upd (upd ab p1 (.lst [V.str (tr.map (·.1))[0]])) pe (.lst [])) p2 (.lst (zs.map V.str))) p3 (.lst ((ss++zs).map V.str))):=by
   refine(((FrS.new d3).trans (FrS.new bm)).trans (FrS.new am)).trans (FrS.new ?_);exact fm
  have c2:upd (upd (upd (upd ab p1 (.lst [V.str (tr.map (·.1))[0]])) pe (.lst [])) p2 (.lst (zs.map V.str))) p3 (.lst ((ss++zs).map V.str)) p3=some (.lst ((ss++zs).map V.str)):=zb1;have df:ab p3=none:=FrS.old (S:=[]) (((FrS.new d3).trans (FrS.new bm)).trans (FrS.new am)) (by trivial) fm;generalize upd (upd (upd (upd ab p1 (.lst [V.str (tr.map (·.1))[0]])) pe (.lst [])) p2 (.lst (zs.map V.str))) p3 (.lst ((ss++zs).map V.str))=gm at bd c2;have bn:=fz _ _ (by simpa using cf.symm) fw;have bq:=fz _ _ (by simpa using cj.symm) ga;have bs:=fz _ _ (by simpa using cn.symm) ew;have bi:p3∉[hd,pw,po,pr]:=ch ab ⟨_,ag.1⟩ ⟨_,bq⟩ ⟨_,bn⟩ ⟨_,bs⟩ p3 df;have cw:p3≠po:=fun z=>bi (by rw[z];simp)
  exists _,rfl,_,rfl,po,_,rfl,DPut.k (k:=(Sum.inr ds[i]:Key)) (bd _ _ (by trivial) bn) (zb8 (by lia));have e6:FrS [hd,pw,po,pr] ak (upd gm po (.dK (putK ok (Sum.inr ds[i]) (.ref p3)))):=(ff.trans (bd.mono (by trivial))).put' (by trivial);exists _,_,_,_,dz,mz,tz,wA,putK ok (Sum.inr ds[i]) (.ref p3),rfl,b5.trans e6,⟨by rw[zb5 cf];exact bd _ _ (by trivial) ag.1,ag.2⟩,by lia,by rw[zb5 af];exact bd _ _ (by trivial) bs,by rw[zb5 ad.symm];exact bd _ _ (by trivial) bq,by lia,?_,zb1,?_
  .refine(b1.keep e6).mono fun a b h=>?_;rw[vc5,zz2 hi]at h;rcases vc4.mp h.2 with h2 | h2
   .exact .inl ⟨h.1,h2⟩
   .exact .inr ⟨gy a h.1,by simpa using h2⟩
  .have:=zg5 ok (Sum.inr ds[i]) (V.ref p3);lia
  .refine((eu.keep e6).put (d:=ds[i]) (p:=p3) (os:=ss++zs) ⟨bi,by rw[zb5 cw];exact c2⟩ (fun x hx=>?_) (by rw[wz4];lia)).mono' fun a h=>?_
   .rcases vc4.mp hx with h | h
    .exact ah x h
    .exact h9 x h
   .rw[vc5,zz2 hi]at h;rcases vc4.mp h with h2 | h2
    .exact .inl h2
    .exact .inr (by simpa using h2)
 rintro σ Hx ⟨nx,ex,dx,sx,da,ma,ta,wk,ok,rfl,fx,ar,f9,a7,cg,i7,bo,cm,i1,a0⟩;subst hN
 first | refine nxI ?_ | skip
 rw[lqm]at f9 bo a0;rw[vb2 (wz6 _)]at bo a0;intro p hp;have ai:=(hs.keep fx).2;refine⟨_,rfl,_,rfl,_,rfl,_,rfl,_,rfl,_,rfl,_,rfl,px,_,rfl,SqL.of (by rw[zb5 (zb4 ai hp)];exact ai),fun q1 dc=>?_⟩;have e1:cutV (xs.map V.str) none (some 4)=(xs.take 4).map V.str:=by rw[ub2];exact xx0 (xs.map V.str) (n:=4) (by rw[lqm];lia)
 rw[e1];have g1:FrS [] Hx (upd (upd Hx p (.dK [])) q1 (.lst ((xs.take 4).map V.str))):=(FrS.new hp).trans (FrS.new dc);have p1:upd (upd Hx p (.dK [])) q1 (.lst ((xs.take 4).map V.str)) p=some (.dK []):=by rw[zb5 (zb4 (o:=.dK []) zb1 dc)];exact zb1
 have v1:upd (upd Hx p (.dK [])) q1 (.lst ((xs.take 4).map V.str)) q1=some (.lst ((xs.take 4).map V.str)):=zb1;have gw:Hx q1=none:=(FrS.new (S:=[]) (o:=.dK []) hp).old (by trivial) dc;generalize upd (upd Hx p (.dK [])) q1 (.lst ((xs.take 4).map V.str))=K1 at g1 p1 v1;refine⟨_,rfl,_,rfl,_,rfl,px,_,rfl,SqL.of (g1 _ _ (by trivial) ai),fun q2 cu=>?_⟩;have e2:cutV (xs.map V.str) (some 4) (some 8)=((xs.drop 4).take 4).map V.str:=by rw[ub2,uc4];exact wv3 (xs.map V.str) (a:=4) (b:=8) (by rw[lqm];lia) (by lia)
 rw[e2];have g2:FrS [] K1 (upd K1 q2 (.lst (((xs.drop 4).take 4).map V.str))):=FrS.new cu;have v2:upd K1 q2 (.lst (((xs.drop 4).take 4).map V.str)) q2=some (.lst (((xs.drop 4).take 4).map V.str)):=zb1;have hq:Hx q2=none:=g1.old (by trivial) cu;have ao:=cu;generalize upd K1 q2 (.lst (((xs.drop 4).take 4).map V.str))=K2 at g2 v2;refine⟨_,rfl,_,rfl,px,_,rfl,SqL.of (g2 _ _ (by trivial) (g1 _ _ (by trivial) ai)),fun q3 cp=>?_⟩;have e3:cutV (xs.map V.str) (some 6) none=(xs.drop 6).map V.str:=by rw[uc4];exact xd9 (xs.map V.str) (n:=6) (by rw[lqm];lia)
 rw[e3];have g3:FrS [] K2 (upd K2 q3 (.lst ((xs.drop 6).map V.str))):=FrS.new cp;have v3:upd K2 q3 (.lst ((xs.drop 6).map V.str)) q3=some (.lst ((xs.drop 6).map V.str)):=zb1;generalize upd K2 q3 (.lst ((xs.drop 6).map V.str))=K3 at g3 v3;intro pt ce;have g4:FrS [] K3 (upd K3 pt (.dK [])):=FrS.new ce;have v4:upd K3 pt (.dK []) pt=some (.dK []):=zb1;generalize upd K3 pt (.dK [])=K4 at g4 v4;intro ph c3;have g5:FrS [] K4 (upd K4 ph (.dK [])):=FrS.new c3;have v5:upd K4 ph (.dK []) ph=some (.dK []):=zb1;generalize upd K4 ph (.dK [])=K5 at g5 v5;have eo:FrS [] K1 K5:=((g2.trans g3).trans g4).trans g5;have i0:FrS [] Hx K5:=g1.trans eo;have g7:FrS [] Hx K3:=(g1.trans g2).trans g3;have ib:FrS [] Hx K4:=g7.trans g4;have ed:Hx pt=none:=g7.old (by trivial) ce;have ep:Hx ph=none:=ib.old (by trivial) c3;have bc:=eo _ _ (by trivial) p1;have d8:pt≠ph:=zb4 v4 c3;have ge:p≠pt:=fun z=>by rw[<-z,(g2.trans g3) _ _ (by trivial) p1]at ce;cases ce
 have c0:p≠ph:=fun z=>by rw[<-z,((g2.trans g3).trans g4) _ _ (by trivial) p1]at c3;cases c3
 refine⟨_,rfl,bc,[(Sum.inr "tree",.ref tp),(Sum.inr "late",.ref lp),(Sum.inr "deeds",.ref pd),(Sum.inr "wants",.ref pw),(Sum.inr "owners",.ref po),(Sum.inr "vars",.ref q1),(Sum.inr "params",.ref q2),(Sum.inr "fields",.ref q3),(Sum.inr "told",.ref pt),(Sum.inr "held",.ref ph),(Sum.inr "roots",.ref pr)],rfl,by show 11<=15;decide,?_⟩;have ei:(([(Sum.inr "tree",.ref tp),(Sum.inr "late",.ref lp),(Sum.inr "deeds",.ref pd),(Sum.inr "wants",.ref pw),(Sum.inr "owners",.ref po),(Sum.inr "vars",.ref q1),(Sum.inr "params",.ref q2),(Sum.inr "fields",.ref q3),(Sum.inr "told",.ref pt),(Sum.inr "held",.ref ph),(Sum.inr "roots",.ref pr)]:List (Key×V)).map (·.1)).Nodup:=by
  show([Sum.inr "tree",Sum.inr "late",Sum.inr "deeds",Sum.inr "wants",Sum.inr "owners",Sum.inr "vars",Sum.inr "params",Sum.inr "fields",Sum.inr "told",Sum.inr "held",Sum.inr "roots"]:List Key).Nodup
  rfl'
 rw[yk3 _ [] (by rw[List.nil_append];exact ei),List.nil_append];generalize hkvs:([(Sum.inr "tree",.ref tp),(Sum.inr "late",.ref lp),(Sum.inr "deeds",.ref pd),(Sum.inr "wants",.ref pw),(Sum.inr "owners",.ref po),(Sum.inr "vars",.ref q1),(Sum.inr "params",.ref q2),(Sum.inr "fields",.ref q3),(Sum.inr "told",.ref pt),(Sum.inr "held",.ref ph),(Sum.inr "roots",.ref pr)]:List (Key×V))=kvs at ei;have gt:∀(j:Nat)(k:Key)(v:V),kvs[j]?=some (k,v)->valV kvs k=some v:=fun j k v h=>xp6 ei h;have kp:∀b o,K5 b=some o->b≠p->upd K5 p (.dK kvs) b=some o:=fun b o e n=>by rw[zb5 n];exact e
 have kx:∀b o,Hx b=some o->upd K5 p (.dK kvs) b=some o:=fun b o e=>kp b o (i0 _ _ (by trivial) e) (zb4 e hp)
 have bb:=ar.1;have st:∀b o,b≠hd->Hx b=some o->Stt [hd,pt,ph] (upd K5 p (.dK kvs)) b o:=fun b o n e=>⟨by simp only[vb4,wz1,vj2,not_or];exact⟨n,zb4 e ed,zb4 e ep⟩,kx b o e⟩
 have ec:q1≠p:=fun z=>by rw[z,p1]at v1;cases v1
 have ej:q2≠p:=fun z=>by rw[z]at ao;rw[p1]at ao;cases ao
 have dd:q3≠p:=fun z=>by rw[z,g2 _ _ (by trivial) p1]at cp;cases cp
 have go:Hx q3=none:=(g1.trans g2).old (by trivial) cp;have w1:=eo _ _ (by trivial) v1;have w2:=((g3.trans g4).trans g5) _ _ (by trivial) v2;have w3:=(g4.trans g5) _ _ (by trivial) v3;have w4:=g5 _ _ (by trivial) v4;have sl:∀(b:Addr)(zs:List Str),K5 b=some (.lst (zs.map V.str))->b≠p->Hx b=none->Stt [hd,pt,ph] (upd K5 p (.dK kvs)) b (.lst (zs.map V.str)):=fun b zs e n e0=>⟨by
  simp only[vb4,wz1,vj2,not_or];exact⟨(fun z=>by rw[z,bb]at e0;cases e0),(fun z=>by rw[z,w4]at e;cases e),(fun z=>by rw[z,v5]at e;cases e)⟩,kp b _ e n⟩
 have cz:=cn.symm;have dk:=cj.symm;have d7:=cf.symm;obtain⟨own,di⟩:∃own:Str->List Str,∀d' (b7:d'∈ds),own d'=(a0 d' b7).choose_spec.choose:=by
  classical
  exact⟨fun d'=>if h:d'∈ds then(a0 d' h).choose_spec.choose else [],fun d' h=>dif_pos h⟩
 refine q p ⟨tp,lp,pd,pw,po,q1,q2,q3,pt,ph,pr⟩ ⟨tr,late,ds,xs.take 4,(xs.drop 4).take 4,xs.drop 6,wk,ok,rk,own⟩ _ ta ⟨⟨da,ma,kx _ _ ar.1,ar.2⟩,⟨[],kp _ _ w4 ge.symm,DOk.nil⟩,⟨[],kp _ _ v5 c0.symm,DOk.nil⟩,⟨⟨kvs,⟨?_,zb1⟩,?_⟩,⟨ts,st _ _ b4 (b9.keep fx).2,fl,fun j t' x a b=>st _ _ (dy j t' x a b) ((aw j t' x a b).keep fx).2⟩,st _ _ al (hc.keep fx).2,st _ _ au (ek.keep fx).2,sl _ _ w1 ec gw,sl _ _ w2 ej hq,sl _ _ w3 dd go,st _ _ dk cg,st _ _ d7 cm,st _ _ cz a7,?_,?_⟩,?_,?_⟩ ?_ ?_ ?_ ?_
 .simp only[vb4,wz1,vj2,not_or];exact⟨(fun z=>by rw[z,bb]at hp;cases hp),ge,c0⟩
 .rw[<-hkvs]at gt ⊢;exact⟨gt 0 _ _ rfl,gt 1 _ _ rfl,gt 2 _ _ rfl,gt 3 _ _ rfl,gt 4 _ _ rfl,gt 5 _ _ rfl,gt 6 _ _ rfl,gt 7 _ _ rfl,gt 8 _ _ rfl,gt 9 _ _ rfl,gt 10 _ _ rfl⟩
 .intro n' ic d' b7;have hf:(Sum.inr n':Key)∈rk.map (·.1):=by
   rw[a8.1];obtain⟨z,hz,ez⟩:=vb9.mp ic;exact vb9.mpr ⟨z,hz,by rw[<-ez]⟩
  obtain⟨v,hv⟩:∃v,valV rk (Sum.inr n')=some v:=by
   cases hv:valV rk (Sum.inr n')with
   | some v=>exact⟨v,rfl⟩
   | none=>exact absurd hf (zz5 hv)
  obtain⟨rt,rfl,fp⟩:=az.val hv;have e8:rt∈rs:=by
   rw[ci]at fp;obtain⟨y,hy,ey⟩:=vb9.mp fp;cases ey;exact hy
  obtain⟨pp,ws,a1,a2,a3,a4⟩:=bo rt d' ⟨e8,b7⟩;exact⟨rt,pp,ws,hv,a1,st _ _ (fun z=>a2.1 (by rw[z];simp)) a2.2,a3,a4⟩
 .intro d' b7;have e0:=di d' b7;obtain⟨a1,a2,a3,a4⟩:=(a0 d' b7).choose_spec.choose_spec;rw[<-e0]at a2 a3 a4;exact⟨_,a1,st _ _ (fun z=>a2.1 (by rw[z];simp)) a2.2,a3,a4⟩
 .show([hd,pt,ph]:List Addr).Nodup;simp only[vh6,vb4,wz1,vj2,not_or];exact⟨⟨zb4 bb ed,zb4 bb ep⟩,d8,not_false,vn6⟩
 .exact⟨hok,gh,fs,i4,ij,ia,(by show ds≠[];intro z;rw[z]at gi;simp at gi;lia),by show ↑ds<=6;lia,by show(xs.take 4).length=4;rw[vc2];lia,by show((xs.drop 4).take 4).length=4;rw[vc2,vh2];lia,by show(xs.drop 6).length=3;rw[vh2];lia⟩
 .exact(cx Hx fx).trans fun b o n e=>kx b o e
 .show H pt=none;exact(cx Hx fx).old (fun b hb=>by rw[vc7.mp hb];exact⟨_,bb⟩) ed
 .show H ph=none;exact(cx Hx fx).old (fun b hb=>by rw[vc7.mp hb];exact⟨_,bb⟩) ep
 .lia
end
abbrev wp4:Stmt:=top 35
abbrev Dz:=Str×Addr×List Addr×List Addr
inductive RowsIs(Z:Str->Str->Prop)(H:Hp)(z:Dz):Prop
 | mk(h2:H z.2.1=some (.tup (z.2.2.1.map V.ref)))(h3:Fl Z H 4 z.2.2.1 z.2.2.2)(h4:↑z.2.2.2<=80):RowsIs Z H z
def RowsIs.keep(h:RowsIs Z H z)(f:Tup H H'):RowsIs Z H' z:=by
 obtain⟨h2,h3,h4⟩:=h;exact⟨f _ _ h2,h3.keep f,h4⟩
inductive DeedIs(Z:Str->Str->Prop)(H:Hp)(f:Addr)(z:Dz):Prop
 | mk(pv gv:V)(h1:H f=some (.tup [.str z.1,pv,.ref z.2.1,gv]))(h2:RowsIs Z H z):DeedIs Z H f z
def DeedIs.keep(h:DeedIs Z H a z)(f:Tup H H'):DeedIs Z H' a z:=by
 obtain⟨pv,gv,h1,h2⟩:=h;exact⟨pv,gv,f _ _ h1,h2.keep f⟩
inductive KindIs(Z:Str->Str->Prop)(H:Hp)(u:Addr)(y:Str×List Dz):Prop
 | mk(e:V)(dt:Addr)(fs:List Addr)(h1:H u=some (.tup [.str y.1,e,.ref dt]))(h2:H dt=some (.tup (fs.map V.ref)))(h3:↑fs=↑y.2)(h4:∀(j:Nat) f z,fs[j]?=some f->y.2[j]?=some z->DeedIs Z H f z)(h5:↑fs<=80):KindIs Z H u y
def KindIs.keep(h:KindIs Z H a z)(f:Tup H H'):KindIs Z H' a z:=by
 obtain⟨e,dt,fs,h1,h2,h3,h4,h5⟩:=h;exact⟨e,dt,fs,f _ _ h1,f _ _ h2,h3,fun j g z a b=>(h4 j g z a b).keep f,h5⟩
inductive ProgIs(Z:Str->Str->Prop)(H:Hp)(p:Addr)(ks:List (Str×List Dz))(m0:Dz):Prop
 | mk(kt:Addr)(us:List Addr)(lt:V)(h1:H p=some (.tup [.ref kt,lt,.ref m0.2.1]))(h2:H kt=some (.tup (us.map V.ref)))(h3:↑us=↑ks)(h4:∀(j:Nat) u y,us[j]?=some u->ks[j]?=some y->KindIs Z H u y)(h5:RowsIs Z H m0)(h6:↑ks<=12):ProgIs Z H p ks m0
def ProgIs.keep(h:ProgIs Z H p ks m0)(f:Tup H H'):ProgIs Z H' p ks m0:=by
 obtain⟨kt,us,lt,h1,h2,h3,h4,h5,h6⟩:=h;exact⟨kt,us,lt,f _ _ h1,f _ _ h2,h3,fun j g z a b=>(h4 j g z a b).keep f,h5.keep f,h6⟩
def Tup.dk(hp:H p=some (.dK kv)):Tup H (upd H p o):=fun b xs h=>by
 rw[zb5 (fun z=>by rw[z,hp]at h;cases h)];exact h
inductive LateAt(H:Hp)(p:Addr):Prop
 | mk(kt lt:Addr)(m:V)(late:List Str)(h1:H p=some (.tup [.ref kt,.ref lt,m]))(h2:H lt=some (.tup (late.map V.str)))(h3:↑late<=64):LateAt H p
def LateAt.keep(h:LateAt H p)(f:Tup H H'):LateAt H' p:=by
 obtain⟨kt,lt,m,late,h1,h2,h3⟩:=h;exact⟨kt,lt,m,late,f _ _ h1,f _ _ h2,h3⟩
def KindsAt.keepT(h:KindsAt H p tr)(f:Tup H H'):KindsAt H' p tr:=by
 obtain⟨kt,ts,x,y,h1,h2,h3,h4⟩:=h;refine⟨kt,ts,x,y,f _ _ h1,f _ _ h2,h3,fun j t z a b=>?_⟩;obtain⟨v,hv⟩:=h4 j t z a b;exact⟨v,f _ _ hv⟩
structure Lnk(Z:Str->Str->Prop)(ks:List (Str×List Dz))(tr:Tr):Prop where
 nm:ks.map (·.1)=tr.map (·.1)
 hz:∀k d,Z k d->k∈tr.map (·.1)/\∃n l,Up tr k l/\n∈l/\∃y∈ks,y.1=n/\∃z∈y.2,z.1=d
 dl:∃ds:List Str,↑ds<=6/\∀k d,Z k d->d∈ds
inductive wg7(vs:List V)(H:Hp)(Q:VK):Prop
 | mk(hd:Addr)(mo d m t r:Int)(h1:vs=[.ref hd,.int mo])(h0:0<=mo/\mo<=80)(h2:Hand H hd d m t r)(h3:t<=1000)
  (h4:∀(p:Addr)(ks:List (Str×List Dz))(m0:Dz)(tr:Tr)(Z:Str->Str->Prop)(H':Hp)(d' m' t' r':Int),FrS [hd] H H'->ProgIs Z H' p ks m0->KindsAt H' p tr->TrOk tr->↑tr<=12->LateAt H' p->Lnk Z ks tr->Hand H' hd d' m' t' r'->t'<=10000->Q (.ref p) H'):wg7 vs H Q
def xn0:Sp:=fun vs H Q _=>wg7  vs H Q
def Heads(Z:Str->Str->Prop)(H:Hp)(fs:List Addr):Prop:=∀f∈fs,∃z,DeedIs Z H f z
def Heads.keep(h:Heads Z H fs)(g:Tup H H'):Heads Z H' fs:=fun f hf=>by
 obtain⟨z,a⟩:=h f hf;exact⟨z,a.keep g⟩
inductive BKv(Z:Str->Str->Prop)(Hb H:Hp)(c:Nat)(v:V):Prop
 | mk(p:Addr)(fs:List Addr)(h1:v=.ref p)(h2:H p=some (.lst (fs.map V.ref)))(h3:↑fs<=c)(h4:Hb p=none)(h5:Heads Z H fs):BKv Z Hb H c v
def BK(Z:Str->Str->Prop)(Hb H:Hp)(kvs:List (Key×V))(c:Nat):Prop:=↑kvs<=c/\∀k v,valV kvs k=some v->BKv Z Hb H c v
def BK.keep(h:BK Z Hb H kvs c)(f:FrS M H H')(hm:∀p,Hb p=none->p∉M)(tp:Tup H H'):BK Z Hb H' kvs c:=⟨h.1,fun k v e=>by
 obtain⟨p,xs,a,b,c',d,g⟩:=h.2 k v e;exact⟨p,xs,a,f _ _ (hm p d) b,c',d,g.keep tp⟩⟩
def BK.put(h:BK Z Hb H kvs c)(hp:H p=some (.lst (fs.map V.ref)))(hl:↑fs<=c+1)(hb:Hb p=none)(hg:Heads Z H fs):BK Z Hb H (putK kvs k (.ref p)) (c+1):=by
 refine⟨by have:=zg5 kvs k (V.ref p);have:=h.1;lia,fun k' v e=>?_⟩;rw[zm4]at e
 by_cases z:k'=k
 .rw[vd3 z]at e;cases e;exact⟨p,fs,rfl,hp,hl,hb,hg⟩
 .rw[vd0 z]at e;obtain⟨p',a0,a,b,c',d,g⟩:=h.2 k' v e;exact⟨p',a0,a,b,by lia,d,g⟩
def BK.app(h:BK Z Hb H kvs c)(hp:H p=some (.lst xs))(hl:↑gs<=c)(hg:Heads Z H gs):BK Z Hb (upd H p (.lst (gs.map V.ref))) kvs c:=by
 have kp:Tup H (upd H p (.lst (gs.map V.ref))):=Tup.lst hp;refine⟨h.1,fun k v e=>?_⟩;obtain⟨p',a0,a,b,c',d,g⟩:=h.2 k v e
 by_cases z:p'=p
 .subst z;exact⟨p',gs,a,zb1,hl,d,hg.keep kp⟩
 .exact⟨p',a0,a,by rw[zb5 z];exact b,c',d,g.keep kp⟩
def BK.more(h:BK Z Hb H kvs c)(hc:c<=c'):BK Z Hb H kvs c':=⟨by have:=h.1;lia,fun k v e=>by
 obtain⟨p',a0,a,b,a1,d,g⟩:=h.2 k v e;exact⟨p',a0,a,b,by lia,d,g⟩⟩
def mk_ds:∀fs:List Addr,Heads Z H fs->∃zs:List Dz,↑fs=↑zs/\∀(i:Nat) f z,fs[i]?=some f->zs[i]?=some z->DeedIs Z H f z
 | [],_=>⟨[],rfl,fun i f d h=>by simp at h⟩
 | f::fs,h=>by
  obtain⟨d,e⟩:=h f (.head _);obtain⟨ds,h1,h2⟩:=mk_ds fs fun g hg=>h g (.tail _ hg);refine⟨d::ds,vg1 (·+1) h1,fun i g d' hg hd=>?_⟩;cases i with
  | zero=>cases hg;cases hd;exact e
  | succ i=>exact h2 i g d' hg hd
inductive KAt(Z Wn:Str->Str->Prop)(H:Hp)(u:Addr)(z:Str×Option Str):Prop
 | mk(dt:Addr)(fs:List Addr)(h1:H u=some (.tup [.str z.1,eldV z.2,.ref dt]))(h2:H dt=some (.tup (fs.map V.ref)))(h3:↑fs<=80)(h4:Heads Z H fs)(h5:∀d,Wn z.1 d->∃f∈fs,∃y,DeedIs Z H f y/\y.1=d):KAt Z Wn H u z
def KAt.keep(h:KAt Z Wn H u z)(g:Tup H H'):KAt Z Wn H' u z:=by
 obtain⟨dt,fs,h1,h2,h3,h4,h5⟩:=h;exact⟨dt,fs,g _ _ h1,g _ _ h2,h3,h4.keep g,fun d hd=>by
  obtain⟨f,hf,y,hy,e⟩:=h5 d hd;exact⟨f,hf,y,hy.keep g,e⟩⟩
def mk_ks:∀(us:List Addr)(tr:Tr),A2 (KAt Z Wn H) us tr->∃ks:List (Str×List Dz),↑us=↑ks/\(∀(j:Nat) u y,us[j]?=some u->ks[j]?=some y->KindIs Z H u y)/\ks.map (·.1)=tr.map (·.1)/\∀y∈ks,∀d,Wn y.1 d->∃z∈y.2,z.1=d
 | [],_,.nil=>⟨[],rfl,(fun i f d h=>by simp at h),rfl,fun _ h=>nomatch h⟩
 | u::us,_,.cons (b:=z) g gt=>by
  obtain⟨dt,fs,e1,e2,e3,e4,e5⟩:=g;obtain⟨zs,z1,z2⟩:=mk_ds fs e4;obtain⟨ks,h1,h2,h3,h4⟩:=mk_ks us _ gt;refine⟨(z.1,zs)::ks,vg1 (·+1) h1,fun i g d' hg hd=>?_,vg1 (z.1::·) h3,fun y hy d hd=>?_⟩
  .cases i with
   | zero=>cases hg;cases hd;exact⟨_,dt,fs,e1,e2,z1,z2,e3⟩
   | succ i=>exact h2 i g d' hg hd
  .rcases vb4.mp hy with rfl | hy
   .obtain⟨f,hf,y,hy,e⟩:=e5 d hd;obtain⟨i,hi⟩:=vf9.mp hf;have a0:i<↑zs:=by rw[<-z1];exact(wz2.mp hi).1
    obtain⟨_,_,g1,_⟩:=z2 i f zs[i] hi (zz2 a0);obtain⟨_,_,g2,_⟩:=hy;rw[g1]at g2;exists zs[i],vg6 a0;injection g2 with g2;injection g2 with g2;injection g2 with g2 _;exact(V.str.inj g2).trans e
   .exact h4 y hy d hd
def Got(Z:Str->Str->Prop)(H:Hp)(kvs:List (Key×V))(x d:Str):Prop:=∃(p:Addr)(fs:List Addr),valV kvs (Sum.inr x)=some (.ref p)/\H p=some (.lst (fs.map V.ref))/\∃f∈fs,∃y,DeedIs Z H f y/\y.1=d
def Got.keep(h:Got Z H kvs x d)(hB:BK Z Hb H kvs c)(f:FrS M H H')(hm:∀p,Hb p=none->p∉M)(tp:Tup H H'):Got Z H' kvs x d:=by
 obtain⟨p,fs,e,hp,g,hg,y,hy,ey⟩:=h;obtain⟨p',_,e1,_,_,e2,_⟩:=hB.2 _ _ e;cases e1;exact⟨p,fs,e,f _ _ (hm p e2) hp,g,hg,y,hy.keep tp,ey⟩
def yn4:∀{l l':List Addr},l.map V.ref=l'.map V.ref->l=l'
 | [],[],_=>rfl
 | [],_::_,h=>by cases h
 | _::_,[],h=>by cases h
 | x::l,y::l',h=>by
  rw[vf5,vf5]at h;injection h with h1 h2;rw[V.ref.inj h1,yn4 h2]
def Got.app(h:Got Z H kvs x d)(hp:H pl=some (.lst (gs.map V.ref))):Got Z (upd H pl (.lst ((gs++[g0]).map V.ref))) kvs x d:=by
 obtain⟨p,fs,e,a0,g,hg,y,hy,ey⟩:=h;have tp:Tup H (upd H pl (.lst ((gs++[g0]).map V.ref))):=Tup.lst hp
 by_cases c:p=pl
 .subst c;rw[hp]at a0;injection a0 with a0;injection a0 with a0;have:=yn4 a0;subst this;exact⟨p,gs++[g0],e,zb1,g,vp6 _ hg,y,hy.keep tp,ey⟩
 .exact⟨p,fs,e,by rw[zb5 c];exact a0,g,hg,y,hy.keep tp,ey⟩
def Got.put(h:Got Z H kvs x d)(hv:valV kvs (Sum.inr x')=none):Got Z H (putK kvs (Sum.inr x') v) x d:=by
 obtain⟨p,fs,e,r⟩:=h;refine⟨p,fs,?_,r⟩;rw[zm4,vd0]
 .exact e
 .intro z;rw[z,hv]at e;cases e
def Got.dk(h:Got Z H kvs x d)(hb:H b=some (.dK kv)):Got Z (upd H b (.dK kv')) kvs x d:=by
 obtain⟨p,fs,e,a0,g,hg,y,hy,ey⟩:=h;exact⟨p,fs,e,by rw[zb5 (fun z=>by rw[z,hb]at a0;cases a0)];exact a0,g,hg,y,hy.keep (Tup.dk hb),ey⟩
def WnD(D:WD)(x d:Str):Prop:=d∈D.deeds/\x∈D.own d
def Gots(D:WD)(i:Nat)(H:Hp)(kvs:List (Key×V)):Prop:=∀j,j<i->∀dn,D.deeds[D.deeds.length-1-j]?=some dn->∀x∈D.own dn,Got (HsD D) H kvs x dn
def wn5(D:WD)(i j:Nat)(H:Hp)(kvs:List (Key×V)):Prop:=∀dn,D.deeds[D.deeds.length-1-i]?=some dn->∀jj,jj<j->∀x,(D.own dn)[jj]?=some x->Got (HsD D) H kvs x dn
inductive PInv(mo:Int)(H1:Hp)(hd wd bk:Addr)(WA:WA)(D:WD)(t1:Int)(i:Nat)(σ:St)(Hx:Hp):Prop
 | mk(lx kx:Option V)(tx rx:Int)(kvs:List (Key×V))(h1:σ=[some (.ref hd),some (.int mo),some (.ref wd),some (.ref bk),lx,kx,none,none])(h2:Sit0 Hx hd wd WA D tx rx)(h3:FrS (M0 hd WA) H1 Hx)(h4:0<=rx)(h5:rx<=54)(h6:tx+25*rx<=t1+1350+195*(i:Int))(h7:Hx bk=some (.dK kvs))(h8:BK (HsD D) H1 Hx kvs (13*i))(h9:Gots D i Hx kvs):PInv mo H1 hd wd bk WA D t1 i σ Hx
inductive QInv(mo:Int)(H1:Hp)(hd wd bk:Addr)(WA:WA)(D:WD)(t1 lv:Int)(i j:Nat)(σ:St)(Hy:Hp):Prop
 | mk(ky:Option V)(ty ry:Int)(kvs:List (Key×V))(h1:σ=[some (.ref hd),some (.int mo),some (.ref wd),some (.ref bk),some (.int lv),ky,none,none])(h2:Sit0 Hy hd wd WA D ty ry)(h3:FrS (M0 hd WA) H1 Hy)(h4:0<=ry)(h5:ry<=54)(h6:ty+25*ry<=t1+1350+195*(i:Int)+15*(j:Int))(h7:Hy bk=some (.dK kvs))(h8:BK (HsD D) H1 Hy kvs (13*i+j))(h9:Gots D i Hy kvs)(h10:wn5 D i j Hy kvs):QInv mo H1 hd wd bk WA D t1 lv i j σ Hy
section
abbrev nProg:List Str:=[qH,"_law_most",qW,"_law_done_by","_law_level","_law_kind","_law_main","_law_kinds"]
def yf1:zd0 nProg [qH,"_law_most"] (zc1 wp4):=fsc
def wr7(F:Fun K "_law_program" "_law_program" wp4 f fd)(T:Cal P w K mg base k "_law_take" qB zh6)(O:Cal P w K mg base k "_law_of" qC (spOf K))(W:Cal P w K mg base k "_law_world" [qH] yx9)(DE:Cal P w K mg base k "_law_deed" wp7 xd5)(R:Cal P w K mg base k "_law_rows" yg7 (yf3 4))(ml:mg "len"=none)(mr:mg "range"=none)(bp:mg "tuple"=none)(d5:mg "sorted"=none):
  FnOk P w K mg base CX0 (k+1) f fd [qH,"_law_most"] xn0:=by
 refine F.ok yf1 (fun vs H Q E h=>?_) (fun fq A outer s H vs Q E hr h=>?_)
 .obtain⟨hd,mo,d,m,t,r,rfl,_⟩:=h;rfl
 obtain⟨hd,mo,d,m,t,r,rfl,fk,hh,ht,q⟩:=h;have c3:0<=mo-mo / 3/\mo-mo / 3<=54:=by lia
 have fm:0<=mo / 3/\mo / 3<=26:=by lia
 have hu:=zn5 hr;have cq:(["_law_name","_law_elder","_law_done_by"]:List Str).Nodup:=by rfl'
 exists _,zb3 (sL 2 yf1.nd (zb9 W hr rfl (zb0 (pv 0) zb2)))
  (zb3 (zk7 (i:=3) yf1.nd rfl (Or.inr rfl) zq5)
  (zb3 (zx0 (zf2 zw9 (pv 1) (zf2 yc2 (pv 1) zb6)) (yj2 (pv 0) zb6 zq1))
  (zb3 (zf9 vd5 rfl (wt6 rfl mr (zb0 (zf2 zw9 (zc5 zd5 rfl ml vg7 (zb0 (zc6 hu (pv 2) zd3 (fun _ _=>rfl)) zb2)) zb6) (zb0 (yg8 zq8 zb6) (zb0 (yg8 zq8 zb6) zb2)))) (gL 4 yf1.nd)
   (zb7 (zf9 vd5 rfl (zf6 (zc6 hu (zc6 hu (pv 2) zd3 (fun _ _=>rfl)) (eI (zc6 hu (pv 2) zd3 (fun _ _=>rfl)) (pv 4)) (fun _ _=>rfl))) (gL 5 yf1.nd)
    (zb7 (zf5 (zk8 vd2 vd9 vf0 zd8 (wv1 (pv 3) (pv 5) (zd7 zb2) ⟨rfl,rfl,rfl,rfl⟩) (zb0 (zb9 DE hr rfl (zb0 (pv 0) (zb0 (pv 2) (zb0 (pv 5) (zb0 (pv 4) zb2))))) zb2)))))))
  (zb3 (zx0 (zf2 zm3 (eI (pv 0) zb6) (zf2 yc2 (pv 1) zb6)) (yj2 (pv 0) zb6 zq1))
  (zb3 (sL 6 yf1.nd (zb9 R hr rfl (zb0 (pv 0) (zb0 (pv 2) (zb0 zq5 (zb0 (yg8 zq8 zb6) (zb0 (zb9 T hr rfl (zb0 (pv 0) (zb0 zb6 zb2)))
   (zb0 (zb9 O hr rfl (zb0 (pv 0) (zb0 (zd7 (zf3 (zf3 (zf3 (zf3 zb2))))) zb2))) zb2))))))))
  (zb3 (zj0 (i:=7) (N':=["_law_name","_law_elder","_law_done_by"]) (src:=[none,none,some 3]) rfl yf1.nd rfl rfl bkn
   (zf6 (zc6 hu (pv 2) zd3 (fun _ _=>rfl))) (g:=gTup K 2 (zk0 (zf0 0) (zk0 (zf0 1) gNil))) (fun _ _ _ _=>zh4 (n:=2) rfl (zc0 (gL 0 cq) (zc0 (gL 1 cq) zf8)))
   (fun _ _ _ _=>zg2)
   (te:=tTup (zc3 (tVar 0) (zc3 (tVar 1) (zc3 (tCB (fun xs H Q=>∃p ys,xs=[.ref p]/\((SqL K H p ys/\∀l,H l=none->Q (.ref l) (upd H l (.tup ys)))\/(SqT K H p ys/\Q (.ref p) H))) (zc3 (tRev K (wg9 (tVar 2) (tVar 0) (tLst tNil)) (tUn (rU fun i=>.int (-i)) (tC (.int 1)))) tNil)) tNil))))
   (fun _ _ _ _=>zf1 (zb0 (pv 0) (zb0 (pv 1) (zb0 (zc7 zc8 rfl bp (by rfl') (zb0 (wm3 (wd2 hu (pv 2) (pv 0) (zd7 zb2) ⟨rfl,rfl,rfl,rfl⟩) (yg8 zq8 zb6)) zb2)) zb2)))))
  (zb7 (zd1 (zf1 (zb0 (zc7 zc8 rfl bp (by rfl') (zb0 (pv 7) zb2)) (zb0 (zc7 zc8 rfl bp (by rfl') (zb0 (zc5 zk4 rfl d5 (by rfl') (zb0 (zc6 hu (pv 2) zd3 (fun _ _=>rfl)) zb2)) zb2)) (zb0 (pv 6) zb2))))))))))))
 ac_rfl
 refine⟨_,rfl,hd,d,m,t,r,rfl,hh,by lia,fun wd WA D H1 t1 S1 f1 as b0 f6=>?_⟩;have h6:=S1.ok.d6;have ee:=S1.ok.l12;intro bk b7;have S2:=S1.fr0 (FrS.new (S:=[]) (o:=.dK []) b7);have ae:bk∉M0 hd WA:=S1.notin b7;obtain⟨d2,m2,eu,es⟩:=S2.hand;exists _,rfl,_,rfl,_,_,rfl,rfl,⟨by lia,by decide⟩,_,_,rfl,rfl,_,rfl,hd,_,3,3,rfl,rfl,eu,rfl;have am:bk≠hd:=fun z=>ae (by rw[z];simp)
 have S3:Sit0 (upd (upd H1 bk (.dK [])) hd (hl d2 m2 t1 (mo-mo / 3))) hd wd WA D t1 (mo-mo / 3):=S2.setHand es;have f3:FrS (M0 hd WA) H1 (upd (upd H1 bk (.dK [])) hd (hl d2 m2 t1 (mo-mo / 3))):=(FrS.new b7).put' (by trivial);have bu:upd (upd H1 bk (.dK [])) hd (hl d2 m2 t1 (mo-mo / 3)) bk=some (.dK []):=by rw[zb5 am];exact zb1
 have hM:∀p,H1 p=none->p∉M0 hd WA:=fun p hp=>S1.notin hp;exists _,rfl,wd,_,rfl,S3.w.g.2.2.1,WA.deeds,_,rfl,.inl (SqL.of S3.w.deeds.2),_,_,rfl,rfl,_,rfl,_,rfl,_,_,rfl,?_
 .rw[lqm];exact⟨by lia,by lia,by decide,by decide⟩
 have di:1<=D.deeds.length:=vz0.mpr S1.ok.d1;have en:((↑(D.deeds.map V.str):Int)-1-(-1)).toNat=D.deeds.length:=by rw[lqm];lia
 rw[en];refine wf9 (hi:=((↑(D.deeds.map V.str):Nat):Int)-1) (n:=D.deeds.length) (PInv mo H1 hd wd bk WA D t1)
  ⟨_,_,t1,mo-mo / 3,[],rfl,S3,f3,c3.1,c3.2,by lia,bu,⟨by simp,(fun k v e=>nomatch e)⟩,fun j hj=>absurd hj (Nat.not_lt_zero _)⟩ ?_ ?_
 .rintro i σ Hx hi ⟨lx,kx,tx,rx,kvs,rfl,Sx,fx,dx,dl,fe,bc,ef,hG⟩;have b9:D.deeds.length-1-i<D.deeds.length:=by lia
  have c2:((↑(D.deeds.map V.str):Nat):Int)-1-(i:Int)=((D.deeds.length-1-i:Nat):Int):=by rw[lqm];lia
  have et:atI (D.deeds.map V.str) (((↑(D.deeds.map V.str):Nat):Int)-1-(i:Int))=some (.str D.deeds[D.deeds.length-1-i]):=by
   rw[c2];exact zr3 (by rw[wz5,zz2 b9];rfl)
  have ep:D.deeds[D.deeds.length-1-i]∈D.deeds:=vg6 b9;obtain⟨op,o1,o2,o3,o4⟩:=S1.w.ol _ ep;have bj:D.deeds[D.deeds.length-1-i]?=some D.deeds[D.deeds.length-1-i]:=zz2 b9;generalize hos:D.own D.deeds[D.deeds.length-1-i]=os at o2 o3 o4;have df:=o2.keep fx;exists _,rfl,wd,_,rfl,Sx.w.g.2.2.2.2.1,_,rfl,wd,_,rfl,Sx.w.g.2.2.1,_,rfl,WA.deeds,_,_,_,rfl,rfl,SqL.of Sx.w.deeds.2,et,WA.owners,_,rfl,.inl ⟨_,Sum.inr _,.inl Sx.w.owners.2,rfl,o1.symm⟩,op,rfl,⟨_,SqL.of df.2⟩;refine zm5 (xs:=os.map V.str) (QInv mo H1 hd wd bk WA D t1 (((↑(D.deeds.map V.str):Nat):Int)-1-(i:Int)) i)
   ⟨_,tx,rx,kvs,rfl,Sx,fx,dx,dl,by lia,bc,ef,hG,fun _ _ jj hj=>absurd hj (Nat.not_lt_zero _)⟩ ?_ ?_ ?_
  .rintro j σ Hy hj ⟨_,_,_,_,_,_,fy,_⟩;exact SqL.of (o2.keep fy).2
  .rintro j x σ Hy hx ⟨ky,ty,ry,kvs,rfl,Sy,fy,bi,ca,cg,b6,a8,bg,b8⟩;obtain⟨hj,_⟩:=wz2.mp hx;rw[lqm]at hj;rw[wz5,zz2 hj]at hx;cases hx;have ek:os[j]∈D.names:=o3 _ (vg6 hj);refine⟨_,rfl,bk,rfl,.inl ⟨_,.inl b6⟩,_,rfl,vc9 _,fun pe ab=>?_⟩;have Sz:=Sy.fr0 (FrS.new (S:=[]) (o:=.lst []) ab);have fz:FrS (M0 hd WA) H1 (upd Hy pe (.lst [])):=fy.trans (FrS.new ab);have ac:upd Hy pe (.lst []) bk=some (.dK kvs):=by rw[zb5 (zb4 b6 ab)];exact b6
   have a9:BK (HsD D) H1 (upd Hy pe (.lst [])) kvs (13*i+j):=a8.keep (FrS.new ab) hM (Tup.new ab);have bv:Gots D i (upd Hy pe (.lst [])) kvs:=fun j' a6 dn hd x hx=>(bg j' a6 dn hd x hx).keep a8 (FrS.new ab) hM (Tup.new ab);have bw:wn5 D i j (upd Hy pe (.lst [])) kvs:=fun dn hd jj a6 x hx=>(b8 dn hd jj a6 x hx).keep a8 (FrS.new ab) hM (Tup.new ab);have au:H1 pe=none:=fy.old Sy.have_ ab;have aa:upd Hy pe (.lst []) pe=some (.lst []):=zb1;generalize upd Hy pe (.lst [])=Hz at Sz fz ac a9 aa bv bw;have go:∀(pl:Addr)(fs:List Addr)(ah:List (Key×V))(Hv:Hp),Sit0 Hv hd wd WA D ty ry->FrS (M0 hd WA) H1 Hv->Hv bk=some (.dK ah)->BK (HsD D) H1 Hv ah (13*i+j+1)->Hv pl=some (.lst (fs.map V.ref))->↑fs<=13*i+j->H1 pl=none->Heads (HsD D) Hv fs->Gots D i Hv ah->wn5 D i j Hv ah->valV ah (Sum.inr os[j])=some (.ref pl)->
     BBm K "list" zw0 (zc3 (zm8 xd5 [] E0 (zc3 (tVar 0) (zc3 (tVar 2) (zc3 (tVar 5) (zc3 (tVar 4) tNil))))) tNil) (.ref pl) [some (.ref hd),some (.int mo),some (.ref wd),some (.ref bk),some (.int (((↑(D.deeds.map V.str):Nat):Int)-1-(i:Int))),some (.str os[j]),none,none] Hv fun _ d3=>
      QInv mo H1 hd wd bk WA D t1 (((↑(D.deeds.map V.str):Nat):Int)-1-(i:Int)) i (j+1) [some (V.ref hd),some (.int mo),some (.ref wd),some (.ref bk),some (.int (((↑(D.deeds.map V.str):Nat):Int)-1-(i:Int))),some (.str os[j]),none,none] d3:=by
    intro pl fs ah Hv Sv fv dw aj az g0 ar e0 ei e4 e6;refine⟨.inl ⟨rfl,_,SqL.of az⟩,_,rfl,_,rfl,_,rfl,_,rfl,hd,wd,WA,D,ty,ry,os[j],D.deeds.length-1-i,by rw[c2];rfl,ek,b9,Sv,bi,by lia,fun xn dn pv gv ln bd ap Hw tw cz c9 ce c5 cx ft Sw fw dg fr fp=>?_⟩;have a5:=fw _ _ (hM pl ar) az;have br:=fw _ _ ae dw;have ba:Tup Hv Hw:=Sv.tup fw;have e8:Heads (HsD D) Hw (fs++[xn]):=fun f hf=>by
     rcases vc4.mp hf with hf | hf
     .exact(e0.keep ba) f hf
     .have e:f=xn:=by simpa using hf
      rw[e];exact⟨(dn,ln,bd,ap),pv,gv,ce,c5,cx,by show ↑ap<=80;lia⟩
    have So:=Sit0.own (o:=.lst ((fs++[xn]).map V.ref)) S1 Sw (fv.trans fw) ar;have ea:fs.map V.ref++[V.ref xn]=(fs++[xn]).map V.ref:=by rw[wz9];rfl
    exists pl,_,_,rfl,rfl,a5,zb8 (by rw[lqm];lia);rw[ea];have dd:=aj.keep fw hM ba;refine⟨_,tw,cz,ah,rfl,So.1,So.2,dg,by lia,by lia,?_,?_,fun j' a6 a7 a0 x hx=>((ei j' a6 a7 a0 x hx).keep aj fw hM ba).app a5,fun a7 a0 jj a6 x hx=>?_⟩
    .rw[zb5 (fun z=>by rw[z,a5]at br;cases br)];exact br
    .exact dd.app a5 (by rw[wz4,vc1];lia) e8
    .rcases vq1 jj j with aq | aq
     .exact((e4 a7 a0 jj aq x hx).keep aj fw hM ba).app a5
     .have e5:jj=j:=by lia
      rw[bj]at a0 c9;cases a0;cases c9;rw[hos,e5,zz2 hj]at hx;cases hx;exact⟨pl,fs++[xn],e6,zb1,xn,vd4 _ (vc7.mpr rfl),(_,ln,bd,ap),⟨pv,gv,(Tup.lst a5) _ _ ce,(⟨c5,cx,by show ↑ap<=80;lia⟩:RowsIs (HsD D) Hw (_,ln,bd,ap)).keep (Tup.lst a5)⟩,rfl⟩
   refine⟨kvs,Sum.inr os[j],ac,rfl,zb8 (by have:=a9.1;lia),fun v hv=>?_,fun hv=>?_⟩
   .obtain⟨pl,xs,rfl,a1,a2,a3,a4⟩:=a9.2 _ _ hv;exact go pl xs kvs Hz Sz fz ac (a9.more (by lia)) a1 a2 a3 a4 bv bw hv
   .have So:=Sit0.own (o:=.dK (putK kvs (Sum.inr os[j]) (.ref pe))) S1 Sz fz b7;have f0:pe≠bk:=fun z=>by rw[z,ac]at aa;cases aa
    refine go pe [] (putK kvs (Sum.inr os[j]) (.ref pe)) _ So.1 So.2 zb1 ?_ (by rw[zb5 f0];exact aa) (vc9 _) au (fun _ h=>by cases h) (fun j' a6 a7 a0 x hx=>((bv j' a6 a7 a0 x hx).put hv).dk ac) (fun a7 a0 jj a6 x hx=>((bw a7 a0 jj a6 x hx).put hv).dk ac) (by rw[zm4,vd3 rfl]);have h1:=a9.put (fs:=[]) (k:=(Sum.inr os[j]:Key)) aa (vc9 _) au (fun _ h=>by cases h);refine⟨h1.1,fun k v e=>?_⟩;obtain⟨p',be,b1,b2,b3,b4,b5⟩:=h1.2 k v e;exact⟨p',be,b1,by rw[zb5 (fun z=>by rw[z,ac]at b2;cases b2)];exact b2,b3,b4,b5.keep (Tup.dk ac)⟩
  .rintro σ Hy ⟨ky,ty,ry,kvs,rfl,Sy,fy,bi,ca,cg,b6,a8,bg,b8⟩;rw[lqm]at cg a8 b8;refine⟨_,_,ty,ry,kvs,rfl,Sy,fy,bi,ca,by lia,b6,a8.more (by lia),fun j' a6 a7 a0 x hx=>?_⟩;rcases vq1 j' i with c | c
   .exact bg j' c a7 a0 x hx
   .have ej:j'=i:=by lia
    subst ej;rw[bj]at a0;cases a0;rw[hos]at hx;obtain⟨jj,aq⟩:=vf9.mp hx;exact b8 _ bj jj (wz2.mp aq).1 x (by rw[hos];exact aq)
 rintro σ H4 ⟨lx,kx,t4,r4,kvs,rfl,S4,f4,g1,fj,fl,cy,an,ex⟩;obtain⟨d4,m4,cp,d0⟩:=S4.hand;exists _,rfl,hd,_,_,_,rfl,rfl,SqL.of cp,at3,_,rfl,_,_,rfl,rfl,⟨by lia,by decide⟩,_,_,rfl,rfl,_,rfl,hd,_,3,3,rfl,rfl,cp,rfl;have S5:Sit0 (upd H4 hd (hl d4 m4 t4 (r4+mo / 3))) hd wd WA D t4 (r4+mo / 3):=S4.setHand d0;have f5:FrS (M0 hd WA) H1 (upd H4 hd (hl d4 m4 t4 (r4+mo / 3))):=f4.put' (by trivial);have cm:upd H4 hd (hl d4 m4 t4 (r4+mo / 3)) bk=some (.dK kvs):=by rw[zb5 am];exact cy
 have ai:BK (HsD D) H1 (upd H4 hd (hl d4 m4 t4 (r4+mo / 3))) kvs (13*D.deeds.length):=an.keep (M:=M0 hd WA) (FrS.chg (.head _)) hM (S4.tup (FrS.chg (.head _)));have cj:Gots D D.deeds.length (upd H4 hd (hl d4 m4 t4 (r4+mo / 3))) kvs:=fun j' a6 a7 a0 x hx=>(ex j' a6 a7 a0 x hx).keep an (M:=M0 hd WA) (FrS.chg (.head _)) hM (S4.tup (FrS.chg (.head _)));have ew:∀{G:Hp->Prop},G (upd H4 hd (hl d4 m4 t4 (r4+mo / 3)))->G (upd H4 hd (.lst ([V.int d4,V.int m4,V.int t4,V.int r4].set 3 (V.int (r4+mo / 3))))):=fun h=>h;refine ew ?_;generalize upd H4 hd (hl d4 m4 t4 (r4+mo / 3))=H5 at S5 f5 cm ai cj;refine⟨_,rfl,_,rfl,fun ad bx=>?_⟩;have ds:H1 ad=none:=f5.old S5.have_ bx;have Se:Sit (upd H5 ad (.dK [])) hd ad wd WA D t4 (r4+mo / 3):=S5.open bx DOk.nil;have cu:∀Hf:Hp,FrS (Ms hd ad WA) (upd H5 ad (.dK [])) Hf->FrS (M0 hd WA) H5 Hf:=fun Hf ff=>FrS.close bx ff;generalize upd H5 ad (.dK [])=H6 at Se cu;obtain⟨d,m,f2⟩:=Se.hand;refine⟨_,rfl,_,rfl,hd,d,m,t4,r4+mo / 3,5,rfl,f2,by lia,by decide,by decide,fun x d7 m7 t7 x0 x1 c7 e7=>?_⟩;obtain⟨dp,rfl⟩:∃dp:Nat,x=(dp:Int):=⟨x.toNat,by lia⟩;have S7:=Se.setHand (r':=r4+mo / 3) c7;have f7:FrS (Ms hd ad WA) H6 (upd H6 hd (hl d7 m7 t7 (r4+mo / 3))):=FrS.chg (by trivial);refine⟨_,rfl,sz9 rfl,fun pi bq=>?_⟩;have Sa:=S7.fr0 (FrS.new (S:=[]) (o:=.lst [V.int 4,V.int 8,V.int 12,V.int 20]) bq);have fa:=f7.trans (FrS.new (o:=.lst [V.int 4,V.int 8,V.int 12,V.int 20]) bq);have bo:pi≠hd:=fun z=>S7.notin bq (by rw[z];simp)
 obtain⟨d,m,d9⟩:=Sa.hand;refine⟨hd,pi,d,m,t7,r4+mo / 3,_,rfl,d9,by lia,bo,SqL.of zb1,by simp,by show 4<1000;decide,fun y db mb tb hy cb eb=>?_⟩;obtain⟨mq,rfl,eq,e9⟩:∃mq:Int,y=.int mq/\0<=mq/\mq<=100:=by
  simp only[vb4,wz1,vj2]at hy;rcases hy with rfl | rfl | rfl | rfl
  .exact⟨4,rfl,by decide,by decide⟩
  .exact⟨8,rfl,by decide,by decide⟩
  .exact⟨12,rfl,by decide,by decide⟩
  .exact⟨20,rfl,by decide,by decide⟩
 have Sb:=Sa.setHand (r':=r4+mo / 3) cb;have fb:=fa.put' (a:=hd) (o:=hl db mb tb (r4+mo / 3)) (by trivial);refine⟨hd,ad,wd,WA,D,tb,r4+mo / 3,-1,mq,dp,rfl,by lia,eq,e9,Sb,by lia,by lia,fun mv cr bn Hc tc rc er el co Sc fc fh g2 fg=>?_⟩;have f8:=cu _ (fb.trans fc);have S8:=Sc.close;have cf:=f8 _ _ ae cm;have aw:=ai.keep f8 hM (S5.tup f8);have cn:Gots D D.deeds.length Hc kvs:=fun j' a6 a7 a0 x hx=>(cj j' a6 a7 a0 x hx).keep ai f8 hM (S5.tup f8);have c4:RowsIs (HsD D) Hc ("",mv,cr,bn):=⟨er,el,by show ↑bn<=80;lia⟩;have ck:=f5.trans f8;generalize Hc=H8 at f8 S8 cf aw ck c4 cn;obtain⟨ts,cl,fn,dv⟩:=S8.w.tree;refine⟨_,rfl,wd,_,rfl,S8.w.g.1,WA.tree,rfl,⟨_,SqL.of cl.2⟩,fun Dl cw=>?_⟩;refine zg9 (xs:=ts.map V.ref) (fun i σ Hx=>(∃x y,σ=[x,y,some (.ref bk)])/\FrS [] H8 Hx/\∃us:List Addr,↑us=i/\Hx Dl=some (.lst (us.map V.ref))/\A2 (KAt (HsD D) (WnD D) Hx) us (D.tr.take i)) ⟨⟨_,_,rfl⟩,(FrS.refl).put cw,[],rfl,zb1,.nil⟩ ?_ ?_ ?_
 .rintro i σ Hx hi ⟨_,fx,_⟩;exact SqL.of (fx _ _ (by trivial) cl.2)
 .rintro i x σ Hx hx ⟨⟨fo,g3,rfl⟩,fx,us,bh,eh,af⟩;rw[wz5]at hx;obtain⟨tt,ax,rfl⟩:=wz8.mp hx;obtain⟨hi,_⟩:=wz2.mp ax;have ch:D.tr[i]?=some D.tr[i]:=zz2 (by lia);have e3:=dv i tt _ ax ch;have bc:=fx _ _ (by trivial) cf;exists tt,_,rfl,SqT.of (fx _ _ (by trivial) e3.2),rfl,_,_,rfl,_,_,rfl,rfl;refine⟨_,rfl,_,rfl,_,rfl,bk,rfl,.inl ⟨_,.inl bc⟩,_,rfl,vc9 _,fun pd d8=>?_⟩;have f9:FrS [] Hx (upd Hx pd (.lst [])):=FrS.new d8;have cc:=f9 _ _ (by trivial) bc;have bb:=f9 _ _ (by trivial) eh;have c6:upd Hx pd (.lst []) pd=some (.lst []):=zb1;generalize upd Hx pd (.lst [])=H9 at f9 cc bb c6;have bf:FrS [] H8 H9:=fx.trans f9;obtain⟨pz,zs,ez,da,de,ed,dq⟩:∃(pz:Addr)(zs:List Addr),(valV kvs (Sum.inr D.tr[i].1)).getD (.ref pd)=.ref pz/\H9 pz=some (.lst (zs.map V.ref))/\↑zs<=80/\Heads (HsD D) H9 zs/\∀d,WnD D D.tr[i].1 d->∃f∈zs,∃y,DeedIs (HsD D) H9 f y/\y.1=d:=by
   have ao:∀d,WnD D D.tr[i].1 d->Got (HsD D) H8 kvs D.tr[i].1 d:=fun d hd=>by
    obtain⟨j,hj⟩:=vf9.mp hd.1;have fi:=(wz2.mp hj).1;refine cn (D.deeds.length-1-j) (by lia) d ?_ _ hd.2;rw[show D.deeds.length-1-(D.deeds.length-1-j)=j by lia];exact hj
   cases hv:valV kvs (Sum.inr D.tr[i].1)with
   | none=>
    refine⟨pd,[],rfl,c6,vc9 _,(fun _ h=>by cases h),fun d hd=>?_⟩;obtain⟨p',eg,e,_⟩:=ao d hd;rw[hv]at e;cases e
   | some v=>
    obtain⟨p',be,b1,b2,b3,_,b5⟩:=aw.2 _ _ hv;refine⟨p',be,b1,bf _ _ wz1 b2,by lia,b5.keep (Tup.of0 bf),fun d hd=>?_⟩;obtain⟨p2,eg,e,e2,g,hg,y,hy,ey⟩:=ao d hd;rw[hv,b1]at e;cases e;rw[b2]at e2;injection e2 with e2;injection e2 with e2;rw[<-yn4 e2]at hg;exact⟨g,hg,y,hy.keep (Tup.of0 bf),ey⟩
  refine⟨_,DGet.k (k:=(Sum.inr D.tr[i].1:Key)) cc,_,rfl,rfl,pz,_,ez,SqL.of da,fun ak dj=>?_⟩;rw[<-List.map_reverse];refine⟨ak,_,rfl,.inl ⟨SqL.of zb1,fun pu em=>?_⟩⟩;refine⟨sz9 rfl,fun pt al=>?_⟩;have fA:FrS [] H9 (upd (upd H9 ak (.lst (zs.reverse.map V.ref))) pu (.tup (zs.reverse.map V.ref))):=(FrS.new dj).trans (FrS.new em);have av:upd (upd H9 ak (.lst (zs.reverse.map V.ref))) pu (.tup (zs.reverse.map V.ref)) pu=some (.tup (zs.reverse.map V.ref)):=zb1;have bm:=fA _ _ (by trivial) bb;have ci:Heads (HsD D) (upd (upd H9 ak (.lst (zs.reverse.map V.ref))) pu (.tup (zs.reverse.map V.ref))) zs.reverse:=fun f hf=>let ⟨z,e⟩:=ed f (List.mem_reverse.mp hf);⟨z,e.keep (Tup.of0 fA)⟩
  have c0:∀d,WnD D D.tr[i].1 d->∃f∈zs.reverse,∃y,DeedIs (HsD D) (upd (upd H9 ak (.lst (zs.reverse.map V.ref))) pu (.tup (zs.reverse.map V.ref))) f y/\y.1=d:=fun d hd=>by
   obtain⟨f,hf,y,hy,ey⟩:=dq d hd;exact⟨f,List.mem_reverse.mpr hf,y,hy.keep (Tup.of0 fA),ey⟩
  generalize upd (upd H9 ak (.lst (zs.reverse.map V.ref))) pu (.tup (zs.reverse.map V.ref))=HA at fA bm al av ci c0;have ec:Dl≠pt:=zb4 bm al;have cs:upd HA pt (.tup [V.str D.tr[i].1,eldV D.tr[i].2,V.ref pu]) Dl=some (.lst (us.map V.ref)):=by rw[zb5 ec];exact bm
  refine⟨_,cs,by rw[lqm];exact zb8 (by lia),⟨_,_,rfl⟩,(((fx.trans f9).trans fA).trans (FrS.new al)).put cw,us++[pt],by rw[wz4,bh];rfl,by rw[zb1,wz9];rfl,?_⟩;have tl:Tup (upd HA pt (.tup [V.str D.tr[i].1,eldV D.tr[i].2,V.ref pu])) (upd (upd HA pt (.tup [V.str D.tr[i].1,eldV D.tr[i].2,V.ref pu])) Dl (.lst (us.map V.ref++[V.ref pt]))):=Tup.lst cs;have tn:=(Tup.new (o:=.tup [V.str D.tr[i].1,eldV D.tr[i].2,V.ref pu]) al).trans tl;rw[vc5,ch];exact(af.imp fun u z h=>h.keep (((Tup.of0 (f9.trans fA)).trans (Tup.new al)).trans tl)).snoc ⟨pu,zs.reverse,tl _ _ zb1,tn _ _ av,by rw[vs9];exact de,ci.keep tn,fun d hd=>by
   obtain⟨f,hf,y,hy,ey⟩:=c0 d hd;exact⟨f,hf,y,hy.keep tn,ey⟩⟩
 rintro σ H9 ⟨_,f9,us,bh,bb,af⟩;rw[lqm]at bh af;rw[vb2 (by lia)]at af;refine⟨_,rfl,Dl,_,rfl,.inl ⟨SqL.of bb,fun kt dc=>?_⟩⟩;have fA:FrS [] H9 (upd H9 kt (.tup (us.map V.ref))):=FrS.new dc;have ag:upd H9 kt (.tup (us.map V.ref)) kt=some (.tup (us.map V.ref)):=zb1;generalize upd H9 kt (.tup (us.map V.ref))=HA at fA ag;have SA:=(S8.fr0 f9).fr0 fA;refine⟨_,rfl,wd,_,rfl,SA.w.g.2.1,WA.late,D.late,rfl,SqL.of SA.w.late.2,by have:=SA.ok.lateLen;lia,fun ls bz dm ay _=>?_⟩;refine⟨ls,_,rfl,.inl ⟨SqL.of zb1,fun lt dz=>?_⟩⟩;refine⟨_,rfl,sz9 rfl,fun pr ct=>?_⟩;have fB:FrS [] HA (upd (upd (upd HA ls (.lst (bz.map V.str))) lt (.tup (bz.map V.str))) pr (.tup [V.ref kt,V.ref lt,V.ref mv])):=((FrS.new dm).trans (FrS.new dz)).trans (FrS.new ct);have bl:FrS [] H8 _:=(f9.trans fA).trans fB;obtain⟨ks,dr,ev,c8,eo⟩:=mk_ks (H:=H9) us _ af;have bs:=Tup.of0 (fA.trans fB);have dy:=(Tup.of0 f9).trans bs;have SB:=SA.fr0 fB;obtain⟨dh,mh,du⟩:=SB.hand;refine q pr ks ("",mv,cr,bn) D.tr (HsD D) _ dh mh tc rc ?_ ⟨kt,us,V.ref lt,zb1,fB _ _ wz1 ag,dr,fun j u z bt hz=>(ev j u z bt hz).keep bs,c4.keep dy,by lia⟩ ⟨kt,us,V.ref lt,V.ref mv,zb1,fB _ _ wz1 ag,af.len,fun j u z bt hz=>?_⟩ S1.ok.ok ee ⟨kt,lt,_,bz,zb1,?_,by rw[ay.length_eq];have:=SA.ok.lateLen;lia⟩ ⟨c8,fun k d cd=>⟨cd.1,?_⟩,D.deeds,S1.ok.d6,fun k d h=>h.2.1⟩ du (by lia)
 .intro b o n e;refine bl _ _ (by trivial) (ck b o (fun z=>?_) (f1 b o n e));simp only[M0,vb4,wz1,vj2]at z;rcases z with z | z | z
  .exact n (by rw[z];simp)
  .exact zb4 e as z
  .exact zb4 e b0 z
 .obtain⟨z',cv,dt,fs,e1,_⟩:=af.get bt;rw[hz]at cv;cases cv;exact⟨_,bs _ _ e1⟩
 .exact(Tup.new ct) _ _ zb1
 .obtain⟨_,a0,n,l,c1,hn,ho⟩:=cd;have co:n∈ks.map (·.1):=by
   rw[c8];exact c1.mem n hn
  obtain⟨y,hy,ey⟩:=vb9.mp co;exact⟨n,l,c1,hn,y,hy,ey,eo y hy d ⟨a0,by rw[ey];exact ho⟩⟩
end
abbrev yw5:Stmt:=top 9
abbrev yx3:Stmt:=top 10
abbrev sLay:Stmt:=top 11
abbrev wx4:Stmt:=top 12
def zz0(x:V)(xs:List V):atI (x::xs) 0=some x:=by
 unfold atI ixN;simp
def zk1{K:Fg}{a:Addr}{xs:List V}{g:TG}{tb:TS}{D:Ends}{σ:St}{H:Hp}(Pv:Nat->St->Hp->Prop)(h0:Pv 0 σ H)(hl:∀i σ H,i<=↑xs->Pv i σ H->SqT K H a xs)
  (hs:∀i x σ H,xs[i]?=some x->Pv i σ H->g x σ H fun σ2 H2=>tb {D with nx:=Pv (i+1),ct:=Pv (i+1),bk:=D.nx} σ2 H2) (hd:∀σ H,Pv ↑xs σ H->D.nx σ H):
  ∃W:Nat->Nat->St->Hp->Prop,(∃m,W 0 m σ H)/\∀i m σ H,W i m σ H->
   ((Itt K a).stop i H/\D.nx σ H)\/((Itt K a).go i H/\∃N:St->Hp->Prop,(∀σ' H',N σ' H'->∃m',m'<m/\W (i+1) m' σ' H')/\∀x H',(Itt K a).yld i H x H'->g x σ H' fun σ2 H2=>tb {D with nx:=N,ct:=N,bk:=D.nx} σ2 H2):=by
 exists fun i m σ H=>m=↑xs-i/\i<=↑xs/\Pv i σ H,⟨↑xs,by simp,vc9 _,h0⟩;rintro i m σ H ⟨rfl,hi,p⟩;have q:=hl i σ H hi p
 by_cases a0:i<↑xs
 .refine .inr ⟨⟨xs,xs[i],q,zz2 a0⟩,Pv (i+1),fun σ' H' p'=>⟨↑xs-(i+1),by lia,rfl,a0,p'⟩,fun x H' y=>?_⟩;obtain⟨e,y⟩:=y;subst e;exact hs i x σ _ (y xs q) p
 .have e:i=↑xs:=by lia
  subst e;exact .inl ⟨⟨xs,q,wz6 _⟩,hd σ H p⟩
def zp6(Pv:Nat->St->Hp->Prop)(h0:Pv 0 σ0 H0)(hl:∀i σ H,i<=↑xs->Pv i σ H->SqT K H a xs)(hs:∀i x σ H,xs[i]?=some x->Pv i σ H->g x σ H fun σ2 H2=>tt σ2 H2 fun b H3=>if b=true then te σ2 H3 fun v H4=>∃ys,H4 D=some (.lst ys)/\↑ys<sizeLine/\Pv (i+1) σ2 (upd H4 D (.lst (ys++[v]))) else Pv (i+1) σ2 H3)(hd:∀σ H,Pv ↑xs σ H->Q H):yg5 (Itt K a) g tt te D σ0 H0 Q:=by
 exists fun i m σ H=>m=↑xs-i/\i<=↑xs/\Pv i σ H,⟨↑xs,by simp,vc9 _,h0⟩;rintro i m σ H ⟨rfl,hi,p⟩;have q:=hl i σ H hi p
 by_cases a0:i<↑xs
 .refine .inr ⟨⟨xs,xs[i],q,by simp[a0]⟩,Pv (i+1),fun σ' H' p'=>⟨↑xs-(i+1),by lia,rfl,a0,p'⟩,fun x H' y=>?_⟩;obtain⟨e,y⟩:=y;subst e;exact hs i x σ _ (y xs q) p
 .have e:i=↑xs:=by lia
  subst e;exact .inl ⟨⟨xs,q,wz6 _⟩,hd σ H p⟩
def yd8(h:n<=1000000):n<sizeLine:=Nat.lt_of_le_of_lt h (by decide)
def cut1(x:V)(rest:List V):cutV (x::rest) (some 1) none=rest:=by
 unfold cutV HT.sIx;simp
def zj7(w:Str)(rest:List V):List V:=if w="either"\/w="again" then rest else []
inductive xd2(vs:List V)(H:Hp)(Q:VK):Prop
 | mk(a:Addr)(w:Str)(rest:List V)(h1:vs=[.ref a])(h2:H a=some (.tup (.str w::rest)))(h3:∀p,H p=none->Q (.ref p) (upd H p (.tup (zj7 w rest)))):xd2 vs H Q
def yj6:Sp:=fun vs H Q _=>xd2 vs H Q
section
def wf4:zd0 ["row"] ["row"] (zc1 yx3):=fsc
def xw7(F:Fun K "rows_within" "rows_within" yx3 f fd)(mH:mg "HOLDERS"=some (.ref ah))(hH:∀H,SqT K H ah [.str "either",.str "again"]):FnOk P w K mg base CX0 (k+1) f fd ["row"] yj6:=by
 refine F.ok wf4 (fun vs H Q E h=>?_) (fun a0 A outer s H vs Q E hr h=>?_)
 .obtain⟨a,w,rest,rfl,_⟩:=h;rfl
 obtain⟨a,w,rest,rfl,ha,q⟩:=h;exists _,zb3 (zg8 (zc2 zg4 (eT (pv 0) zb6) (yw7 (v:=.ref ah) rfl mH rfl) rfl)
   (zb7 (zd1 (zj9 wh4 (pv 0) (zm7 zb6) zm9))) zd4)
  (zb7 (zd1 (zf1 zb2)))
 ac_rfl
 have ei:inV (.str w) [.str "either",.str "again"]=decide (w="either"\/w="again"):=by
  have:=zj8 w ["either","again"];simpa using this
 exists _,rfl,a,_,_,.str w,rfl,rfl,SqT.of ha,zz0 _ _,ah,_,rfl,.inr (hH _),rfl,rfl,_,rfl;show if inV (.str w) [.str "either",.str "again"]=true then _ else _
 rw[ei];refine ite2 (fun c=>?_) (fun c=>?_)
 .have c':=vb3 c;refine⟨_,rfl,_,rfl,a,_,rfl,SqT.of ha,?_,fun p hp=>?_⟩
  .intro z;have:=z.1;unfold HT.sIx at this;simp at this
  .have:=q p hp;unfold zj7 at this;rw[vd3 c']at this;rw[cut1];exact this
 .have c':¬(w="either"\/w="again"):=fun z=>c (vd1 z);refine⟨vc9 _,fun p hp=>?_⟩;have:=q p hp;unfold zj7 at this;rw[vd0 c']at this;exact this
end
abbrev Bz:=(Str×Str)×Dz
def zg3(y:Str×List Dz):List Bz:=y.2.map fun z=>((y.1,z.1),z)
def zh3(ks:List (Str×List Dz))(m0:Dz):List Bz:=(("",""),m0)::ks.flatMap zg3
def BT(K:Fg)(H:Hp)(bd:Addr)(n:Str×Str):Prop:=H bd=some (.tup [.str n.1,.str n.2])\/∀H',SqT K H' bd [.str n.1,.str n.2]
def BT.keep(h:BT K H bd n)(f:Tup H H'):BT K H' bd n:=h.imp (f _ _) id
def BT.sq(h:BT K H bd n):SqT K H bd [.str n.1,.str n.2]:=h.elim SqT.of fun g=>g H
inductive BodyIs(K:Fg)(H:Hp)(q:Addr)(z:Bz):Prop
 | mk(bd:Addr)(h1:H q=some (.tup [.ref bd,.ref z.2.2.1]))(h2:BT K H bd z.1):BodyIs K H q z
def BodyIs.keep(h:BodyIs K H q z)(f:Tup H H'):BodyIs K H' q z:=by
 obtain⟨bd,h1,h2⟩:=h;exact⟨bd,f _ _ h1,h2.keep f⟩
def _root_.L2.A2.bkeep(h:A2 (BodyIs K H) qs L)(f:Tup H H'):A2 (BodyIs K H') qs L:=h.imp fun _ _ g=>g.keep f
inductive xb6(K:Fg)(vs:List V)(H:Hp)(Q:VK):Prop
 | mk(p:Addr)(ks:List (Str×List Dz))(m0:Dz)(h1:vs=[.ref p])(h2:ProgIs Z H p ks m0)(h3:∀(b:Addr)(qs:List Addr)(H':Hp),FrS [] H H'->H' b=some (.tup (qs.map V.ref))->A2 (BodyIs K H') qs (zh3 ks m0)->↑qs<=1000->Q (.ref b) H'):xb6 K vs H Q
def ym0(K:Fg):Sp:=fun vs H Q _=>xb6 K vs H Q
inductive BoI(K:Fg)(H1:Hp)(p fd:Addr)(L:List Bz)(c:Nat)(σ:St)(Hx:Hp):Prop
 | mk(a b d e g h i:Option V)(qs:List Addr)(hσ:σ=[some (.ref p),some (.ref fd),a,b,d,e,g,h,i])(fr:FrS [] H1 Hx)(hf:Hx fd=some (.lst (qs.map V.ref)))(ha:A2 (BodyIs K Hx) qs L)(hc:↑qs<=c):BoI K H1 p fd L c σ Hx
inductive BoJ(K:Fg)(H1:Hp)(p fd:Addr)(n:Str)(e:V)(dt:Addr)(L:List Bz)(c:Nat)(σ:St)(Hx:Hp):Prop
 | mk(a b d f:Option V)(qs:List Addr)(hσ:σ=[some (.ref p),some (.ref fd),some (.str n),some e,some (.ref dt),a,b,d,f])(fr:FrS [] H1 Hx)(hf:Hx fd=some (.lst (qs.map V.ref)))(ha:A2 (BodyIs K Hx) qs L)(hc:↑qs<=c):BoJ K H1 p fd n e dt L c σ Hx
section
def zk6:zd0 ["program","found","name","elder","deeds","deed","params","rows","gives"] qK (zc1 yw5):=fsc
def xw0(F:Fun K "bodies" "bodies" yw5 f fd)(mM:mg "MAIN"=some (.ref am))(hM:∀H,SqT K H am [.str "",.str ""])(a9:mg "tuple"=none):FnOk P w K mg base CX0 (k+1) f fd qK (ym0 K):=by
 refine F.ok zk6 (fun vs H Q E h=>?_) (fun ad A outer s H vs Q E hr h=>?_)
 .obtain⟨p,ks,m0,rfl,_⟩:=h;rfl
 obtain⟨p,ks,m0,rfl,⟨kt,us,lt,hp,hk,a0,aa,hm,ac⟩,q⟩:=h;exists _,zb3 (sL 1 zk6.nd (zd7 (zb0 (zf1 (zb0 (yw7 (v:=.ref am) rfl mM rfl) (zb0 (eT (pv 0) zb6) zb2))) zb2)))
  (zb3 (zf9 vd5 rfl (zj4 (eT (pv 0) zb6)) (zh4 (n:=3) rfl (zc0 (gL 2 zk6.nd) (zc0 (gL 3 zk6.nd) (zc0 (gL 4 zk6.nd) zf8))))
   (zb7 (zf9 vd5 rfl (zj4 (pv 4)) (zh4 (n:=4) rfl (zc0 (gL 5 zk6.nd) (zc0 (gL 6 zk6.nd) (zc0 (gL 7 zk6.nd) (zc0 (gL 8 zk6.nd) zf8)))))
    (zb7 (zf5 (zk8 vd2 vd9 vf0 zd8 (pv 1) (zb0 (zf1 (zb0 (zf1 (zb0 (pv 2) (zb0 (pv 5) zb2))) (zb0 (pv 7) zb2))) zb2)))))))
  (zb7 (zd1 (zc7 zc8 rfl a9 (by rfl') (zb0 (pv 1) zb2)))))
 ac_rfl
 have s2:2<=sizeLine:=vb5 (zb8 (by decide));have s0:1<=sizeLine:=vb5 (zb8 (by decide));refine⟨_,rfl,p,_,_,_,rfl,rfl,SqT.of hp,rfl,s2,fun pt a6=>⟨s0,fun fl a4=>?_⟩⟩;have f0:FrS [] H (upd (upd H pt (.tup [.ref am,.ref m0.2.1])) fl (.lst ([pt].map V.ref))):=(FrS.new a6).trans (FrS.new a4);have a2:H fl=none:=yd9 (FrS.new a6) a4;exists _,rfl,p,_,_,_,rfl,rfl,SqT.of (f0 _ _ wz1 hp),rfl,kt,rfl,⟨_,SqT.of (f0 _ _ wz1 hk)⟩;refine zk1 (xs:=us.map V.ref) (fun i=>BoI K H p fl (zh3 (ks.take i) m0) (1+80*i)) ⟨_,_,_,_,_,_,_,[pt],rfl,f0,zb1,.cons ⟨am,(Tup.new a4) _ _ zb1,.inr hM⟩ .nil,wz6 _⟩ ?_ ?_ ?_
 .rintro i σ Hx hi ⟨_,_,_,_,_,_,_,_,_,fr,_⟩;exact SqT.of (fr _ _ wz1 hk)
 .rintro i x σ Hx hx ⟨_,_,_,_,_,_,_,qs,rfl,fr,a5,ha,hc⟩;rw[wz5,wz8]at hx;obtain⟨u,hu,rfl⟩:=hx;have hi:i<↑ks:=by rw[<-a0];exact(wz2.mp hu).1
  have hy:ks[i]?=some ks[i]:=zz2 hi;obtain⟨e,dt,ds,d1,d2,d3,d4,d5⟩:=aa i u _ hu hy;have eL:zh3 (ks.take (i+1)) m0=zh3 (ks.take i) m0++zg3 ks[i]:=by
   unfold zh3;rw[vc5,hy,vm1,List.cons_append];simp
  rw[eL];generalize ks[i]=y at d1 d3 d4;exists u,_,rfl,SqT.of (fr _ _ wz1 d1),rfl,_,_,rfl,_,_,rfl,_,_,rfl,rfl;exists _,rfl,dt,rfl,⟨_,SqT.of (fr _ _ wz1 d2)⟩;refine zk1 (xs:=ds.map V.ref) (fun j=>BoJ K H p fl y.1 e dt (zh3 (ks.take i) m0++(zg3 y).take j) (1+80*i+j)) ⟨_,_,_,_,qs,rfl,fr,a5,by rw[uc1,vh4];exact ha,hc⟩ ?_ ?_ ?_
  .rintro j σ Hy hj ⟨_,_,_,_,_,_,fy,_⟩;exact SqT.of (fy _ _ wz1 d2)
  .rintro j x σ Hy hx ⟨_,_,_,_,qs,rfl,fy,a1,ha,hc⟩;rw[wz5,wz8]at hx;obtain⟨g,hg,rfl⟩:=hx;have hj:j<↑y.2:=by rw[<-d3];exact(wz2.mp hg).1
   have hz:y.2[j]?=some y.2[j]:=zz2 hj;obtain⟨ae,ab,g1,g2⟩:=d4 j g _ hg hz;have eD:(zg3 y).take (j+1)=(zg3 y).take j++[((y.1,y.2[j].1),y.2[j])]:=by
    have:(zg3 y)[j]?=some ((y.1,y.2[j].1),y.2[j]):=by unfold zg3;rw[wz5,hz];rfl
    rw[vc5,this];rfl
   rw[eD,<-vd8];generalize y.2[j]=z at g1 g2;exists g,_,rfl,SqT.of (fy _ _ wz1 g1),rfl,_,_,rfl,_,_,rfl,_,_,rfl,_,_,rfl,rfl;refine⟨_,rfl,.inl ⟨rfl,_,SqL.of a1⟩,_,rfl,_,rfl,s2,fun pa a7=>⟨_,rfl,s2,fun pb a3=>?_⟩⟩;have tn:=(Tup.new (o:=.tup [V.str y.1,V.str z.1]) a7).trans (Tup.new (o:=.tup [.ref pa,.ref z.2.1]) a3);have f2:FrS [] Hy (upd (upd Hy pa (.tup [V.str y.1,V.str z.1])) pb (.tup [.ref pa,.ref z.2.1])):=(FrS.new a7).trans (FrS.new a3);have a8:=f2 _ _ wz1 a1;have tl:Tup _ (upd (upd (upd Hy pa (.tup [V.str y.1,V.str z.1])) pb (.tup [.ref pa,.ref z.2.1])) fl (.lst ((qs++[pb]).map V.ref))):=Tup.lst a8;exists fl,_,_,rfl,rfl,a8,zb8 (by rw[lqm];lia);rw[show qs.map V.ref++[V.ref pb]=(qs++[pb]).map V.ref by rw[wz9];rfl];exact⟨_,_,_,_,qs++[pb],rfl,(fy.trans f2).put a2,zb1,(ha.bkeep (tn.trans tl)).snoc ⟨pa,tl _ _ zb1,.inl (((Tup.new a3).trans tl) _ _ zb1)⟩,by rw[wz4,vc1];lia⟩
  .rintro σ Hy ⟨_,_,_,_,qs,rfl,fy,a1,ha,hc⟩;have el:(zg3 y).take ↑(ds.map V.ref)=zg3 y:=vb2 (by unfold zg3;rw[lqm,lqm];lia);rw[el]at ha;rw[lqm]at hc;exact⟨_,_,_,_,_,_,_,qs,rfl,fy,a1,ha,by lia⟩
 .rintro σ Hx ⟨_,_,_,_,_,_,_,qs,rfl,fr,a5,ha,hc⟩;rw[lqm,a0]at ha hc;rw[vb2 (wz6 _)]at ha;refine⟨_,rfl,fl,_,rfl,.inl ⟨SqL.of a5,fun b hb=>?_⟩⟩;exact q b qs _ (fr.trans (FrS.new hb)) zb1 (ha.bkeep (Tup.new hb)) (by lia)
end
abbrev Lz:=Addr×List Addr×List Addr
inductive LotIs(H:Hp)(n:Nat)(z:Lz):Prop
 | mk(n':Nat)(hn:n=n'+1)(h1:H z.1=some (.tup (z.2.1.map V.ref)))(h2:Fl Z H n' z.2.1 z.2.2):LotIs H n z
def LotIs.keep(h:LotIs H n z)(f:Tup H H'):LotIs H' n z:=by
 obtain⟨n',hn,h1,h2⟩:=h;exact⟨n',hn,f _ _ h1,h2.keep f⟩
inductive HdIs(H:Hp)(n:Nat)(a:Addr)(rs fs:List Addr):Prop
 | mk(w:Str)(rest:List V)(ls:List Lz)(fs':List Addr)(h1:H a=some (.tup (.str w::rest)))(h2:zj7 w rest=ls.map fun z=>V.ref z.1)(h3:∀z∈ls,LotIs H n z)(h4:fs=a::(ls.flatMap (·.2.2)++fs'))(h5:Fl Z H n rs fs')(h6:↑ls<=2):HdIs H n a rs fs
def Fl.hd(h:Fl Z H n (a::rs) fs):HdIs H n a rs fs:=by
 have nc:¬(("call":Str)="either"\/("call":Str)="again"):=by rfl'
 cases h with
 | one h t=>
  rcases h with ⟨w,rest,h,n1,n2,n3⟩ | ⟨x,y,k,d,g,ss,h,_,_⟩
  .exact⟨w,rest,[],_,h,by unfold zj7;rw[vd0 (fun z=>z.elim n2 n3)];rfl,(fun z h=>by cases h),rfl,t,vc9 _⟩
  .exact⟨"call",_,[],_,h,by unfold zj7;rw[vd0 nc];rfl,(fun z h=>by cases h),rfl,t,vc9 _⟩
 | @again n a l rs1 fs1 rs fs h hl s t=>
  refine⟨"again",_,[(l,rs1,fs1)],_,h,by unfold zj7;rw[vd3 (.inr rfl)];rfl,fun z hz=>?_,by simp,t,by simp⟩;have e:z=(l,rs1,fs1):=by simpa using hz
  subst e;exact⟨n,rfl,hl,s⟩
 | @either n a l1 l2 rs1 fs1 rs2 fs2 rs fs h h1 h2 s1 s2 t=>
  refine⟨"either",_,[(l1,rs1,fs1),(l2,rs2,fs2)],_,h,by unfold zj7;rw[vd3 (.inl rfl)];rfl,fun z hz=>?_,by simp,t,by simp⟩;have e:z=(l1,rs1,fs1)\/z=(l2,rs2,fs2):=by simpa using hz
  rcases e with rfl | rfl
  .exact⟨n,rfl,h1,s1⟩
  .exact⟨n,rfl,h2,s2⟩
inductive En(H:Hp)(bd:Addr):Nat->List Addr->List Addr->Prop
 | nil {k:Nat}:En H bd k [] []
 | cons {k:Nat} {e a:Addr} {es as:List Addr} (h:H e=some (.tup [.int (k:Int),.ref bd,.ref a])) (t:En H bd (k+1) es as):En H bd k (e::es) (a::as)
def En.keep(h:En H bd k es as)(f:Tup H H'):En H' bd k es as:=by
 induction h with
 | nil=>exact .nil
 | cons h _ ih=>exact .cons (f _ _ h) ih
def En.app(h:En H bd k es as)(g:En H bd (k+↑es) es' as'):En H bd k (es++es') (as++as'):=by
 induction h with
 | nil=>exact g
 | cons h _ ih=>exact .cons h (ih (by rw[vc6]at g;rwa [Nat.add_assoc,Nat.add_comm 1]))
def En.len(h:En H bd k es as):↑es=↑as:=by
 induction h with
 | nil=>rfl
 | cons _ _ ih=>exact vg1 (·+1) ih
def FrS.tup1(f:FrS [a] H H')(h:H a=some (.lst ys)):Tup H H':=FrS.tup f fun b hb xs e=>by
 have:b=a:=by simpa using hb
 subst this;rw[h]at e;cases e
inductive SpLay(n:Nat)(vs:List V)(H:Hp)(Q:VK):Prop
 | mk(bd l fd:Addr)(rs fs es:List Addr)(h1:vs=[.ref bd,.ref l,.ref fd])(h2:H l=some (.tup (rs.map V.ref)))(h3:Fl Z H n rs fs)(h4:H fd=some (.lst (es.map V.ref)))(h5:↑es+↑fs<=1000000)
  (h6:∀(x:V)(ns:List Addr)(H':Hp),FrS [fd] H H'->H' fd=some (.lst ((es++ns).map V.ref))->En H' bd ↑es ns fs->Q x H'):SpLay n vs H Q
def xz0(n:Nat):Sp:=fun vs H Q _=>SpLay n vs H Q
def xp7:Nat->Sp
 | 0=>fun _ _ _ _=>False
 | n+1=>xz0 n
inductive LayI(n:Nat)(H:Hp)(bd l fd tl:Addr)(rs fs es:List Addr)(i:Nat)(σ:St)(Hx:Hp):Prop
 | mk(a b:Option V)(ts:List V)(ns f1 f2:List Addr)(hσ:σ=[some (.ref bd),some (.ref l),some (.ref fd),some (.ref tl),a,b])(fr:FrS [fd] H Hx)(hf:Hx fd=some (.lst ((es++ns).map V.ref)))(ht:Hx tl=some (.lst ts))(hn:↑ts<=i)(he:fs=f1++f2)(hl:Fl Z Hx n (rs.drop i) f2)(hE:En Hx bd ↑es ns f1):LayI n H bd l fd tl rs fs es i σ Hx
inductive LayJ(H1 H2:Hp)(bd fd Dl:Addr)(es:List Addr)(ls:List Lz)(j:Nat)(σ:St)(Hx:Hp):Prop
 | mk(a:Option V)(zs:List V)(ns:List Addr)(hσ:σ=[a,some (.ref bd),some (.ref fd)])(fr:FrS [fd] H1 Hx)(tp:Tup H2 Hx)(hf:Hx fd=some (.lst ((es++ns).map V.ref)))(hD:Hx Dl=some (.lst zs))(hn:↑zs<=j)(hE:En Hx bd ↑es ns ((ls.take j).flatMap (·.2.2))):LayJ H1 H2 bd fd Dl es ls j σ Hx
section
abbrev pLay:List Str:=["body","rows","found"]
def xx3:zd0 ["body","rows","found","told","row","number"] pLay (zc1 sLay):=fsc
def wm7(F:Fun K "lay" "lay" sLay f fd)(WI:Cal P w K mg base k "rows_within" ["row"] yj6)(LA:Cal P w K mg base k "lay" pLay (xp7 n))(ml:mg "len"=none)(ar:mg "tuple"=none):FnOk P w K mg base CX0 (k+1) f fd pLay (xz0 n):=by
 refine F.ok xx3 (fun vs H Q E h=>?_) (fun bp A outer s H vs Q E hr h=>?_)
 .obtain⟨bd,l,fl,rs,fs,es,rfl,_⟩:=h;rfl
 obtain⟨bd,l,fl,rs,fs,es,rfl,hl,hF,aj,hb,q⟩:=h;have bc:(["inner","body","found"]:List Str).Nodup:=by rfl'
 exists _,zb3 (sL 3 xx3.nd (zd7 zb2))
  (zb3 (zf9 vd5 rfl (zj4 (pv 1)) (gL 4 xx3.nd)
   (zb3 (sL 5 xx3.nd (zc5 zd5 rfl ml vg7 (zb0 (pv 2) zb2)))
   (zb3 (zf5 (zk8 vd2 vd9 vf0 zd8 (pv 2) (zb0 (zf1 (zb0 (pv 5) (zb0 (pv 0) (zb0 (pv 4) zb2)))) zb2)))
   (zb7 (zf5 (zk8 vd2 vd9 vf0 zd8 (pv 3) (zb0 (zf1 (zb0 (pv 5) (zb0 (pv 4) (zb0
    (zc7 zc8 rfl ar (by rfl') (zb0 (zh0 (N':=["inner","body","found"]) (src:=[none,some 0,some 2]) rfl bkn (zj4 (zb9 WI hr rfl (zb0 (pv 4) zb2)))
     (g:=zf0 0) (fun _ _ _ _=>gL 0 bc) (fun _ _ _ _=>zg2)
     (te:=zm8 (xp7 n) [] E0 (zc3 (tVar 1) (zc3 (tVar 0) (zc3 (tVar 2) tNil))))
     (fun _ _ _ _=>zb9 LA hr rfl (zb0 (pv 1) (zb0 (pv 0) (zb0 (pv 2) zb2))))) zb2)) zb2)))) zb2)))))))
  (zb7 (zd1 (zc7 zc8 rfl ar (by rfl') (zb0 (pv 3) zb2)))))
 ac_rfl
 have s3:3<=sizeLine:=vb5 (zb8 (by decide));refine⟨vc9 _,fun tl aa=>?_⟩;have ao:Tup H (upd H tl (.lst [])):=Tup.new aa;have a7:fl≠tl:=zb4 aj aa;exists _,rfl,l,rfl,⟨_,SqT.of (ao _ _ hl)⟩;refine zk1 (xs:=rs.map V.ref) (LayI n H bd l fl tl rs fs es) ⟨_,_,[],[],[],fs,rfl,FrS.new aa,by rw[zb5 a7,vh4];exact aj,zb1,wz6 _,rfl,hF.keep ao,.nil⟩ ?_ ?_ ?_
 .rintro i σ Hx hi ⟨_,_,_,_,_,_,_,fr,_⟩;exact SqT.of (fr.tup1 aj _ _ hl)
 .rintro i x σ Hx hx ⟨a0,b0,ts,ns,f1,f2,rfl,fr,a1,ad,bm,rfl,a4,hE⟩;rw[wz5,wz8]at hx;obtain⟨a,ha,rfl⟩:=hx;obtain⟨hi,rfl⟩:=wz2.mp ha;rw[vm3 hi]at a4;obtain⟨w,rest,ls,bf,h1,h2,h3,rfl,h5,h6⟩:=a4.hd;generalize rs[i]=a at h1;have bq:=hE.len;have b7:=hF.len;rw[wz4,vc6,wz4]at hb b7;have bh:fl≠tl:=a7;exists _,rfl,fl,_,rfl,.inl (SqL.of a1);refine⟨_,rfl,.inl ⟨rfl,_,SqL.of a1⟩,_,rfl,_,rfl,_,rfl,s3,fun e0 a6=>?_⟩;have bk:=(FrS.new (S:=[]) (o:=.tup [.int (↑((es++ns).map V.ref):Nat),.ref bd,.ref a]) a6) _ _ wz1 a1;exists fl,_,_,rfl,rfl,bk,yd8 (by rw[lqm,wz4];lia);have ag:(↑((es++ns).map V.ref):Nat)=↑es+↑ns:=by rw[lqm,wz4]
  rw[ag];have ae:(es++ns).map V.ref++[V.ref e0]=((es++(ns++[e0])).map V.ref):=by rw[<-vd8,wz9 (l₂:=[e0])];rfl
  rw[ae];have a3:upd Hx e0 (.tup [.int ((↑es+↑ns:Nat):Int),.ref bd,.ref a]) fl=some (.lst ((es++ns).map V.ref)):=by rw[zb5 (zb4 a1 a6)];exact a1
  have ac:Tup Hx (upd (upd Hx e0 (.tup [.int ((↑es+↑ns:Nat):Int),.ref bd,.ref a])) fl (.lst ((es++(ns++[e0])).map V.ref))):=(Tup.new a6).trans (Tup.lst a3);have bo:upd (upd Hx e0 (.tup [.int ((↑es+↑ns:Nat):Int),.ref bd,.ref a])) fl (.lst ((es++(ns++[e0])).map V.ref)) e0=some (.tup [.int ((↑es+↑ns:Nat):Int),.ref bd,.ref a]):=(Tup.lst a3) _ _ zb1;have am:FrS [fl] H (upd (upd Hx e0 (.tup [.int ((↑es+↑ns:Nat):Int),.ref bd,.ref a])) fl (.lst ((es++(ns++[e0])).map V.ref))):=(fr.trans (FrS.new a6)).put' (.head _);have a9:upd (upd Hx e0 (.tup [.int ((↑es+↑ns:Nat):Int),.ref bd,.ref a])) fl (.lst ((es++(ns++[e0])).map V.ref)) tl=some (.lst ts):=by rw[zb5 (vj3 a7),zb5 (zb4 ad a6)];exact ad
  have ak:upd (upd Hx e0 (.tup [.int ((↑es+↑ns:Nat):Int),.ref bd,.ref a])) fl (.lst ((es++(ns++[e0])).map V.ref)) fl=some (.lst ((es++(ns++[e0])).map V.ref)):=zb1;have b1:En _ bd ↑es (ns++[e0]) (f1++[a]):=(hE.keep ac).app (.cons bo .nil);have ap:=h5.keep ac;have ay:=ac _ _ h1;have az:∀z∈ls,LotIs (upd (upd Hx e0 (.tup [.int ((↑es+↑ns:Nat):Int),.ref bd,.ref a])) fl (.lst ((es++(ns++[e0])).map V.ref))) n z:=fun z hz=>(h3 z hz).keep ac;generalize upd (upd Hx e0 (.tup [.int ((↑es+↑ns:Nat):Int),.ref bd,.ref a])) fl (.lst ((es++(ns++[e0])).map V.ref))=H1 at am a9 ak b1 ap ay az;refine⟨_,rfl,.inl ⟨rfl,_,SqL.of a9⟩,_,rfl,_,rfl,_,rfl,a,w,rest,rfl,ay,fun pw av=>⟨pw,rfl,⟨_,SqT.of zb1⟩,fun Dl a8=>?_⟩⟩;rw[h2];have f2:FrS [] H1 (upd (upd H1 pw (.tup (zj7 w rest))) Dl (.lst [])):=(FrS.new av).trans (FrS.new a8);have a5:H1 Dl=none:=yd9 (FrS.new av) a8;rw[h2]at f2 a8;have aq:fl≠Dl:=zb4 ak a5;have aw:upd (upd H1 pw (.tup (ls.map fun z=>V.ref z.1))) Dl (.lst []) pw=some (.tup (ls.map fun z=>V.ref z.1)):=by rw[zb5 (fun z=>by rw[<-z,zb1]at a8;cases a8)];exact zb1
  have b3:=f2 _ _ wz1 ak;have be:=f2 _ _ wz1 a9;have ai:=Tup.of0 f2;have b4:upd (upd H1 pw (.tup (ls.map fun z=>V.ref z.1))) Dl (.lst []) Dl=some (.lst []):=zb1;generalize upd (upd H1 pw (.tup (ls.map fun z=>V.ref z.1))) Dl (.lst [])=H2 at f2 aw b3 be ai b4;refine zp6 (xs:=ls.map fun z=>V.ref z.1) (LayJ H1 H2 bd fl Dl (es++(ns++[e0])) ls) ⟨_,[],[],rfl,f2.mono (fun _ h=>absurd h wz1),(fun _ _ h=>h),by rw[vh4];exact b3,b4,wz6 _,.nil⟩ ?_ ?_ ?_
  .rintro j σ Hy hj ⟨_,_,_,_,_,ty,_⟩;exact SqT.of (ty _ _ aw)
  .rintro j x σ Hy hx ⟨x0,zs,nj,rfl,fy,ty,ab,af,b2,a2⟩;rw[wz5,wz8]at hx;obtain⟨z,hz,rfl⟩:=hx;have b8:Tup H1 Hy:=ai.trans ty;obtain⟨n',rfl,z1,z2⟩:=(az z (vb0 hz)).keep b8;have bi:j<↑ls:=(wz2.mp hz).1;have bg:↑((ls.take j).flatMap (·.2.2))+↑z.2.2<=↑(ls.flatMap (·.2.2)):=by
    have e:ls=ls.take j++(z::ls.drop (j+1)):=by
     rw[<-(wz2.mp hz).2,<-vm3 bi,vg0]
    conv=>rhs;rw[e]
    rw[vm1,vw4,wz4,wz4];lia
   have b9:=a2.len;refine⟨_,rfl,_,rfl,_,rfl,bd,z.1,fl,z.2.1,z.2.2,es++(ns++[e0])++nj,rfl,z1,z2,ab,by rw[wz4,wz4,wz4,vc1];lia,fun x nx Hz fz bn ax=>?_⟩;have an:=fz _ _ (by simpa using vj3 aq) af;have as:=fz.tup1 ab;have al:Tup Hz (upd Hz Dl (.lst (zs++[x]))):=Tup.lst an;exists _,an,zb8 (by lia),_,_,nj++nx,rfl,(fy.trans fz).put a5,(ty.trans as).trans al,by rw[zb5 aq,<-vd8];exact bn,zb1,by rw[wz4,vc1];lia
   .have e:(ls.take (j+1)).flatMap (·.2.2)=(ls.take j).flatMap (·.2.2)++z.2.2:=by
     rw[vc5,hz,vm1];simp
    rw[e];refine(a2.keep (as.trans al)).app ?_;rw[wz4]at ax;exact ax.keep al
  .rintro σ Hy ⟨x0,zs,nj,rfl,fy,ty,ab,af,b2,a2⟩;rw[lqm]at b2 a2;rw[vb2 (wz6 _)]at a2;refine⟨Dl,_,rfl,.inl ⟨SqL.of af,fun pt bb=>⟨s3,fun pu bj=>?_⟩⟩⟩;have ba:=fy _ _ (by simpa using vj3 a7) a9;have fn:FrS [] Hy (upd (upd Hy pt (.tup zs)) pu (.tup [.int ((↑es+↑ns:Nat):Int),.ref a,.ref pt])):=(FrS.new bb).trans (FrS.new bj);have b5:=fn _ _ wz1 ba;have bl:=fn _ _ wz1 ab;have b6:Tup _ (upd (upd (upd Hy pt (.tup zs)) pu (.tup [.int ((↑es+↑ns:Nat):Int),.ref a,.ref pt])) tl (.lst (ts++[.ref pu]))):=Tup.lst b5;have au:=(ai.trans ty).trans ((Tup.of0 fn).trans b6);exists tl,_,_,rfl,rfl,b5,yd8 (by lia);exists _,_,_,ns++[e0]++nj,f1++(a::ls.flatMap (·.2.2)),bf,rfl,((am.trans fy).trans (fn.mono (fun _ h=>absurd h wz1))).put aa,by rw[zb5 a7,<-vd8];exact bl,zb1,by rw[wz4,vc1];lia,by simp,ap.keep au;have e1:f1++(a::ls.flatMap (·.2.2))=f1++[a]++ls.flatMap (·.2.2):=by simp
   rw[e1];refine(b1.keep au).app ?_;rw[wz4]at a2;exact a2.keep ((Tup.of0 fn).trans b6)
 .rintro σ Hx ⟨a0,b0,ts,ns,f1,f2,rfl,fr,a1,ad,bm,rfl,a4,hE⟩;rw[lqm,List.drop_of_length_le (wz6 _)]at a4;cases a4;rw[vh4]at q;refine⟨_,rfl,tl,_,rfl,.inl ⟨SqL.of ad,fun b ah=>?_⟩⟩;exact q _ ns _ (fr.trans (FrS.new ah)) (by rw[zb5 (zb4 a1 ah)];exact a1) (hE.keep (Tup.new ah))
end
abbrev Fz:=(Str×Str)×Addr
def zj3(L:List Bz):List Fz:=L.flatMap fun z=>z.2.2.2.2.map fun a=>(z.1,a)
inductive CaIs(K:Fg)(H:Hp)(e:Addr)(q:Fz×Nat):Prop
 | mk(bd:Addr)(h:H e=some (.tup [.int (q.2:Int),.ref bd,.ref q.1.2]))(hb:BT K H bd q.1.1):CaIs K H e q
def CaIs.keep(h:CaIs K H e q)(f:Tup H H'):CaIs K H' e q:=by
 obtain⟨bd,h,hb⟩:=h;exact⟨bd,f _ _ h,hb.keep f⟩
def _root_.L2.A2.ckeep(h:A2 (CaIs K H) qs L)(f:Tup H H'):A2 (CaIs K H') qs L:=h.imp fun _ _ g=>g.keep f
def En.ca(hb:BT K H bd n)(h:En H bd k es as):A2 (CaIs K H) es ((as.map fun a=>(n,a)).zipIdx k):=by
 induction h with
 | nil=>exact .nil
 | cons h _ ih=>exact .cons ⟨bd,h,hb⟩ ih
def ProgIs.rows(h:ProgIs Z H p ks m0):∀z∈zh3 ks m0,RowsIs Z H z.2:=by
 obtain⟨kt,us,lt,_,_,h3,h4,h5,_⟩:=h;intro z hz;unfold zh3 at hz;rcases vb4.mp hz with rfl | hz
 .exact h5
 .obtain⟨y,hy,hz⟩:=vx6.mp hz;unfold zg3 at hz;obtain⟨d,hd,rfl⟩:=vb9.mp hz;obtain⟨j,hj⟩:=vf9.mp hy;have a0:j<↑us:=by rw[h3];exact(wz2.mp hj).1
  obtain⟨e,dt,fs,_,_,g3,g4,_⟩:=h4 j us[j] y (zz2 a0) hj;obtain⟨i,hi⟩:=vf9.mp hd;have a1:i<↑fs:=by rw[g3];exact(wz2.mp hi).1
  obtain⟨_,_,_,r⟩:=g4 i fs[i] d (zz2 a1) hi;exact r
def zn1:∀{L:List Bz},(∀z∈L,RowsIs Z H z.2)->↑(zj3 L)<=80*L.length
 | [],_=>vc9 _
 | z::L,h=>by
  have h1:=zn1 (L:=L) fun y hy=>h y (.tail _ hy);obtain⟨_,_,h4⟩:=h z (.head _);unfold zj3 at h1 ⊢;rw[vw4,wz4,lqm,vc6];lia
def zz6(h:∀z∈L,RowsIs Z H z.2):∀q∈zj3 L,RowIs Z H q.2:=by
 intro q hq;unfold zj3 at hq;obtain⟨z,hz,hq⟩:=vx6.mp hq;obtain⟨a,ha,rfl⟩:=vb9.mp hq;obtain⟨_,h3,_⟩:=h z hz;exact h3.is a ha
def FrS.own(f:FrS [] H Hx)(g:FrS [a] Hx Hy)(h:H a=none):FrS [] H Hy:=fun b o _ e=>g b o (by simpa using zb4 e h) (f b o wz1 e)
inductive wh3(K:Fg)(vs:List V)(H:Hp)(Q:VK):Prop
 | mk(p:Addr)(ks:List (Str×List Dz))(m0:Dz)(h1:vs=[.ref p])(h2:ProgIs Z H p ks m0)(h3:∀(b:Addr)(ns:List Addr)(H':Hp),FrS [] H H'->H' b=some (.tup (ns.map V.ref))->A2 (CaIs K H') ns ((zj3 (zh3 ks m0)).zipIdx 0)->Q (.ref b) H'):wh3 K vs H Q
def xx1(K:Fg):Sp:=fun vs H Q _=>wh3 K vs H Q
inductive NumI(K:Fg)(H H1:Hp)(p fd:Addr)(L:List Bz)(i:Nat)(σ:St)(Hx:Hp):Prop
 | mk(a b:Option V)(ns:List Addr)(hσ:σ=[some (.ref p),some (.ref fd),a,b])(fr:FrS [] H Hx)(tp:Tup H1 Hx)(hf:Hx fd=some (.lst (ns.map V.ref)))(ha:A2 (CaIs K Hx) ns ((zj3 (L.take i)).zipIdx 0)):NumI K H H1 p fd L i σ Hx
section
def yz8:zd0 ["program","found","body","rows"] qK (zc1 wx4):=fsc
def ws0(F:Fun K "numbered" "numbered" wx4 f fd)(BO:Cal P w K mg base k "bodies" qK (ym0 K))(LA:Cal P w K mg base k "lay" pLay (xz0 4))(a8:mg "tuple"=none):FnOk P w K mg base CX0 (k+1) f fd qK (xx1 K):=by
 refine F.ok yz8 (fun vs H Q E h=>?_) (fun ac A outer s H vs Q E hr h=>?_)
 .obtain⟨p,ks,m0,rfl,_⟩:=h;rfl
 obtain⟨p,ks,m0,rfl,hP,q⟩:=h;exists _,zb3 (sL 1 yz8.nd (zd7 zb2))
  (zb3 (zf9 vd5 rfl (zj4 (zb9 BO hr rfl (zb0 (pv 0) zb2))) (zh4 (n:=2) rfl (zc0 (gL 2 yz8.nd) (zc0 (gL 3 yz8.nd) zf8)))
   (zb7 (zf5 (zb9 LA hr rfl (zb0 (pv 2) (zb0 (pv 3) (zb0 (pv 1) zb2)))))))
  (zb7 (zd1 (zc7 zc8 rfl a8 (by rfl') (zb0 (pv 1) zb2)))))
 ac_rfl
 refine⟨vc9 _,fun fl a2=>?_⟩;have f0:FrS [] H (upd H fl (.lst [])):=FrS.new a2;refine⟨_,rfl,p,ks,m0,rfl,hP.keep (Tup.new a2),fun b qs H1 f1 hb hB ad=>⟨b,rfl,⟨_,SqT.of hb⟩,?_⟩⟩;have a7:=f1 _ _ wz1 zb1;have a3:=f0.trans f1;have hR:∀z∈zh3 ks m0,RowsIs _ H1 z.2:=(hP.keep (Tup.of0 a3)).rows;have a5:=hB.len;generalize zh3 ks m0=L at hB hR a5 q;have a6:=zn1 hR;refine zk1 (xs:=qs.map V.ref) (NumI K H H1 p fl L) ⟨_,_,[],rfl,a3,(fun _ _ h=>h),a7,.nil⟩ ?_ ?_ ?_
 .rintro i σ Hx hi ⟨_,_,_,_,_,tp,_⟩;exact SqT.of (tp _ _ hb)
 .rintro i x σ Hx hx ⟨a0,b0,ns,rfl,fr,tp,a1,ha⟩;rw[wz5,wz8]at hx;obtain⟨u,hu,rfl⟩:=hx;obtain⟨z,hz,bd,u1,u2⟩:=hB.get hu;obtain⟨r2,r3,r4⟩:=(hR z (vb0 hz)).keep tp;have eF:zj3 (L.take (i+1))=zj3 (L.take i)++z.2.2.2.2.map fun a=>(z.1,a):=by
   unfold zj3;rw[vc5,hz,vm1];simp
  have a4:=ha.len;rw[vv1]at a4;have aa:↑(zj3 (L.take i))<=80*L.length:=by
   have:=zn1 (L:=L.take i) fun y hy=>hR y (vk4 hy);have h2:↑(L.take i)<=L.length:=by rw[vc2];lia
   lia
  exists u,_,rfl,SqT.of (tp _ _ u1),rfl,_,_,rfl,_,_,rfl,rfl;refine⟨_,rfl,_,rfl,_,rfl,bd,z.2.2.1,fl,z.2.2.2.1,z.2.2.2.2,ns,rfl,r2,r3,a1,by lia,fun x nx Hy fy a9 ab=>?_⟩;have ty:=fy.tup1 a1;exists _,_,ns++nx,rfl,fr.own fy a2,tp.trans ty,a9;rw[eF,List.zipIdx_append];refine(ha.ckeep ty).app ?_;have:=ab.ca (u2.keep (tp.trans ty));rwa [a4,<-vj8 ↑(zj3 (L.take i))]at this
 .rintro σ Hx ⟨a0,b0,ns,rfl,fr,tp,a1,ha⟩;rw[lqm,a5,vb2 (wz6 _)]at ha;refine⟨_,rfl,fl,_,rfl,.inl ⟨SqL.of a1,fun c hc=>?_⟩⟩;exact q c ns _ (fr.trans (FrS.new hc)) zb1 (ha.ckeep (Tup.new hc))
end
def xw9(A B:List Bz):zj3 (A++B)=zj3 A++zj3 B:=by
 unfold zj3;rw[vm1]
def ProgIs.many(h:ProgIs Z H p ks m0):↑(zh3 ks m0)<=1000:=by
 obtain⟨kt,us,lt,_,_,h3,h4,_,h6⟩:=h;have key:∀ks:List (Str×List Dz),(∀y∈ks,↑y.2<=80)->↑(ks.flatMap zg3)<=80*↑ks:=by
  intro ks
  induction ks with
  | nil=>intro _;exact vc9 _
  | cons y ks ih=>
   intro h;have h1:=ih fun z hz=>h z (.tail _ hz);have h2:=h y (.head _);have h3:↑(zg3 y)=↑y.2:=by unfold zg3;rw[lqm]
   rw[vw4,wz4,vc6];lia
 have h7:=key ks fun y hy=>by
  obtain⟨j,hj⟩:=vf9.mp hy;have a0:j<↑us:=by rw[h3];exact(wz2.mp hj).1
  obtain⟨e,dt,fs,_,_,g3,_,g5⟩:=h4 j us[j] y (zz2 a0) hj;lia
 unfold zh3;rw[vc6];lia
abbrev wq1:Stmt:=top 3
open Classical in
noncomputable def below(tr:Tr)(o x:Str):Bool:=decide (∃l,Up tr x l/\o∈l)
open Classical in
def zt8(ok:TrOk tr)(h:Up tr x l):decide (o∈l)=below tr o x:=by
 unfold below
 by_cases e:o∈l
 .rw[vd1 e];exact(vd1 ⟨l,h,e⟩).symm
 .rw[vf4 e];refine(vf4 ?_).symm;rintro⟨l',h',e'⟩;rw[Up.inj ok h h']at e;exact e e'
def pi_or(h1:PI X tg l w1)(h2:PI X tg l w2):PI X tg l (fun σ H R=>w1 σ H R\/w2 σ H R):=fun a0 s σ H R I h=>h.elim (h1 a0 s σ H R I) (h2 a0 s σ H R I)
def LT(H:Hp)(a:Addr)(xs:List V):Prop:=H a=some (.lst xs)\/H a=some (.tup xs)
def wx7(hv:σ[j]?=some (some (V.ref a)))(hq:LT H a xs)(h:∀Dl,H Dl=none->∃Pv:Nat->St->Hp->Prop,Pv 0 (sub src σ) (upd H Dl (.lst []))/\(∀i σ H',i<=↑xs->Pv i σ H'->FrS [] H H')/\(∀i x σ H,xs[i]?=some x->Pv i σ H->g x σ H fun σ2 H2=>tt σ2 H2 fun b H3=>if b=true then te σ2 H3 fun v H4=>∃ys,H4 Dl=some (.lst ys)/\↑ys<sizeLine/\Pv (i+1) σ2 (upd H4 Dl (.lst (ys++[v]))) else Pv (i+1) σ2 H3)/\∀σ H,Pv ↑xs σ H->Q (.ref Dl) H):
  xg7 (fun σ H R=>ws1 K (tVar j) σ H R\/iTup K (tVar j) σ H R) src g tt te σ H Q:=by
 rcases hq with hq | hq
 .refine .inl ⟨_,hv,a,rfl,⟨_,SqL.of hq⟩,fun Dl a0=>?_⟩;obtain⟨Pv,h0,h1,h2,h3⟩:=h Dl a0;exact zg9 (xs:=xs) Pv h0 (fun i σ H' hi p=>SqL.of (h1 i σ H' hi p _ _ wz1 hq)) h2 h3
 .refine .inr ⟨_,hv,a,rfl,⟨_,SqT.of hq⟩,fun Dl a0=>?_⟩;obtain⟨Pv,h0,h1,h2,h3⟩:=h Dl a0;exact zp6 (xs:=xs) Pv h0 (fun i σ H' hi p=>SqT.of (h1 i σ H' hi p _ _ wz1 hq)) h2 h3
inductive wh9(vs:List V)(H:Hp)(Q:VK):Prop
 | mk(p a:Addr)(o:Str)(tr:Tr)(ss:List Str)(h1:vs=[.ref p,.ref a,.str o])(h2:KindsAt H p tr)(h3:TrOk tr)(h4:↑tr<=12)(h5:LT H a (ss.map V.str))(h6:∀x∈ss,∃l,Up tr x l)(h7:↑ss<=64)
  (h8:∀(b:Addr)(H':Hp),FrS [] H H'->H' b=some (.lst ((ss.filter (below tr o)).map V.str))->Q (.ref b) H'):wh9 vs H Q
def xs3:Sp:=fun vs H Q _=>wh9 vs H Q
inductive AlbI(H1:Hp)(p Dl:Addr)(o:Str)(tr:Tr)(ss:List Str)(i:Nat)(σ:St)(Hx:Hp):Prop
 | mk(x:Option V)(hσ:σ=[x,some (.ref p),some (.str o)])(fr:FrS [] H1 Hx)(hD:Hx Dl=some (.lst (((ss.take i).filter (below tr o)).map V.str))):AlbI H1 p Dl o tr ss i σ Hx
section
abbrev wb1:List Str:=["program","kinds","other"]
def scAllB:zd0 wb1 wb1 (zc1 wq1):=fsc
def wn3(F:Fun K "all_below" "all_below" wq1 f fd)(BE:Cal P w K mg base k "is_below" ["program","one","other"] yk7):FnOk P w K mg base CX0 (k+1) f fd wb1 xs3:=by
 refine F.ok scAllB (fun vs H Q E h=>?_) (fun a6 A outer s H vs Q E hr h=>?_)
 .obtain⟨p,a,o,tr,ss,rfl,_⟩:=h;rfl
 obtain⟨p,a,o,tr,ss,rfl,hK,hT,a4,ha,hU,hl,q⟩:=h;have a5:(["kind","program","other"]:List Str).Nodup:=by rfl'
 exists _,zb7 (zd1 (zh0 (N':=["kind","program","other"]) (src:=[none,some 0,some 2]) rfl bkn (pi_or (zf6 (pv 1)) (zj4 (pv 1)))
   (g:=zf0 0) (fun _ _ _ _=>gL 0 a5)
   (tt:=tB (zm8 yk7 [] E0 (zc3 (tVar 1) (zc3 (tVar 0) (zc3 (tVar 2) tNil)))))
   (fun _ _ _ _=>zr6 (zx4 (zb9 BE hr rfl (zb0 (pv 1) (zb0 (pv 0) (zb0 (pv 2) zb2)))))) (fun _ _ _ _=>pv 0)))
 ac_rfl
 refine wx7 (a:=a) (xs:=ss.map V.str) rfl ha fun Dl a3=>⟨AlbI H p Dl o tr ss,⟨_,rfl,(FrS.refl).put a3,zb1⟩,?_,?_,?_⟩
 .rintro i σ Hx hi ⟨_,_,fr,_⟩;exact fr
 .rintro i x σ Hx hx ⟨x0,rfl,fr,a0⟩;rw[wz5,wz8]at hx;obtain⟨y,hy,rfl⟩:=hx;obtain⟨l,a2⟩:=hU y (vb0 hy);have eF:(ss.take (i+1)).filter (below tr o)=(ss.take i).filter (below tr o)++[y].filter (below tr o):=by
   rw[vc5,hy,ub3];rfl
  have a7:↑((ss.take i).filter (below tr o))<=64:=by
   have h2:=vm4 (below tr o) (ss.take i);rw[vc2]at h2;lia
  refine⟨_,rfl,_,rfl,_,rfl,p,y,o,tr,l,rfl,hK.keepT (Tup.of0 fr),hT,a4,a2,fun Hy fy=>⟨_,rfl,?_⟩⟩;have a1:=fy _ _ wz1 a0;rw[zt8 hT a2];refine ite2 (fun c=>?_) (fun c=>?_)
  .exists _,rfl,_,a1,zb8 (by rw[lqm];lia),_,rfl,(fr.trans fy).put a3;rw[zb1,eF,vt3 c,vr0,wz9];rfl
  .exists _,rfl,fr.trans fy;rw[eF,vt2 c,vr0,vh4];exact a1
 .rintro σ Hx ⟨x0,rfl,fr,a0⟩;rw[lqm,vb2 (wz6 _)]at a0;exact q Dl Hx fr a0
end
abbrev xm3:Stmt:=top 36
inductive xq6(vs:List V)(H:Hp)(Q:VK):Prop
 | mk(hd p:Addr)(d m t r:Int)(tr:Tr)(h1:vs=[.ref hd,.ref p])(h2:Hand H hd d m t r)(h3:t<=100000)(h4:KindsAt H p tr)(h5:TrOk tr)(h6:↑tr<=12)(h7:LateAt H p)
  (h8:∀(a:Addr)(ss:List Str)(H':Hp)(d' m' t':Int),FrS [hd] H H'->H' a=some (.tup (ss.map V.str))->↑ss<=12->(∀x∈ss,∃l,Up tr x l)->PyProof.Rows.sortedS ss=true->Hand H' hd d' m' t' r->t'<=t+20->Q (.ref a) H'):xq6 vs H Q
def yv9:Sp:=fun vs H Q _=>xq6 vs H Q
inductive ThI(H:Hp)(hd p fl:Addr)(so:Bool)(tr:Tr)(t r:Int)(i:Nat)(σ:St)(Hx:Hp):Prop
 | mk(x4 x5 x6 x7:Option V)(ns:List Str)(dx mx tx:Int)(hσ:σ=[some (.ref hd),some (.ref p),some (.ref fl),some (.bl so),x4,x5,x6,x7])(fr:FrS [hd] H Hx)(hf:Hx fl=some (.lst (ns.map V.str)))(hn:↑ns<=i)(hU:∀x∈ns,∃l,Up tr x l)(hh:Hand Hx hd dx mx tx r)(ht:tx<=t+1+i):ThI H hd p fl so tr t r i σ Hx
section
abbrev xw5:List Str:=[qH,"_law_program_here"]
def zr4:zd0 [qH,"_law_program_here","_law_found","_law_some","_law_name","_law_elder","_law_deeds","_law_must"] xw5 (zc1 xm3):=fsc
def wc6(F:Fun K "_law_there" "_law_there" xm3 f fd)(T:Cal P w K mg base k "_law_take" qB zh6)(ae:mg "tuple"=none)(ag:mg "sorted"=none):FnOk P w K mg base CX0 (k+1) f fd xw5 yv9:=by
 refine F.ok zr4 (fun vs H Q E h=>?_) (fun ap A outer s H vs Q E hr h=>?_)
 .obtain⟨hd,p,d,m,t,r,tr,rfl,_⟩:=h;rfl
 obtain⟨hd,p,d,m,t,r,tr,rfl,hh,ht,hK,hT,an,hL,q⟩:=h;exists _,zb3 (sL 2 zr4.nd (zd7 zb2))
  (zb3 (sL 3 zr4.nd (zn3 zn2 (zb9 T hr rfl (zb0 (pv 0) (zb0 zb6 zb2))) zb6 (zd6 _)))
  (zb3 (zf9 vd5 rfl (zj4 (eT (pv 1) zb6)) (zh4 (n:=3) rfl (zc0 (gL 4 zr4.nd) (zc0 (gL 5 zr4.nd) (zc0 (gL 6 zr4.nd) zf8))))
   (zb3 (sL 7 zr4.nd (xc9 (zn3 zp3 (pv 4) (eT (pv 1) zb6) rfl) (xs0 (wk1 (pv 3)))))
   (zb7 (zg8 (PW.pt (xh7 (zx4 (pv 7)) (yh3 (PW.pt (zk5 (PW.pt (xh7 (zq9 (xb7 (pv 5))) (yh3 (zc2 zg4 (pv 5) (pv 2) rfl)))) (zk2 (zc2 zn2 (zb9 T hr rfl (zb0 (pv 0) (zb0 zb6 zb2))) zb6 (zd6 _))))))))
    (zb7 (zf5 (zk8 vd2 vd9 vf0 zd8 (pv 2) (zb0 (pv 4) zb2)))) zd4))))
  (zb7 (zd1 (zc7 zc8 rfl ae (by rfl') (zb0 (zc5 zk4 rfl ag (by rfl') (zb0 (pv 2) zb2)) zb2))))))
 ac_rfl
 refine⟨vc9 _,fun fl a6=>?_⟩;have a3:hd≠fl:=zb4 hh.1 a6;have af:Hand (upd H fl (.lst [])) hd d m t r:=⟨by rw[zb5 a3];exact hh.1,hh.2⟩;refine⟨_,rfl,hd,d,m,t,r,4,rfl,af,by lia,by decide,by decide,fun x d1 m1 t1 x0 x1 c1 e1=>⟨rfl,?_⟩⟩;generalize decide (V.int x=V.int 0)=so;have f0:FrS [hd] H (upd (upd H fl (.lst [])) hd (hl d1 m1 t1 r)):=(FrS.new a6).put' (.head _);obtain⟨kt,ts,x',y',hp,hk,a2,ak⟩:=id hK;obtain⟨al,lt,m2,late,ac,aj,aq⟩:=id hL;have a9:=f0.tup1 hh.1;exists _,rfl,p,_,_,_,rfl,rfl,SqT.of (a9 _ _ hp),rfl,kt,rfl,⟨_,SqT.of (a9 _ _ hk)⟩;refine zk1 (xs:=ts.map V.ref) (ThI H hd p fl so tr t r) ⟨_,_,_,_,[],d1,m1,t1,rfl,f0,by rw[zb5 (vj3 a3)];exact zb1,wz6 _,(fun x h=>by cases h),Hand.at c1,by lia⟩ ?_ ?_ ?_
 .rintro i σ Hx hi ⟨_,_,_,_,_,_,_,_,_,fr,_⟩;exact SqT.of (fr.tup1 hh.1 _ _ hk)
 .rintro i x σ Hx hx ⟨x4,x5,x6,x7,ns,dx,mx,tx,rfl,fr,hf,hn,hU,a1,aa⟩;rw[wz5,wz8]at hx;obtain⟨u,hu,rfl⟩:=hx;have hi:i<↑tr:=by rw[<-a2];exact(wz2.mp hu).1
  have hz:tr[i]?=some tr[i]:=zz2 hi;obtain⟨v,hv⟩:=ak i u _ hu hz;obtain⟨l,ad⟩:=Up.exists hT i _ _ hz;have a7:=fr.tup1 hh.1;exists u,_,rfl,SqT.of (a7 _ _ hv),rfl,_,_,rfl,_,_,rfl,_,_,rfl,rfl;have a4:∀Q:VK,(∀b:Bool,Q (.bl b) Hx)->tAndV (tOp (rIn K true) (tVar 4) (tOp (rIxT K) (tVar 1) (tC (.int 1)))) (tNotV (tVar 3)) [some (.ref hd),some (.ref p),some (.ref fl),some (.bl so),some (.str tr[i].1),some (eldV tr[i].2),some v,x7] Hx Q:=by
   intro Q hQ;exists _,rfl,_,rfl,p,_,_,_,rfl,rfl,SqT.of (a7 _ _ ac),rfl,lt,_,rfl,.inr (SqT.of (a7 _ _ aj)),rfl,zg0 _,_,rfl;refine ite2 (fun c=>?_) (fun c=>?_)
   .exact⟨_,rfl,_,rfl,hQ _⟩
   .exact hQ _
  refine a4 _ fun mu=>?_;have cond:∀Q:Bool->Hp->Prop,(∀(b:Bool)(Hy:Hp)(dy my ty:Int),FrS [hd] H Hy->Hy fl=some (.lst (ns.map V.str))->Hand Hy hd dy my ty r->ty<=tx+1->Q b Hy)->
    tOr (tB (tVar 7)) (tAnd (tOr (tB (tIsN (tVar 5))) (zp4 (tOp (rIn K false) (tVar 5) (tVar 2)))) (zp4 (tOp rEq (zm8 zh6 [] E0 (zc3 (tVar 0) (zc3 (tC (.int 2)) tNil))) (tC (.int 0))))) [some (.ref hd),some (.ref p),some (.ref fl),some (.bl so),some (.str tr[i].1),some (eldV tr[i].2),some v,some (.bl mu)] Hx Q:=by
   intro Q hQ;have ao:=hf;exists _,rfl,_,rfl;refine ite2 (fun c=>hQ _ Hx dx mx tx fr hf a1 (by lia)) (fun c=>?_);have tk:zp4 (tOp rEq (zm8 zh6 [] E0 (zc3 (tVar 0) (zc3 (tC (.int 2)) tNil))) (tC (.int 0))) [some (.ref hd),some (.ref p),some (.ref fl),some (.bl so),some (.str tr[i].1),some (eldV tr[i].2),some v,some (.bl mu)] Hx Q:=by
    refine⟨_,rfl,hd,dx,mx,tx,r,2,rfl,a1,by lia,by decide,by decide,fun y d2 ai t2 y0 y1 c2 e2=>⟨rfl,_,rfl,?_⟩⟩;exact hQ _ _ d2 ai t2 (fr.put' (.head _)) (by rw[zb5 (vj3 a3)];exact hf) (Hand.at c2) e2
   exists _,rfl,_,rfl;refine ite2 (fun c=>?_) (fun c=>?_)
   .exact tk
   .exists _,rfl,_,rfl,fl,_,rfl,.inl (SqL.of hf),by cases tr[i].2 <;> rfl,zg0 _,_,rfl;refine ite2 (fun c=>?_) (fun c=>?_)
    .exact tk
    .exact hQ _ Hx dx mx tx fr hf a1 (by lia)
  refine cond _ fun b Hy dy my ty fy a5 a8 am=>?_;cases b with
  | true=>
   have fn:FrS [hd] H (upd Hy fl (.lst (ns.map V.str++[V.str tr[i].1]))):=fy.put a6;exists _,rfl,.inl ⟨rfl,_,SqL.of a5⟩,_,rfl,fl,_,_,rfl,rfl,a5,zb8 (by rw[lqm];lia);refine⟨_,_,_,_,ns++[tr[i].1],dy,my,ty,rfl,fn,by rw[zb1,wz9];rfl,by rw[wz4,vc1];lia,fun x hx=>?_,⟨by rw[zb5 a3];exact a8.1,a8.2⟩,by lia⟩;rcases vc4.mp hx with hx | hx
   .exact hU x hx
   .have e:x=tr[i].1:=by simpa using hx
    rw[e];exact⟨l,ad⟩
  | false=>exact⟨_,_,_,_,ns,dy,my,ty,rfl,fy,a5,by lia,hU,a8,by lia⟩
 .rintro σ Hx ⟨x4,x5,x6,x7,ns,dx,mx,tx,rfl,fr,hf,hn,hU,a1,aa⟩;rw[lqm,a2]at hn aa;refine⟨_,rfl,fl,ns,rfl,SqL.of hf,by lia,fun sl ss ah a0 ab=>⟨sl,_,rfl,.inl ⟨SqL.of zb1,fun a ha=>?_⟩⟩⟩;have fn:FrS [] Hx (upd (upd Hx sl (.lst (ss.map V.str))) a (.tup (ss.map V.str))):=(FrS.new ah).trans (FrS.new ha);exact q a ss _ dx mx tx (fr.trans (fn.mono (fun _ h=>absurd h wz1))) zb1 (by rw[a0.length_eq];lia) (fun x hx=>hU x (a0.mem_iff.mp hx)) ab ⟨fn _ _ wz1 a1.1,a1.2⟩ (by lia)
end
abbrev wb0:Stmt:=top 37
inductive yz5(n:Nat)(vs:List V)(H:Hp)(Q:VK):Prop
 | mk(l:Addr)(rs fs:List Addr)(h1:vs=[.ref l])(h2:H l=some (.tup (rs.map V.ref)))(h3:Fl Z H n rs fs)(h4:↑fs<=1000)(h5:∀(p:Addr)(H':Hp),FrS [] H H'->H' p=some (.lst (fs.map V.ref))->Q (.ref p) H'):yz5 n vs H Q
def zz7(n:Nat):Sp:=fun vs H Q _=>yz5 n vs H Q
def yr6:Nat->Sp
 | 0=>fun _ _ _ _=>False
 | n+1=>zz7 n
inductive LisI(n:Nat)(H:Hp)(l p:Addr)(rs fs:List Addr)(i:Nat)(σ:St)(Hx:Hp):Prop
 | mk(a b:Option V)(f1 f2:List Addr)(hσ:σ=[some (.ref l),some (.ref p),a,b])(fr:FrS [] H Hx)(hp:Hx p=some (.lst (f1.map V.ref)))(he:fs=f1++f2)(hl:Fl Z Hx n (rs.drop i) f2):LisI n H l p rs fs i σ Hx
inductive LisJ(H H2:Hp)(l p a:Addr)(g1:List Addr)(ls:List Lz)(j:Nat)(σ:St)(Hx:Hp):Prop
 | mk(b:Option V)(hσ:σ=[some (.ref l),some (.ref p),some (.ref a),b])(fr:FrS [] H Hx)(tp:Tup H2 Hx)(hp:Hx p=some (.lst ((g1++(ls.take j).flatMap (·.2.2)).map V.ref))):LisJ H H2 l p a g1 ls j σ Hx
section
abbrev pLis:List Str:=["_law_rows_here"]
def zv2:zd0 ["_law_rows_here","_law_found","_law_row_here","_law_lot"] pLis (zc1 wb0):=fsc
def yr4(F:Fun K "_law_flat" "_law_flat" wb0 f fd)(LI:Cal P w K mg base k "_law_flat" pLis (yr6 n)):FnOk P w K mg base CX0 (k+1) f fd pLis (zz7 n):=by
 refine F.ok zv2 (fun vs H Q E h=>?_) (fun aq A outer s H vs Q E hr h=>?_)
 .obtain⟨l,rs,fs,rfl,_⟩:=h;rfl
 obtain⟨l,rs,fs,rfl,hl,hF,hb,q⟩:=h;exists _,zb3 (sL 1 zv2.nd (zd7 zb2))
  (zb3 (zf9 vd5 rfl (zj4 (pv 0)) (gL 2 zv2.nd)
   (zb3 (zf5 (zk8 vd2 vd9 vf0 zd8 (pv 1) (zb0 (pv 2) zb2)))
   (zb7 (zg8 (zc2 zg4 (eT (pv 2) zb6) (zf1 (yr1 (yr1 zb2))) rfl)
    (zb7 (zf9 vd5 rfl (zj4 (zj9 wh4 (pv 2) (zm7 zb6) zm9)) (gL 3 zv2.nd)
     (zb7 (zf5 (zk8 vd2 vz2 vz3 yb9 (pv 1) (zb0 (zb9 LI hr rfl (zb0 (pv 3) zb2)) zb2)))))) zd4))))
  (zb7 (zd1 (pv 1))))
 ac_rfl
 have s2:2<=sizeLine:=vb5 (zb8 (by decide));refine⟨vc9 _,fun p a6=>?_⟩;have t0:Tup H (upd H p (.lst [])):=Tup.new a6;exists _,rfl,l,rfl,⟨_,SqT.of (t0 _ _ hl)⟩;refine zk1 (xs:=rs.map V.ref) (LisI n H l p rs fs) ⟨_,_,[],fs,rfl,FrS.new a6,zb1,rfl,hF.keep t0⟩ ?_ ?_ ?_
 .rintro i σ Hx hi ⟨_,_,_,_,_,fr,_⟩;exact SqT.of (fr _ _ wz1 hl)
 .rintro i x σ Hx hx ⟨a0,b0,f1,f2,rfl,fr,hp,rfl,a3⟩;rw[wz5,wz8]at hx;obtain⟨a,ha,rfl⟩:=hx;obtain⟨hi,rfl⟩:=wz2.mp ha;rw[vm3 hi]at a3;obtain⟨w,rest,ls,af,h1,h2,h3,rfl,h5,h6⟩:=a3.hd;generalize rs[i]=a at h1;rw[wz4,vc6,wz4]at hb;exists _,rfl,.inl ⟨rfl,_,SqL.of hp⟩,_,rfl,p,_,_,rfl,rfl,hp,yd8 (by rw[lqm];lia);rw[show f1.map V.ref++[V.ref a]=(f1++[a]).map V.ref by rw[wz9];rfl];have tn:Tup Hx (upd Hx p (.lst ((f1++[a]).map V.ref))):=Tup.lst hp;have ac:FrS [] H (upd Hx p (.lst ((f1++[a]).map V.ref))):=fr.put a6;have ag:upd Hx p (.lst ((f1++[a]).map V.ref)) p=some (.lst ((f1++[a]).map V.ref)):=zb1;have a9:=tn _ _ h1;have ai:∀z∈ls,LotIs _ n z:=fun z hz=>(h3 z hz).keep tn;have ad:=h5.keep tn;generalize upd Hx p (.lst ((f1++[a]).map V.ref))=H1 at ag ac a9 ai ad;refine⟨_,rfl,a,_,_,.str w,rfl,rfl,SqT.of a9,zz0 _ _,s2,fun pd am=>?_⟩;have aa:FrS [] H1 (upd H1 pd (.tup [.str "either",.str "again"])):=FrS.new am;have an:upd H1 pd (.tup [.str "either",.str "again"]) pd=some (.tup [.str "either",.str "again"]):=zb1;exists pd,_,rfl,.inr (SqT.of an),rfl,rfl,_,rfl;have a7:=ac.trans aa;have t2:=Tup.of0 aa;have a8:=aa _ _ wz1 ag;have a2:=t2 _ _ a9;have a4:∀z∈ls,LotIs _ n z:=fun z hz=>(ai z hz).keep t2;have a1:=ad.keep t2;generalize upd H1 pd (.tup [.str "either",.str "again"])=H2 at a7 a8 a2 a4 a1;have ei:inV (.str w) [.str "either",.str "again"]=decide (w="either"\/w="again"):=by
   have:=zj8 w ["either","again"];simpa using this
  show if inV (.str w) [.str "either",.str "again"]=true then _ else _
  rw[ei];refine ite2 (fun c=>?_) (fun c=>?_)
  .have hw:zj7 w rest=rest:=by unfold zj7;rw[vd3 (vb3 c)]
   refine⟨_,rfl,_,rfl,a,_,rfl,SqT.of a2,?_,fun pc ak=>?_⟩
   .intro z;have:=z.1;unfold HT.sIx at this;simp at this
   rw[cut1,<-hw,h2];have f3:FrS [] H2 (upd H2 pc (.tup (ls.map fun z=>V.ref z.1))):=FrS.new ak;have ab:upd H2 pc (.tup (ls.map fun z=>V.ref z.1)) pc=some (.tup (ls.map fun z=>V.ref z.1)):=zb1;have ae:=a7.trans f3;have ah:=f3 _ _ wz1 a8;have t3:=Tup.of0 f3;generalize upd H2 pc (.tup (ls.map fun z=>V.ref z.1))=H3 at f3 ab ae ah t3;exists pc,rfl,⟨_,SqT.of ab⟩;refine zk1 (xs:=ls.map fun z=>V.ref z.1) (LisJ H H3 l p a (f1++[a]) ls) ⟨_,rfl,ae,(fun _ _ h=>h),by rw[uc1,List.flatMap_nil,vh4];exact ah⟩ ?_ ?_ ?_
   .rintro j σ Hy hj ⟨_,_,_,ty,_⟩;exact SqT.of (ty _ _ ab)
   .rintro j x σ Hy hx ⟨b1,rfl,fy,ty,a5⟩;rw[wz5,wz8]at hx;obtain⟨z,hz,rfl⟩:=hx;obtain⟨n',rfl,z1,z2⟩:=(a4 z (vb0 hz)).keep (t3.trans ty);have ap:j<↑ls:=(wz2.mp hz).1;have al:↑((ls.take j).flatMap (·.2.2))+↑z.2.2<=↑(ls.flatMap (·.2.2)):=by
     have e:ls=ls.take j++(z::ls.drop (j+1)):=by
      rw[<-(wz2.mp hz).2,<-vm3 ap,vg0]
     conv=>rhs;rw[e]
     rw[vm1,vw4,wz4,wz4];lia
    have e:(ls.take (j+1)).flatMap (·.2.2)=(ls.take j).flatMap (·.2.2)++z.2.2:=by
     rw[vc5,hz,vm1];simp
    refine⟨_,rfl,.inl ⟨rfl,_,SqL.of a5⟩,_,rfl,z.1,z.2.1,z.2.2,rfl,z1,z2,by lia,fun p4 Hz fz ao=>?_⟩;have aj:=fz _ _ wz1 a5;exists p,p4,_,_,rfl,rfl,aj,ao,vb5 (yd8 (by rw[lqm,lqm,wz4,wz4,vc1];lia));exact⟨_,rfl,(fy.trans fz).put a6,(ty.trans (Tup.of0 fz)).trans (Tup.lst aj),by rw[zb1,e,<-vd8,<-wz9]⟩
   .rintro σ Hy ⟨b1,rfl,fy,ty,a5⟩;rw[lqm,vb2 (wz6 _)]at a5;exact⟨_,_,f1++[a]++ls.flatMap (·.2.2),af,rfl,fy,a5,by simp,a1.keep (t3.trans ty)⟩
  .have hw:zj7 w rest=[]:=by unfold zj7;rw[vd0 fun z=>c (vd1 z)]
   rw[h2]at hw;have:ls=[]:=by
    cases ls with
    | nil=>rfl
    | cons _ _=>cases hw
   subst this;exact⟨_,_,f1++[a],af,rfl,a7,a8,by simp,a1⟩
 .rintro σ Hx ⟨a0,b0,f1,f2,rfl,fr,hp,rfl,a3⟩;rw[lqm,List.drop_of_length_le (wz6 _)]at a3;cases a3;rw[vh4]at q;exact⟨_,rfl,q p Hx fr hp⟩
end
abbrev sUp:Stmt:=top 39
inductive SpUp(vs:List V)(H:Hp)(Q:VK):Prop
 | mk(p:Addr)(n:Str)(tr:Tr)(l:List Str)(h1:vs=[.ref p,.str n])(h2:KindsAt H p tr)(h3:TrOk tr)(h4:↑tr<=12)(h5:Up tr n l)(h6:∀(a:Addr)(H':Hp),FrS [] H H'->H' a=some (.lst (l.map V.str))->Q (.ref a) H'):SpUp vs H Q
def spUp:Sp:=fun vs H Q _=>SpUp vs H Q
inductive UpI(H1:Hp)(Dl:Addr)(tr:Tr)(i:Nat)(σ:St)(Hx:Hp):Prop
 | mk(x y z:Option V)(us:List Addr)(hσ:σ=[x,y,z])(fr:FrS [] H1 Hx)(hD:Hx Dl=some (.lst (us.map V.ref)))(ha:A2 (fun u (z:Str×Option Str)=>Hx u=some (.tup [.str z.1,eldV z.2])) us (tr.take i)):UpI H1 Dl tr i σ Hx
inductive UpW(H1:Hp)(p Dp pl:Addr)(n:Str)(tr:Tr)(l:List Str)(σ:St)(Hx:Hp):Prop
 | mk(dn rs:List Str)(x:Str)(hσ:σ=[some (.ref p),some (.str n),some (.ref Dp),some (.ref pl)])(hH:Hx=upd H1 pl (.lst ((dn++[x]).map V.str)))(hu:Up tr x rs)(he:dn++rs=l)(hd:↑dn<=12):UpW H1 p Dp pl n tr l σ Hx
section
abbrev pUp:List Str:=["_law_program_here","_law_kind"]
def scUp:zd0 ["_law_program_here","_law_kind","_law_elder_of","_law_found"] pUp (zc1 sUp):=fsc
def ok_up(F:Fun K "_law_up" "_law_up" sUp f fd)(am:mg "dict"=none):FnOk P w K mg base CX0 (k+1) f fd pUp spUp:=by
 refine F.ok scUp (fun vs H Q E h=>?_) (fun ap A outer s H vs Q E hr h=>?_)
 .obtain⟨p,n,tr,l,rfl,_⟩:=h;rfl
 obtain⟨p,n,tr,l,rfl,⟨kt,ts,x,y,hp,hk,a2,al⟩,ok,an,a4,q⟩:=h;have hu:=zn5 hr;have aj:↑l<=12:=by
  obtain⟨i,g,hi⟩:=a4.at;have:=Up.len ok i n g l hi a4;obtain⟨h1,_⟩:=wz2.mp hi;lia
 have a5:(["_law_name","_law_elder","_law_deeds"]:List Str).Nodup:=by rfl'
 exists _,zb3 (sL 2 scUp.nd (zc7 (zh1 rfl) rfl am (by rfl') (zb0 (zh0 (N':=["_law_name","_law_elder","_law_deeds"]) (src:=[none,none,none]) rfl bkn
   (zj4 (eT (pv 0) zb6))
   (g:=gTup K 3 (zk0 (zf0 0) (zk0 (zf0 1) (zk0 (zf0 2) gNil)))) (fun _ _ _ _=>zh4 (n:=3) rfl (zc0 (gL 0 a5) (zc0 (gL 1 a5) (zc0 (gL 2 a5) zf8))))
   (fun _ _ _ _=>zg2) (te:=tTup (zc3 (tVar 0) (zc3 (tVar 1) tNil))) (fun _ _ _ _=>zf1 (zb0 (pv 0) (zb0 (pv 1) zb2)))) zb2)))
  (zb3 (sL 3 scUp.nd (zd7 (zb0 (pv 1) zb2)))
  (zb3 (zs4 vd5 (zq9 (zw3 (zc6 hu (pv 2) (eI (pv 3) (yg8 zq8 zb6)) (fun _ _=>rfl))))
   (zb7 (zf5 (zk8 vd2 vd9 vf0 zd8 (pv 3) (zb0 (zc6 hu (pv 2) (eI (pv 3) (yg8 zq8 zb6)) (fun _ _=>rfl)) zb2)))))
  (zb7 (zd1 (pv 3)))))
 ac_rfl
 have s2:2<=sizeLine:=vb5 (zb8 (by decide));refine⟨_,rfl,p,_,_,_,rfl,rfl,SqT.of hp,rfl,kt,rfl,⟨_,SqT.of hk⟩,fun Dl ae=>?_⟩;refine zp6 (xs:=ts.map V.ref) (UpI H Dl tr) ⟨_,_,_,[],rfl,(FrS.refl).put ae,zb1,.nil⟩ ?_ ?_ ?_
 .rintro i σ Hx hi ⟨_,_,_,_,_,fr,_⟩;exact SqT.of (fr _ _ wz1 hk)
 .rintro i x σ Hx hx ⟨_,_,_,us,rfl,fr,ag,hA⟩;rw[wz5,wz8]at hx;obtain⟨u,ad,rfl⟩:=hx;have hi:i<↑tr:=by rw[<-a2];exact(wz2.mp ad).1
  have hz:tr[i]?=some tr[i]:=zz2 hi;obtain⟨v,hv⟩:=al i u _ ad hz;have ao:↑us<=12:=by
   have:=hA.len;rw[vc2]at this;lia
  exists u,_,rfl,SqT.of (fr _ _ wz1 hv),rfl,_,_,rfl,_,_,rfl,_,_,rfl,rfl;refine⟨_,rfl,_,rfl,s2,fun te a7=>?_⟩;have ac:=(FrS.new (S:=[]) (o:=.tup [V.str tr[i].1,eldV tr[i].2]) a7) _ _ wz1 ag;have tl:Tup _ (upd (upd Hx te (.tup [V.str tr[i].1,eldV tr[i].2])) Dl (.lst (us.map V.ref++[V.ref te]))):=Tup.lst ac;refine⟨_,ac,zb8 (by rw[lqm];lia),_,_,_,us++[te],rfl,(fr.trans (FrS.new a7)).put ae,by rw[zb1,wz9];rfl,?_⟩;rw[vc5,hz];exact(hA.imp fun a b h=>((Tup.new a7).trans tl) _ _ h).snoc (tl _ _ zb1)
 .rintro σ H1 ⟨_,_,_,us,rfl,f1,ai,hA⟩;rw[lqm,a2,vb2 (wz6 _)]at hA;have aa:↑(kvE tr)=↑tr:=by unfold kvE;rw[lqm]
  refine⟨Dl,us,kvE tr,rfl,SqL.of ai,by rw[aa];exact hA.len,by rw[aa];exact zb8 (by lia),fun j t kv ht a8=>?_,fun Dp ah=>?_⟩
  .unfold kvE at a8;rw[wz5]at a8;obtain⟨x,hx,rfl⟩:=wz8.mp a8;obtain⟨x',ab,h⟩:=hA.get ht;rw[hx]at ab;cases ab;exact SqT.of h
  rw[yp2 ok];refine⟨_,rfl,by show 1<=sizeLine;decide,fun pl a3=>?_⟩;have a6:Dp≠pl:=fun z=>by rw[<-z,zb1]at a3;cases a3
  have f2:FrS [] H (upd H1 Dp (.dK (kvE tr))):=f1.trans (FrS.new ah);have a1:upd H1 Dp (.dK (kvE tr)) Dp=some (.dK (kvE tr)):=zb1;generalize upd H1 Dp (.dK (kvE tr))=H2 at a3 f2 a1;refine zt9 (UpW H2 p Dp pl n tr l) (fun σ Hx=>match Hx pl with | some (.lst xs)=>100-↑xs | _=>0) ⟨[],l,n,rfl,rfl,a4,rfl,by decide⟩ ?_ ?_
  .rintro σ Hx ⟨dn,rs,x,rfl,rfl,hx,hl,hd⟩;have a9:∀o,upd H2 pl o Dp=some (.dK (kvE tr)):=fun o=>by rw[zb5 a6];exact a1
   have a0:∀y:Str,↑((dn++[y]).map V.str)=↑dn+1:=fun y=>by simp
   cases hx with
   | @root i _ hi=>
    exists _,rfl,_,rfl,_,rfl,pl,_,_,_,rfl,rfl,SqL.of zb1,zw4 dn x,Dp,V.non,rfl,?_,_,rfl
    .have:=DGet.k (k:=(Sum.inr x:Key)) (a9 (.lst ((dn++[x]).map V.str)));rw[zp9 ok hi]at this;exact this
    .show if (!decide (V.non=V.non))=true then _ else _
     rw[vd0 (by simp)];exact⟨_,rfl,q pl _ (f2.trans (FrS.new a3)) (by rw[zb1,<-hl])⟩
   | @step i _ e l' hi hb=>
    exists _,rfl,_,rfl,_,rfl,pl,_,_,_,rfl,rfl,SqL.of zb1,zw4 dn x,Dp,V.str e,rfl,?_,_,rfl
    .have:=DGet.k (k:=(Sum.inr x:Key)) (a9 (.lst ((dn++[x]).map V.str)));rw[zp9 ok hi]at this;exact this
    .show if (!decide (V.str e=V.non))=true then _ else _
     rw[vd3 (by simp)];exists _,rfl,.inl ⟨rfl,_,SqL.of zb1⟩,_,rfl,_,rfl,_,rfl,pl,_,_,_,rfl,rfl,SqL.of zb1,zw4 dn x,Dp,V.str e,rfl,?_,pl,_,_,rfl,rfl,zb1,?_,⟨dn++[x],l',e,rfl,?_,hb,by rw[<-hl];simp,?_⟩
     .have:=DGet.k (k:=(Sum.inr x:Key)) (a9 (.lst ((dn++[x]).map V.str)));rw[zp9 ok hi]at this;exact this
     .rw[a0];exact zb8 (by lia)
     .rw[zr2,wz9 (l₁:=dn++[x])];rfl
     .have:=vg1 List.length hl;rw[wz4,vc6]at this;rw[wz4,vc1];lia
     .show(match upd _ pl _ pl with | some (HO.lst xs)=>100-↑xs | _=>0)<(match upd _ pl _ pl with | some (HO.lst xs)=>100-↑xs | _=>0);rw[zb1,zb1];show 100-↑(((dn++[x]).map V.str)++[V.str e])<100-↑((dn++[x]).map V.str);rw[wz4,a0,vc1];lia
  .intro σ Hx R R' hR hc;obtain⟨v1,h1,v2,h2,v3,h3,p',xs,i',v',h4,h5,h6,h7,a',v8,h8,h9,c,af,ak⟩:=hc;exact⟨v1,h1,v2,h2,v3,h3,p',xs,i',v',h4,h5,h6,h7,a',v8,h8,h9,c,af,hR _ _ ak⟩
end
abbrev wx0:Stmt:=top 38
def ww4(h:SqL K H a xs)(f:∀b o,H b=some o->H' b=some o):SqL K H' a xs:=by
 rcases h with (h | ⟨o,h⟩) | h
 .exact .inl (.inl (f _ _ h))
 .exact .inl (.inr ⟨o,f _ _ h⟩)
 .exact .inr h
def xh9(Pv:Nat->St->Hp->Prop)(h0:Pv 0 σ0 H0)(hl:∀i σ H,i<=↑xs->Pv i σ H->SqL K H a xs)(hs:∀i x p σ H,xs[i]?=some x->Pv i σ H->H p=none->g (.ref p) σ (upd H p (.tup [.int (i:Nat),x])) fun σ2 H2=>tt σ2 H2 fun b H3=>if b=true then te σ2 H3 fun v H4=>∃ys,H4 D=some (.lst ys)/\↑ys<sizeLine/\Pv (i+1) σ2 (upd H4 D (.lst (ys++[v]))) else Pv (i+1) σ2 H3)(hd:∀σ H,Pv ↑xs σ H->Q H):yg5 (Ite K a) g tt te D σ0 H0 Q:=by
 exists fun i m σ H=>m=↑xs-i/\i<=↑xs/\Pv i σ H,⟨↑xs,by simp,vc9 _,h0⟩;rintro i m σ H ⟨rfl,hi,p⟩;have q:=hl i σ H hi p
 by_cases a0:i<↑xs
 .refine .inr ⟨⟨xs,xs[i],q,by simp[a0]⟩,Pv (i+1),fun σ' H' p'=>⟨↑xs-(i+1),by lia,rfl,a0,p'⟩,fun x H' y=>?_⟩;obtain⟨p2,y2,a1,rfl,rfl,yy⟩:=y;exact hs i y2 p2 σ _ (yy xs q) p a1
 .have e:i=↑xs:=by lia
  subst e;exact .inl ⟨⟨xs,q,wz6 _⟩,hd σ H p⟩
inductive PaIs(H:Hp)(p:Addr)(z:Fz):Prop
 | mk(bd:Addr)(h1:H p=some (.tup [.ref bd,.ref z.2]))(h2:H bd=some (.tup [.str z.1.1,.str z.1.2])):PaIs H p z
def PaIs.keep(h:PaIs H p z)(f:Tup H H'):PaIs H' p z:=by
 obtain⟨bd,h1,h2⟩:=h;exact⟨bd,f _ _ h1,f _ _ h2⟩
def _root_.L2.A2.pkeep(h:A2 (PaIs H) qs L)(f:Tup H H'):A2 (PaIs H') qs L:=h.imp fun _ _ g=>g.keep f
inductive PwI(H1:Hp)(Dl:Addr)(Pσ:St->Prop)(L:List Fz)(i:Nat)(σ:St)(Hx:Hp):Prop
 | mk(ps:List Addr)(hσ:Pσ σ)(fr:FrS [] H1 Hx)(hD:Hx Dl=some (.lst (ps.map V.ref)))(ha:A2 (PaIs Hx) ps (L.take i)):PwI H1 Dl Pσ L i σ Hx
def yh0{K:Fg}{H1:Hp}{a Dl:Addr}{fs:List Addr}{n:Str×Str}{te:TE}{σ0:St}{Pσ:St->Prop}(ha:H1 a=some (.lst (fs.map V.ref)))(hD:H1 Dl=none)(hb:↑fs<=1000)(h0:Pσ σ0)(a1:∀σ v,Pσ σ->Pσ (σ.set 0 (some v)))
  (a3:∀σ x H (Q:VK),Pσ σ->FrS [] H1 H->(∀t1 t2,H t1=none->upd H t1 (.tup [.str n.1,.str n.2]) t2=none->Q (.ref t2) (upd (upd H t1 (.tup [.str n.1,.str n.2])) t2 (.tup [.ref t1,.ref x])))->te (σ.set 0 (some (.ref x))) H Q)
  {Q:Hp->Prop} (hq:∀ps Hx,FrS [] H1 Hx->Hx Dl=some (.lst (ps.map V.ref))->A2 (PaIs Hx) ps (fs.map fun a=>(n,a))->Q Hx):yg5 (Itl K a) (zf0 0) tAll te Dl σ0 (upd H1 Dl (.lst [])) Q:=by
 refine zg9 (xs:=fs.map V.ref) (PwI H1 Dl Pσ (fs.map fun a=>(n,a))) ⟨[],h0,(FrS.refl).put hD,zb1,.nil⟩ ?_ ?_ ?_
 .rintro i σ Hx hi ⟨_,_,fr,_⟩;exact SqL.of (fr _ _ wz1 ha)
 .rintro i x σ Hx hx ⟨ps,hσ,fr,a0,hA⟩;rw[wz5,wz8]at hx;obtain⟨y,hy,rfl⟩:=hx;have eT:(fs.map fun a=>(n,a)).take (i+1)=(fs.map fun a=>(n,a)).take i++[(n,y)]:=by
   rw[vc5,wz5,hy];rfl
  have a4:↑ps<=↑fs:=by
   have:=hA.len;rw[vc2,lqm]at this;lia
  refine a3 σ y Hx _ hσ fr fun t1 t2 h1 h2=>?_;have fn:FrS [] Hx (upd (upd Hx t1 (.tup [.str n.1,.str n.2])) t2 (.tup [.ref t1,.ref y])):=(FrS.new h1).trans (FrS.new h2);have a2:=fn _ _ wz1 a0;have tl:Tup _ (upd (upd (upd Hx t1 (.tup [.str n.1,.str n.2])) t2 (.tup [.ref t1,.ref y])) Dl (.lst (ps.map V.ref++[V.ref t2]))):=Tup.lst a2;refine⟨_,a2,zb8 (by rw[lqm];lia),ps++[t2],a1 σ _ hσ,(fr.trans fn).put hD,by rw[zb1,wz9];rfl,?_⟩;rw[eT];exact(hA.pkeep ((Tup.of0 fn).trans tl)).snoc ⟨t1,tl _ _ zb1,((Tup.new h2).trans tl) _ _ zb1⟩
 .rintro σ Hx ⟨ps,hσ,fr,a0,hA⟩;rw[lqm,vb2 (by rw[lqm];exact wz6 _)]at hA;exact hq ps Hx fr a0 hA
inductive wk5(K:Fg)(vs:List V)(H:Hp)(Q:VK):Prop
 | mk(p:Addr)(ks:List (Str×List Dz))(m0:Dz)(h1:vs=[.ref p])(h2:ProgIs Z H p ks m0)(h3:∀(b:Addr)(ns:List Addr)(H':Hp),FrS [] H H'->H b=none->H' b=some (.lst (ns.map V.ref))->A2 (CaIs K H') ns ((zj3 (zh3 ks m0)).zipIdx 0)->Q (.ref b) H'):wk5 K vs H Q
def xw2(K:Fg):Sp:=fun vs H Q _=>wk5 K vs H Q
inductive RoI(H H1:Hp)(p fl:Addr)(L:List Bz)(σ:St)(Hx:Hp):Prop
 | mk(x2 x3 x4 x5:Option V)(ps:List Addr)(h1:σ=[some (.ref p),some (.ref fl),x2,x3,x4,x5])(h2:FrS [] H Hx)(tp:Tup H1 Hx)(h3:Hx fl=some (.lst (ps.map V.ref)))(h4:A2 (PaIs Hx) ps (zj3 L)):RoI H H1 p fl L σ Hx
inductive RoJ(H H1:Hp)(p fl:Addr)(n:Str)(e:V)(dt:Addr)(L:List Bz)(σ:St)(Hx:Hp):Prop
 | mk(x5:Option V)(ps:List Addr)(h1:σ=[some (.ref p),some (.ref fl),some (.str n),some e,some (.ref dt),x5])(h2:FrS [] H Hx)(tp:Tup H1 Hx)(h3:Hx fl=some (.lst (ps.map V.ref)))(h4:A2 (PaIs Hx) ps (zj3 L)):RoJ H H1 p fl n e dt L σ Hx
inductive NuI(K:Fg)(H2:Hp)(Dl:Addr)(QL:List (Fz×Nat))(i:Nat)(σ:St)(Hx:Hp):Prop
 | mk(x y:Option V)(cs:List Addr)(hσ:σ=[x,y])(fr:FrS [] H2 Hx)(hD:Hx Dl=some (.lst (cs.map V.ref)))(ha:A2 (CaIs K Hx) cs (QL.take i)):NuI K H2 Dl QL i σ Hx
section
def yj0:zd0 ["_law_program_here","_law_found","_law_name","_law_elder","_law_deeds","_law_deed_here"] qJ (zc1 wx0):=fsc
def ws9{k:Nat}(F:Fun K "_law_numbered" "_law_numbered" wx0 f fd)(LI:Cal P w K mg base k "_law_flat" pLis (zz7 4))(me:mg "enumerate"=none):FnOk P w K mg base CX0 (k+1) f fd qJ (xw2 K):=by
 refine F.ok yj0 (fun vs H Q E h=>?_) (fun b6 A outer s H vs Q E hr h=>?_)
 .obtain⟨p,ks,m0,rfl,_⟩:=h;rfl
 obtain⟨p,ks,m0,rfl,hP,q⟩:=h;have aq:(["_law_row_here"]:List Str).Nodup:=by rfl'
 have ac:(["_law_k","_law_one"]:List Str).Nodup:=by rfl'
 have as:(["_law_row_here","_law_name","_law_deed_here"]:List Str).Nodup:=by rfl'
 exists _,zb3 (zj0 (i:=1) (N':=["_law_row_here"]) (src:=[none]) rfl yj0.nd rfl rfl bkn (zf6 (zb9 LI hr rfl (zb0 (eT (pv 0) zb6) zb2)))
    (g:=zf0 0) (fun _ _ _ _=>gL 0 aq) (fun _ _ _ _=>zg2)
    (te:=tTup (zc3 (tTup (zc3 (tC (.str "")) (zc3 (tC (.str "")) tNil))) (zc3 (tVar 0) tNil))) (fun _ _ _ _=>zf1 (zb0 (zf1 (zb0 zd3 (zb0 zd3 zb2))) (zb0 (pv 0) zb2))))
  (zb3 (zf9 vd5 rfl (zj4 (eT (pv 0) zb6)) (zh4 (n:=3) rfl (zc0 (zq0 (i:=2) yj0.nd rfl (Or.inr rfl)) (zc0 (gL 3 yj0.nd) (zc0 (gL 4 yj0.nd) zf8))))
   (zb7 (zf9 vd5 rfl (zj4 (pv 4)) (zq0 (i:=5) yj0.nd rfl (Or.inr rfl))
    (zb7 (zf5 (zk8 vd2 vz2 vz3 yb9 (pv 1) (zb0 (zh0 (N':=["_law_row_here","_law_name","_law_deed_here"]) (src:=[none,some 2,some 5]) rfl bkn (zf6 (zb9 LI hr rfl (zb0 (eT (pv 5) zb6) zb2)))
      (g:=zf0 0) (fun _ _ _ _=>gL 0 as) (fun _ _ _ _=>zg2)
      (te:=tTup (zc3 (tTup (zc3 (tVar 1) (zc3 (tOp (rIxT K) (tVar 2) (tC (.int 0))) tNil))) (zc3 (tVar 0) tNil))) (fun _ _ _ _=>zf1 (zb0 (zf1 (zb0 (pv 1) (zb0 (yp4 (show IxR _ (rIxT K) from yr8) (pv 2) zb6 (fun _ _=>rfl)) zb2))) (zb0 (pv 0) zb2)))) zb2)))))))
  (zb7 (zd1 (zh0 (N':=["_law_k","_law_one"]) (src:=[none,none]) rfl bkn (xn3 rfl me (zb0 (pv 1) zb2))
    (g:=gTup K 2 (zk0 (zf0 0) (zk0 (zf0 1) gNil))) (fun _ _ _ _=>zh4 (n:=2) rfl (zc0 (gL 0 ac) (zc0 (gL 1 ac) zf8)))
    (fun _ _ _ _=>zg2)
    (te:=tTup (zc3 (tVar 0) (zc3 (tOp (rIxT K) (tVar 1) (tC (.int 0))) (zc3 (tOp (rIxT K) (tVar 1) (tC (.int 1))) tNil)))) (fun _ _ _ _=>zf1 (zb0 (pv 0) (zb0 (yp4 (show IxR _ (rIxT K) from yr8) (pv 1) zb6 (fun _ _=>rfl)) (zb0 (yp4 (show IxR _ (rIxT K) from yr8) (pv 1) zb6 (fun _ _=>rfl)) zb2))))))))
 ac_rfl
 have s2:2<=sizeLine:=vb5 (zb8 (by decide));have s3:3<=sizeLine:=vb5 (zb8 (by decide));have hR:=hP.rows;have ao:=zn1 hR;have a1:=hP.many;obtain⟨kt,us,lt,hp,hk,ai,b1,hM,b4⟩:=id hP;obtain⟨m1,m2,m3⟩:=id hM;refine⟨_,rfl,p,_,_,_,rfl,rfl,SqT.of hp,rfl,m0.2.1,m0.2.2.1,m0.2.2.2,rfl,m1,m2,by lia,fun la H2 f2 aa=>⟨la,rfl,⟨_,SqL.of aa⟩,fun fl a9=>?_⟩⟩;refine yh0 (n:=(("":Str),("":Str))) (Pσ:=fun σ=>∃x,σ=[x]) aa a9 (by lia) ⟨_,rfl⟩ (by rintro σ v ⟨x,rfl⟩;exact⟨_,rfl⟩) (by
  rintro σ x H Q ⟨x0,rfl⟩ _ h;exact⟨s2,fun t1 h1=>⟨_,rfl,s2,fun t2 h2=>h t1 t2 h1 h2⟩⟩) fun al H3 f3 ax b2=>?_
 have a3:=f2.trans f3;have a4:H fl=none:=yd9 f2 a9;exists _,rfl,p,_,_,_,rfl,rfl,SqT.of (a3 _ _ wz1 hp),rfl,kt,rfl,⟨_,SqT.of (a3 _ _ wz1 hk)⟩;refine zk1 (xs:=us.map V.ref) (fun i=>RoI H H p fl (zh3 (ks.take i) m0)) ⟨_,_,_,_,al,rfl,a3,Tup.of0 a3,ax,?_⟩ ?_ ?_ ?_
 .have e:zj3 (zh3 (ks.take 0) m0)=m0.2.2.2.map fun a=>(((("":Str),("":Str)),a):Fz):=by unfold zj3 zh3;simp
  rw[e];exact b2
 .rintro i σ Hx hi ⟨_,_,_,_,_,_,fr,_⟩;exact SqT.of (fr _ _ wz1 hk)
 .rintro i x σ Hx hx ⟨_,_,_,_,ps,rfl,fr,_,a0,hA⟩;rw[wz5,wz8]at hx;obtain⟨u,hu,rfl⟩:=hx;have hi:i<↑ks:=by rw[<-ai];exact(wz2.mp hu).1
  have hy:ks[i]?=some ks[i]:=zz2 hi;obtain⟨e,dt,ds,d1,d2,d3,d4,d5⟩:=b1 i u _ hu hy;have eL:zh3 (ks.take (i+1)) m0=zh3 (ks.take i) m0++zg3 ks[i]:=by
   unfold zh3;rw[vc5,hy,vm1,List.cons_append];simp
  have a2:∀z∈zh3 (ks.take i) m0++zg3 ks[i],z∈zh3 ks m0:=by
   intro z hz;rw[<-eL]at hz;unfold zh3 at hz ⊢;rcases vb4.mp hz with rfl | hz
   .exact .head _
   .obtain⟨y,au,b0⟩:=vx6.mp hz;exact .tail _ (vx6.mpr ⟨y,vk4 au,b0⟩)
  have ae:↑(zh3 (ks.take i) m0++zg3 ks[i])<=1000:=by
   rw[<-eL];refine vh1 ?_ a1;unfold zh3;rw[vc6,vc6];have:ks=ks.take (i+1)++ks.drop (i+1):=(vg0 _ _).symm
   conv=>rhs;rw[this]
   rw[vm1,wz4];lia
  rw[eL];generalize ks[i]=y at d1 d3 d4 a2 ae;exists u,_,rfl,SqT.of (fr _ _ wz1 d1),rfl,_,_,rfl,_,_,rfl,_,_,rfl,rfl;exists _,rfl,dt,rfl,⟨_,SqT.of (fr _ _ wz1 d2)⟩;refine zk1 (xs:=ds.map V.ref) (fun j=>RoJ H H p fl y.1 e dt (zh3 (ks.take i) m0++(zg3 y).take j)) ⟨_,ps,rfl,fr,Tup.of0 fr,a0,by rw[uc1,vh4];exact hA⟩ ?_ ?_ ?_
  .rintro j σ Hy hj ⟨_,_,_,fy,_⟩;exact SqT.of (fy _ _ wz1 d2)
  .rintro j x σ Hy hx ⟨_,ps,rfl,fy,_,a0,hA⟩;rw[wz5,wz8]at hx;obtain⟨g,hg,rfl⟩:=hx;have hj:j<↑y.2:=by rw[<-d3];exact(wz2.mp hg).1
   have hz:y.2[j]?=some y.2[j]:=zz2 hj;obtain⟨b8,b3,g1,g2⟩:=d4 j g _ hg hz;have eD:(zg3 y).take (j+1)=(zg3 y).take j++[((y.1,y.2[j].1),y.2[j])]:=by
    have:(zg3 y)[j]?=some ((y.1,y.2[j].1),y.2[j]):=by unfold zg3;rw[wz5,hz];rfl
    rw[vc5,this];rfl
   have b5:↑ps<=80000:=by
    have h1:=hA.len;have h2:=zn1 (H:=H) (L:=zh3 (ks.take i) m0++(zg3 y).take j) fun z hz=>by
     refine hR z (a2 z ?_);rcases vc4.mp hz with hz | hz
     .exact vc4.mpr (.inl hz)
     .exact vc4.mpr (.inr (vk4 hz))
    have h3:↑(zh3 (ks.take i) m0++(zg3 y).take j)<=1000:=by
     refine vh1 ?_ ae;rw[wz4,wz4,vc2];lia
    lia
   rw[eD,<-vd8];generalize y.2[j]=z at g1 g2;obtain⟨r1,r2,r3⟩:=g2.keep (Tup.of0 fy);refine⟨_,rfl,.inl ⟨rfl,_,SqL.of a0⟩,_,rfl,g,_,_,_,rfl,rfl,SqT.of (fy _ _ wz1 g1),rfl,z.2.1,z.2.2.1,z.2.2.2,rfl,r1,r2,by lia,fun lb H4 f4 af=>⟨lb,rfl,⟨_,SqL.of af⟩,fun De an=>?_⟩⟩;refine yh0 (n:=(y.1,z.1)) (Pσ:=fun σ=>∃x,σ=[x,some (.str y.1),some (.ref g)]) af an (by lia) ⟨_,rfl⟩ (by rintro σ v ⟨x,rfl⟩;exact⟨_,rfl⟩) (by
    rintro σ x Hq Q ⟨x0,rfl⟩ fq h;exact⟨_,rfl,_,rfl,g,_,_,_,rfl,rfl,SqT.of (((fy.trans f4).trans fq) _ _ wz1 g1),rfl,s2,fun t1 h1=>⟨_,rfl,s2,fun t2 h2=>h t1 t2 h1 h2⟩⟩) fun pn H5 f5 ay ag=>?_
   have a5:=f4.trans f5;have av:=ag.len;rw[lqm]at av;have ad:=a5 _ _ wz1 a0;have tl:Tup H5 (upd H5 fl (.lst (ps.map V.ref++pn.map V.ref))):=Tup.lst ad;exists fl,De,_,_,rfl,rfl,ad,ay,vb5 (yd8 (by rw[lqm,lqm];lia));have fz:FrS [] H (upd H5 fl (.lst (ps.map V.ref++pn.map V.ref))):=(fy.trans a5).put a4;refine⟨_,ps++pn,rfl,fz,Tup.of0 fz,by rw[zb1,wz9],?_⟩;rw[xw9];have e1:zj3 [((y.1,z.1),z)]=z.2.2.2.map fun a=>((y.1,z.1),a):=by unfold zj3;simp
   rw[e1];exact(hA.pkeep ((Tup.of0 a5).trans tl)).app (ag.pkeep tl)
  .rintro σ Hy ⟨_,ps,rfl,fy,ty,a0,hA⟩;have el:(zg3 y).take ↑(ds.map V.ref)=zg3 y:=vb2 (by unfold zg3;rw[lqm,lqm];lia);rw[el]at hA;exact⟨_,_,_,_,ps,rfl,fy,ty,a0,hA⟩
 rintro σ H6 ⟨_,_,_,_,ps,rfl,f6,_,a0,hA⟩;rw[lqm,ai,vb2 (wz6 _)]at hA;have ar:=hA.len;refine⟨_,rfl,fl,_,rfl,SqL.of a0,fun Du a7=>?_⟩;refine xh9 (xs:=ps.map V.ref) (NuI K H6 Du ((zj3 (zh3 ks m0)).zipIdx 0)) ⟨_,_,[],rfl,(FrS.refl).put a7,zb1,.nil⟩ ?_ ?_ ?_
 .rintro i σ Hx hi ⟨_,_,_,_,fr,_⟩;exact SqL.of (fr _ _ wz1 a0)
 .rintro i x pt σ Hx hx ⟨_,_,cs,rfl,fr,am,hC⟩ a8;rw[wz5,wz8]at hx;obtain⟨u,hu,rfl⟩:=hx;obtain⟨z,hz,bd,u1,u2⟩:=hA.get hu;have ab:Tup H6 Hx:=Tup.of0 fr;have ak:Tup Hx (upd Hx pt (.tup [.int (i:Nat),.ref u])):=Tup.new a8;have ap:((zj3 (zh3 ks m0)).zipIdx 0)[i]?=some (z,i):=by rw[List.getElem?_zipIdx,hz];simp
  have b7:↑cs<=80000:=by
   have h1:=hC.len;rw[vc2,vv1]at h1;lia
  have aj:=ak _ _ (ab _ _ u1);exists pt,_,rfl,SqT.of zb1,rfl,_,_,rfl,_,_,rfl,rfl;refine⟨_,rfl,_,rfl,u,_,_,_,rfl,rfl,SqT.of aj,rfl,_,rfl,u,_,_,_,rfl,rfl,SqT.of aj,rfl,s3,fun pe aw=>?_⟩;have fn:FrS [] Hx (upd (upd Hx pt (.tup [.int (i:Nat),.ref u])) pe (.tup [.int (i:Nat),.ref bd,.ref z.2])):=(FrS.new a8).trans (FrS.new aw);have ah:=fn _ _ wz1 am;have tl:Tup _ (upd (upd (upd Hx pt (.tup [.int (i:Nat),.ref u])) pe (.tup [.int (i:Nat),.ref bd,.ref z.2])) Du (.lst (cs.map V.ref++[V.ref pe]))):=Tup.lst ah;have tn:=(Tup.of0 fn).trans tl;refine⟨_,ah,yd8 (by rw[lqm];lia),_,_,cs++[pe],rfl,(fr.trans fn).put a7,by rw[zb1,wz9];rfl,?_⟩;rw[vc5,ap];exact(hC.ckeep tn).snoc ⟨bd,tl _ _ zb1,.inl ((ab.trans tn) _ _ u2)⟩
 .rintro σ H7 ⟨_,_,cs,rfl,f7,az,a6⟩;rw[lqm,ar]at a6;rw[vb2 (by rw[vv1];exact wz6 _)]at a6;exact q Du cs H7 (f6.trans f7) (yd9 f6 a7) az a6
end
abbrev yw8:Stmt:=top 4
abbrev Kd:=List (Str×Option Str×List Str)
def DeedAt(H:Hp)(dt:Addr)(ds:List Str):Prop:=∃fs:List Addr,H dt=some (.tup (fs.map V.ref))/\↑fs=↑ds/\∀(i:Nat) f d,fs[i]?=some f->ds[i]?=some d->∃rest,H f=some (.tup (.str d::rest))
def DeedsAt(H:Hp)(p:Addr)(kd:Kd):Prop:=∃(kt:Addr)(ts:List Addr)(x y:V),H p=some (.tup [.ref kt,x,y])/\H kt=some (.tup (ts.map V.ref))/\↑ts=↑kd/\
 ∀(j:Nat) t z,ts[j]?=some t->kd[j]?=some z->∃dt,H t=some (.tup [.str z.1,eldV z.2.1,.ref dt])/\DeedAt H dt z.2.2
def HasD(kd:Kd)(n d:Str):Prop:=∃z∈kd,z.1=n/\d∈z.2.2
section
def zs6:zd0 ["program","kind","deed","name","elder","deeds","found"] qI (zc1 yw8):=fsc
def ym3:Sp:=fun vs H Q _=>∃(p:Addr)(n d:Str)(kd:Kd),vs=[.ref p,.str n,.str d]/\DeedsAt H p kd/\(HasD kd n d->∀f,Q (.ref f) H)/\(¬HasD kd n d->Q .non H)
def xq0(F:Fun K "deed_of" "deed_of" yw8 f fd):FnOk P w K mg base CX0 (k+1) f fd qI ym3:=by
 refine F.ok zs6 (fun vs H Q E h=>?_) (fun aa A outer s H vs Q E hr h=>?_)
 .obtain⟨p,n,d,kd,rfl,_⟩:=h;rfl
 obtain⟨p,n,d,kd,rfl,⟨kt,ts,x,y,hp,hk,a2,a9⟩,q1,q2⟩:=h;exists _,zb3 (zf9 vd5 rfl (zj4 (eT (pv 0) zb6))
   (zh4 (n:=3) rfl (zc0 (gL 3 zs6.nd) (zc0 (gL 4 zs6.nd) (zc0 (gL 5 zs6.nd) zf8))))
   (zb7 (zg8 (zc2 zn2 (pv 3) (pv 1) (zd6 _))
    (zb7 (zf9 vd5 rfl (zj4 (pv 5)) (gL 6 zs6.nd)
     (zb7 (zg8 (zc2 zn2 (eT (pv 6) zb6) (pv 2) (zd6 _)) (zb7 (zd1 (pv 6))) zd4)))) zd4)))
  (zb7 (zd1 yp6))
 exists _,rfl,p,_,_,_,rfl,rfl,SqT.of hp,rfl,kt,rfl,⟨_,SqT.of hk⟩;have a4:∀i,HasD (kd.take i) n d->HasD kd n d:=fun i ⟨z,hz,h⟩=>⟨z,vk4 hz,h⟩;refine zk1 (xs:=ts.map V.ref) (fun i σ Hx=>Hx=H/\(∃a b c e,σ=[some (.ref p),some (.str n),some (.str d),a,b,c,e])/\¬HasD (kd.take i) n d) ⟨rfl,⟨_,_,_,_,rfl⟩,fun⟨z,hz,_⟩=>by cases hz⟩ (fun i σ Hx _ h=>by rw[h.1];exact SqT.of hk) ?_ ?_
 .rintro i x σ Hx hx ⟨rfl,⟨a0,b0,c0,e0,rfl⟩,a3⟩;rw[wz5,wz8]at hx;obtain⟨t,ht,rfl⟩:=hx;have hi:i<↑kd:=by rw[<-a2];exact(wz2.mp ht).1
  have hz:kd[i]?=some kd[i]:=zz2 hi;obtain⟨dt,h1,fs,h2,a6,a7⟩:=a9 i t _ ht hz;have a1:(kd[i].1=n/\d∈kd[i].2.2->False)->¬HasD (kd.take (i+1)) n d:=fun hh ⟨z,hm,e1,e2⟩=>by
   rw[vc5,hz]at hm;rcases vc4.mp hm with hm | hm
   .exact a3 ⟨z,hm,e1,e2⟩
   .have e:z=kd[i]:=by simpa using hm
    subst e;exact hh ⟨e1,e2⟩
  exists t,_,rfl,SqT.of h1,rfl,_,_,rfl,_,_,rfl,_,_,rfl,rfl;exists _,rfl,_,rfl,rfl,_,rfl;refine ite2 (fun c=>?_) (fun c=>?_)
  .have en:kd[i].1=n:=V.str.inj (vb3 c);exists _,rfl,dt,rfl,⟨_,SqT.of h2⟩;refine zk1 (xs:=fs.map V.ref) (fun j σ Hy=>Hy=Hx/\(∃e,σ=[some (.ref p),some (.str n),some (.str d),some (.str kd[i].1),some (eldV kd[i].2.1),some (.ref dt),e])/\d∉kd[i].2.2.take j) ⟨rfl,⟨_,rfl⟩,fun z=>by cases z⟩ (fun j σ Hy _ h=>by rw[h.1];exact SqT.of h2) ?_ ?_
   .rintro j x σ Hy hx ⟨rfl,⟨e1,rfl⟩,a5⟩;rw[wz5,wz8]at hx;obtain⟨g,hg,rfl⟩:=hx;have hj:j<kd[i].2.2.length:=by rw[<-a6];exact(wz2.mp hg).1
    have hd:kd[i].2.2[j]?=some kd[i].2.2[j]:=zz2 hj;obtain⟨rest,a8⟩:=a7 j g _ hg hd;exists _,rfl,g,_,_,.str kd[i].2.2[j],rfl,rfl,SqT.of a8,zz0 _ _,_,rfl,rfl,_,rfl;refine ite2 (fun c=>?_) (fun c=>?_)
    .have ed:kd[i].2.2[j]=d:=V.str.inj (vb3 c);exact⟨_,rfl,q1 ⟨kd[i],vg6 hi,en,ed▸vg6 hj⟩ g⟩
    .have ed:kd[i].2.2[j]≠d:=fun z=>c (vd1 (by rw[z]))
     refine⟨rfl,⟨_,rfl⟩,fun hm=>?_⟩;rw[vc5,hd]at hm;rcases vc4.mp hm with hm | hm
     .exact a5 hm
     .have e:d=kd[i].2.2[j]:=by simpa using hm
      exact ed e.symm
   .rintro σ Hy ⟨rfl,⟨e1,rfl⟩,a5⟩;rw[lqm,a6,vb2 (wz6 _)]at a5;exact⟨rfl,⟨_,_,_,_,rfl⟩,a1 fun h=>a5 h.2⟩
  .have en:kd[i].1≠n:=fun z=>c (vd1 (by rw[z]))
   exact⟨rfl,⟨_,_,_,_,rfl⟩,a1 fun h=>en h.1⟩
 .rintro σ Hx ⟨rfl,⟨a0,b0,c0,e0,rfl⟩,a3⟩;rw[lqm,a2,vb2 (wz6 _)]at a3;exact q2 a3
end
abbrev yz1:Stmt:=top 5
def trOf(kd:Kd):Tr:=kd.map fun z=>(z.1,z.2.1)
def DeedsAt.kinds(h:DeedsAt H p kd):KindsAt H p (trOf kd):=by
 obtain⟨kt,ts,x,y,hp,hk,hl,a0⟩:=h;refine⟨kt,ts,x,y,hp,hk,by unfold trOf;rw[lqm];exact hl,fun j t z ht hz=>?_⟩;unfold trOf at hz;rw[wz5,wz8]at hz;obtain⟨z',a1,rfl⟩:=hz;obtain⟨dt,h1,_⟩:=a0 j t z' ht a1;exact⟨_,h1⟩
def DeedsAt.keep(h:DeedsAt H p kd)(f:FrS [] H H'):DeedsAt H' p kd:=by
 obtain⟨kt,ts,x,y,hp,hk,hl,a0⟩:=h;refine⟨kt,ts,x,y,f _ _ wz1 hp,f _ _ wz1 hk,hl,fun j t z ht hz=>?_⟩;obtain⟨dt,h1,fs,h2,h3,h4⟩:=a0 j t z ht hz;refine⟨dt,f _ _ wz1 h1,fs,f _ _ wz1 h2,h3,fun i g d hg hd=>?_⟩;obtain⟨rest,h5⟩:=h4 i g d hg hd;exact⟨rest,f _ _ wz1 h5⟩
instance decHasD (kd:Kd) (n d:Str):Decidable (HasD kd n d):=by unfold HasD;infer_instance
def ansF(kd:Kd)(d:Str)(l:List Str):Option Str:=l.find? fun x=>decide (HasD kd x d)
def ww2(hz:l[i]?=some z)(a0:∀x∈l.take i,¬HasD kd x d)(hh:HasD kd z d):ansF kd d l=some z:=by
 obtain⟨hi,rfl⟩:=wz2.mp hz;unfold ansF;rw[List.find?_eq_some_iff_append];refine⟨vd1 hh,l.take i,l.drop (i+1),?_,fun x hx=>by simpa using a0 x hx⟩;rw[<-vm3 hi,vg0]
def wt2{K:Fg}{a:Addr}{xs:List V}{g:TG}{tb:TS}{D:Ends}{σ:St}{H:Hp}(Pv:Nat->St->Hp->Prop)(h0:Pv 0 σ H)(hl:∀i σ H,i<=↑xs->Pv i σ H->SqT K H a xs)
  (hs:∀i x σ H,xs.reverse[i]?=some x->Pv i σ H->g x σ H fun σ2 H2=>tb {D with nx:=Pv (i+1),ct:=Pv (i+1),bk:=D.nx} σ2 H2) (hd:∀σ H,Pv ↑xs σ H->D.nx σ H):
  ∃W:Nat->Nat->St->Hp->Prop,(∃m,W 0 m σ H)/\∀i m σ H,W i m σ H->
   ((Itrv K a ↑xs).stop i H/\D.nx σ H)\/((Itrv K a ↑xs).go i H/\∃N:St->Hp->Prop,(∀σ' H',N σ' H'->∃m',m'<m/\W (i+1) m' σ' H')/\∀x H',(Itrv K a ↑xs).yld i H x H'->g x σ H' fun σ2 H2=>tb {D with nx:=N,ct:=N,bk:=D.nx} σ2 H2):=by
 exists fun i m σ H=>m=↑xs-i/\i<=↑xs/\Pv i σ H,⟨↑xs,by simp,vc9 _,h0⟩;rintro i m σ H ⟨rfl,hi,p⟩;have q:=hl i σ H hi p
 by_cases a0:i<↑xs
 .refine .inr ⟨⟨xs,xs.reverse[i]'(by rw[vs9];exact a0),q,rfl,zz2 _⟩,Pv (i+1),fun σ' H' p'=>⟨↑xs-(i+1),by(clear hi;lia),rfl,a0,p'⟩,fun x H' y=>?_⟩;obtain⟨e,y⟩:=y;subst e;exact hs i x σ _ (y xs q) p
 .have e:i=↑xs:=by lia
  subst e;exact .inl ⟨⟨xs,q,rfl,wz6 _⟩,hd σ H p⟩
section
def xc0:zd0 ["program","kind","deed","name"] qI (zc1 yz1):=fsc
inductive xf3(vs:List V)(H:Hp)(Q:VK):Prop
 | mk(p:Addr)(n d:Str)(kd:Kd)(l:List Str)(h1:vs=[.ref p,.str n,.str d])(h2:DeedsAt H p kd)(h3:TrOk (trOf kd))(h4:↑(trOf kd)<=12)(h5:Up (trOf kd) n l)(h6:∀(H':Hp),FrS [] H H'->Q (eldV (ansF kd d l)) H'):xf3 vs H Q
def yb3:Sp:=fun vs H Q _=>xf3 vs H Q
def xr4{k:Nat}(F:Fun K "answer" "answer" yz1 f fd)(T:Cal P w K mg base k "elders" ["program","kind"] zz8)(TD:Cal P w K mg base k "deed_of" qI ym3)(mr:mg "reversed"=none):
  FnOk P w K mg base CX0 (k+1) f fd qI yb3:=by
 refine F.ok xc0 (fun vs H Q E h=>?_) (fun a4 A outer s H vs Q E hr h=>?_)
 .obtain⟨p,n,d,kd,l,rfl,_⟩:=h;rfl
 obtain⟨p,n,d,kd,l,rfl,hK,ok,a3,a2,q⟩:=h;exists _,zb3 (zf9 vd5 rfl (pi_rev rfl mr (zb0 (zb9 T hr rfl (zb0 (pv 0) (zb0 (pv 1) zb2))) zb2)) (gL 3 xc0.nd)
   (zb7 (zg8 (zq9 (zw3 (zb9 TD hr rfl (zb0 (pv 0) (zb0 (pv 3) (zb0 (pv 2) zb2)))))) (zb7 (zd1 (pv 3))) zd4)))
  (zb7 (zd1 yp6))
 refine⟨_,rfl,_,rfl,p,n,trOf kd,l,rfl,hK.kinds,ok,a3,a2,fun a H' fr ha a1=>?_⟩;exists a,_,rfl,SqT.of a1;refine wt2 (xs:=l.reverse.map V.str) (fun i σ Hx=>Hx=H'/\(∃e,σ=[some (.ref p),some (.str n),some (.str d),e])/\∀x∈l.take i,¬HasD kd x d) ⟨rfl,⟨_,rfl⟩,fun z hz=>by cases hz⟩ (fun i σ Hx _ h=>by rw[h.1];exact SqT.of a1) ?_ ?_
 .rintro i x σ Hx hx ⟨rfl,⟨e0,rfl⟩,a0⟩;rw[<-List.map_reverse,vw9,wz5,wz8]at hx;obtain⟨z,hz,rfl⟩:=hx;refine⟨_,rfl,_,rfl,_,rfl,p,z,d,kd,rfl,hK.keep fr,fun hh g=>?_,fun hh=>?_⟩
  .exists _,rfl;show if (!decide (V.ref g=V.non))=true then _ else _
   rw[vd3 (by simp)];exists _,rfl;have:=q _ fr;rw[ww2 hz a0 hh]at this;exact this
  .exists _,rfl;show if (!decide (V.non=V.non))=true then _ else _
   rw[vd0 (by simp)];refine⟨rfl,⟨_,rfl⟩,fun x hx=>?_⟩;rw[vc5,hz]at hx;rcases vc4.mp hx with hx | hx
   .exact a0 x hx
   .have e:x=z:=by simpa using hx
    rw[e];exact hh
 .rintro σ Hx ⟨rfl,⟨e0,rfl⟩,a0⟩;rw[lqm,vs9,vb2 (wz6 _)]at a0;have e:ansF kd d l=none:=by
   unfold ansF;rw[ub1];exact fun x hx=>by simpa using a0 x hx
  have:=q _ fr;rw[e]at this;exact this
end
def kdOf(ks:List (Str×List Dz))(tr:Tr):Kd:=(tr.zip ks).map fun q=>(q.1.1,q.1.2,q.2.2.map (·.1))
def xt6{ks:List (Str×List Dz)}{tr:Tr}(nm:ks.map (·.1)=tr.map (·.1)):↑ks=↑tr:=by
 have:=vg1 List.length nm;rwa [lqm,lqm]at this
def kd_at{ks:List (Str×List Dz)}{tr:Tr}(nm:ks.map (·.1)=tr.map (·.1)){j:Nat}{z:Str×Option Str×List Str}(h:(kdOf ks tr)[j]?=some z):∃y,ks[j]?=some y/\tr[j]?=some (z.1,z.2.1)/\z.2.2=y.2.map (·.1)/\y.1=z.1:=by
 unfold kdOf at h;rw[wz5,wz8]at h;obtain⟨q,hq,rfl⟩:=h;rw[vr7]at hq;have e1:(ks.map (·.1))[j]?=some q.2.1:=by rw[wz5,hq.2];rfl
 rw[nm,wz5,hq.1]at e1;exact⟨q.2,hq.2,hq.1,rfl,(vf7 e1).symm⟩
def tr_kd{ks:List (Str×List Dz)}{tr:Tr}(nm:ks.map (·.1)=tr.map (·.1)):trOf (kdOf ks tr)=tr:=by
 have hl:=xt6 nm;unfold trOf kdOf;rw[vj9];refine ub6 fun i=>?_;rw[wz5];rcases vq1 i ↑tr with hi | hi
 .rw[zz2 (l:=tr.zip ks) (by rw[vw0];lia),zz2 hi,List.getElem_zip];rfl
 .rw[vn9 hi,vn9 (by rw[vw0];lia)];rfl
def has_kd{Z:Str->Str->Prop}{ks:List (Str×List Dz)}{tr:Tr}(L:Lnk Z ks tr){n d:Str}(h:∃y∈ks,y.1=n/\∃z∈y.2,z.1=d):HasD (kdOf ks tr) n d:=by
 obtain⟨y,hy,ey,z,hz,ez⟩:=h;obtain⟨j,hj⟩:=vf9.mp hy;have a0:=(wz2.mp hj).1;have hl:=xt6 L.nm;have ht:tr[j]?=some tr[j]:=zz2 (by lia);have hk:(kdOf ks tr)[j]?=some (tr[j].1,tr[j].2,y.2.map (·.1)):=by
  unfold kdOf;have e0:(tr.zip ks)[j]?=some (tr[j],y):=vr7.mpr ⟨ht,hj⟩;rw[wz5,e0];rfl
 have en:y.1=tr[j].1:=by
  have e1:(ks.map (·.1))[j]?=some y.1:=by rw[wz5,hj];rfl
  rw[L.nm,wz5,ht]at e1;exact(vf7 e1).symm
 exact⟨_,vb0 hk,by rw[<-ey,en],by rw[<-ez];exact vb9.mpr ⟨z,hz,rfl⟩⟩
def ProgIs.deeds{Z:Str->Str->Prop}{H:Hp}{p:Addr}{ks:List (Str×List Dz)}{m0:Dz}{tr:Tr}(h:ProgIs Z H p ks m0)(hK:KindsAt H p tr)(nm:ks.map (·.1)=tr.map (·.1)):DeedsAt H p (kdOf ks tr):=by
 obtain⟨kt,us,lt,h1,h2,h3,h4,h5,h6⟩:=h;obtain⟨a0,ts,x,y,g1,g2,g3,g4⟩:=hK;rw[h1]at g1;have e1:kt=a0:=by
  injection g1 with g1;injection g1 with g1;injection g1 with g1 _;exact V.ref.inj g1
 subst e1;rw[h2]at g2;have e2:us=ts:=by
  injection g2 with g2;injection g2 with g2;exact yn4 g2
 subst e2;have hl:=xt6 nm;have a2:↑(kdOf ks tr)=↑tr:=by unfold kdOf;rw[lqm,vw0];lia
 refine⟨kt,us,lt,.ref m0.2.1,h1,h2,by lia,fun j u z hu hz=>?_⟩;obtain⟨yy,hy,ht,e3,e4⟩:=kd_at nm hz;obtain⟨e,dt,fs,k1,k2,k3,k4,k5⟩:=h4 j u yy hu hy;obtain⟨v,hv⟩:=g4 j u _ hu ht;rw[k1]at hv;have e5:e=eldV z.2.1:=by
  injection hv with hv;injection hv with hv;injection hv with _ hv;injection hv with hv _
 subst e5;refine⟨dt,by rw[<-e4];exact k1,fs,k2,by rw[k3,e3,lqm],fun i f d hf hd=>?_⟩;rw[e3,wz5,wz8]at hd;obtain⟨dz,a1,rfl⟩:=hd;obtain⟨pv,gv,q1,_⟩:=k4 i f dz hf a1;exact⟨_,q1⟩
open Classical in
noncomputable def lineOf(tr:Tr)(x:Str):List Str:=if h:∃l,Up tr x l then h.choose else []
def yc1(ok:TrOk tr)(h:Up tr x l):lineOf tr x=l:=by
 unfold lineOf;rw[dif_pos ⟨l,h⟩];exact Up.inj ok (Exists.choose_spec (⟨l,h⟩:∃l,Up tr x l)) h
noncomputable def ansOf(kd:Kd)(tr:Tr)(x d:Str):Option Str:=ansF kd d (lineOf tr x)
def Up.suffix(ok:TrOk tr)(h:Up tr x l)(hk:k∈l)(g:Up tr k lk):∀n∈lk,n∈l:=by
 induction h with
 | root hi=>
  intro n hn;have e:=vc7.mp hk;subst e;rw[Up.inj ok g (.root hi)]at hn;exact hn
 | @step i n' e l' hi hb ih=>
  intro n hn;rcases vb4.mp hk with e | hk
  .subst e;rw[Up.inj ok g (.step hi hb)]at hn;exact hn
  .exact vf6 _ (ih hk n hn)
open Classical in
def zw2(L:Lnk Z ks tr)(ok:TrOk tr)(hz:Z k d)(hx:Up tr x l)(hk:k∈l):∃r,ansOf (kdOf ks tr) tr x d=some r/\r∈tr.map (·.1):=by
 obtain⟨_,n,lk,a0,hn,hy⟩:=L.hz k d hz;have a1:=Up.suffix ok hx hk a0 n hn;unfold ansOf;rw[yc1 ok hx];unfold ansF;cases e:l.find? fun x=>decide (HasD (kdOf ks tr) x d)with
 | some r=>exact⟨r,rfl,hx.mem r (vr8 e)⟩
 | none=>exact absurd (vd1 (has_kd L hy)) (ub1.mp e n a1)
def FrS.old0(f:FrS [] H H')(h:H' a=none):H a=none:=by
 cases e:H a with
 | none=>rfl
 | some o=>rw[f a o wz1 e]at h;cases h
def mkK(H:Hp)(a:Addr):Option Str:=match H a with
 | some (.tup [.str w,_,.str k])=>if w="make" then some k else none
 | _=>none
def clK(H:Hp)(a:Addr):Option (Str×Str):=match H a with
 | some (.tup [.str w,_,_,.str k,.str d,_])=>if w="call" then some (k,d) else none
 | _=>none
def wb3(h:RowIs Z H a)(f:Tup H H'):mkK H' a=mkK H a/\clK H' a=clK H a:=by
 obtain⟨w,rest,h,_,_⟩:=h;unfold mkK clK;rw[h,f _ _ h];exact⟨rfl,rfl⟩
def xb2{Z:Str->Str->Prop}{H:Hp}{a:Addr}{w:Str}{rest:List V}(h:H a=some (.tup (.str w::rest)))(m:w="make"->∃x k:Str,rest=[.str x,.str k]):(w="make"/\∃x k:Str,rest=[.str x,.str k]/\mkK H a=some k)\/(w≠"make"/\mkK H a=none):=by
 by_cases e:w="make"
 .obtain⟨x,k,rfl⟩:=m e;refine .inl ⟨e,x,k,rfl,?_⟩;unfold mkK;rw[h];exact vd3 e
 .refine .inr ⟨e,?_⟩;unfold mkK;rw[h]
  split
  .rename_i w' k' h'
   injection h' with h';injection h' with h';injection h' with h' _;rw[vd0];rw[<-V.str.inj h'];exact e
  .rfl
def yb0{Z:Str->Str->Prop}{H:Hp}{a:Addr}{w:Str}{rest:List V}(h:H a=some (.tup (.str w::rest)))(c:w="call"->CallR Z H a):(w="call"/\∃(x y k d:Str)(g:Addr),rest=[.str x,.str y,.str k,.str d,.ref g]/\clK H a=some (k,d)/\Z k d)\/(w≠"call"/\clK H a=none):=by
 by_cases e:w="call"
 .obtain⟨x,y,k,d,g,ss,h2,_,_,hz⟩:=c e;have h3:=h;rw[h2]at h3;injection h3 with h3;injection h3 with h3;injection h3 with _ h3;refine .inl ⟨e,x,y,k,d,g,h3.symm,?_,hz⟩;unfold clK;rw[h2];exact vd3 rfl
 .refine .inr ⟨e,?_⟩;unfold clK;rw[h]
  split
  .rename_i w' k' d' h'
   injection h' with h';injection h' with h';injection h' with h' _;rw[vd0];rw[<-V.str.inj h'];exact e
  .rfl
def mkL(H:Hp)(ts:List Str)(a:Addr):List Str:=match mkK H a with
 | some k=>if k∈ts then [k] else []
 | none=>[]
noncomputable def clL(H:Hp)(kd:Kd)(tr:Tr)(ss:List Str)(a:Addr):List (Str×Str):=match clK H a with
 | some (k,d)=>(ss.filter (below tr k)).map fun x=>((ansOf kd tr x d).getD "",d)
 | none=>[]
abbrev yk2:Stmt:=top 14
abbrev yf4:Stmt:=top 15
inductive yr3(vs:List V)(H:Hp)(Q:VK):Prop
 | mk(th a:Addr)(ts:List Str)(Z:Str->Str->Prop)(h1:vs=[.ref th,.ref a])(h2:H th=some (.tup (ts.map V.str)))(h3:RowIs Z H a)(h4:∀(l:Addr)(H':Hp),FrS [] H H'->H l=none->H' l=some (.lst ((mkL H ts a).map V.str))->Q (.ref l) H'):yr3 vs H Q
def yd3:Sp:=fun vs H Q _=>yr3 vs H Q
section
def xt1:zd0 ["there","row"] ["there","row"] (zc1 yk2):=fsc
def xh3(F:Fun K "kinds_by" "kinds_by" yk2 f fd):FnOk P w K mg base CX0 (k+1) f fd ["there","row"] yd3:=by
 refine F.ok xt1 (fun vs H Q E h=>?_) (fun a1 A outer s H vs Q E hr h=>?_)
 .obtain⟨th,a,ts,Z,rfl,_⟩:=h;rfl
 obtain⟨th,a,ts,Z,rfl,a0,⟨w,rest,ha,hc,hm⟩,q⟩:=h;exists _,zb7 (zd1 (xz8 (PW.pt (zk5 (zc2 zn2 (eT (pv 1) zb6) zd3 (zd6 _)) (zk2 (zc2 (show OpR _ _ (rIn K false) from zg4) (eT (pv 1) zb6) (pv 0) rfl)))) (zd7 (zb0 (eT (pv 1) zb6) zb2)) (zd7 zb2)))
 ac_rfl
 have nil:mkL H ts a=[]->(tLst tNil) [some (.ref th),some (.ref a)] H Q:=fun e=>⟨vc9 _,fun l hl=>q l _ (FrS.new hl) hl (by rw[e];exact zb1)⟩
 exists _,rfl,a,_,_,.str w,rfl,rfl,SqT.of ha,zz0 _ _,rfl,_,rfl;rcases xb2 (Z:=Z) ha hm with ⟨rfl,x,kk,rfl,e⟩ | ⟨n,e⟩
 .refine iteT ?_;exists _,rfl,a,_,_,.str kk,rfl,rfl,SqT.of ha,rfl,_,rfl,th,_,rfl,.inr (SqT.of a0),rfl,zg0 _,_,rfl;rw[zj8];refine ite2 (fun c=>?_) (fun c=>?_)
  .have c:kk∈ts:=by simpa using c
   exists _,rfl,a,_,_,.str kk,rfl,rfl,SqT.of ha,rfl;refine⟨sz9 rfl,fun l hl=>q l _ (FrS.new hl) hl ?_⟩;have e2:mkL H ts a=[kk]:=by unfold mkL;rw[e];exact vd3 c
   rw[e2,zb1];rfl
  .have c:kk∉ts:=by simpa using c
   refine nil ?_;unfold mkL;rw[e];exact vd0 c
 .have e1:(decide (V.str w=V.str "make"))=false:=vf4 fun z=>n (V.str.inj z);show if (decide (V.str w=V.str "make"))=true then _ else _
  rw[e1];refine iteF (iteF (nil ?_));unfold mkL;rw[e]
inductive yh7(vs:List V)(H:Hp)(Q:VK):Prop
 | mk(p kl a:Addr)(ks:List (Str×List Dz))(tr:Tr)(ss:List Str)(Z:Str->Str->Prop)(h1:vs=[.ref p,.ref kl,.ref a])(h2:DeedsAt H p (kdOf ks tr))(h3:Lnk Z ks tr)(h4:TrOk tr)(h5:↑tr<=12)(h6:H kl=some (.lst (ss.map V.str)))(h7:∀x∈ss,∃l,Up tr x l)(h8:↑ss<=64)(h9:RowIs Z H a)
  (h10:∀(l:Addr)(bs:List Addr)(H':Hp),FrS [] H H'->H l=none->H' l=some (.lst (bs.map V.ref))->A2 (fun b (n:Str×Str)=>H' b=some (.tup [.str n.1,.str n.2])) bs (clL H (kdOf ks tr) tr ss a)->Q (.ref l) H'):yh7 vs H Q
def zv3:Sp:=fun vs H Q _=>yh7 vs H Q
inductive BbI(H1:Hp)(p Dl a:Addr)(F:Str->Str×Str)(zs:List Str)(i:Nat)(σ:St)(Hx:Hp):Prop
 | mk(x:Option V)(bs:List Addr)(hσ:σ=[x,some (.ref p),some (.ref a)])(fr:FrS [] H1 Hx)(hD:Hx Dl=some (.lst (bs.map V.ref)))(ha:A2 (fun b (n:Str×Str)=>Hx b=some (.tup [.str n.1,.str n.2])) bs ((zs.take i).map F)):BbI H1 p Dl a F zs i σ Hx
abbrev zr9:List Str:=["program","kinds","row"]
def xg9:zd0 zr9 zr9 (zc1 yf4):=fsc
def yv1(F:Fun K "bodies_by" "bodies_by" yf4 f fd)(AN:Cal P w K mg base k "answer" qI yb3)(AB:Cal P w K mg base k "all_below" wb1 xs3):FnOk P w K mg base CX0 (k+1) f fd zr9 zv3:=by
 refine F.ok xg9 (fun vs H Q E h=>?_) (fun am A outer s H vs Q E hr h=>?_)
 .obtain⟨p,kl,a,ks,tr,ss,Z,rfl,_⟩:=h;rfl
 obtain⟨p,kl,a,ks,tr,ss,Z,rfl,hD,hL,hT,aa,af,hU,a8,⟨w,rest,ha,hc,hm⟩,q⟩:=h;have ag:(["kind","program","row"]:List Str).Nodup:=by rfl'
 exists _,zb3 (zg8 (zc2 wv7 (eT (pv 2) zb6) zd3 (zd6 _)) (zb7 (zd1 (zd7 zb2))) zd4)
  (zb7 (zd1 (zh0 (N':=["kind","program","row"]) (src:=[none,some 0,some 2]) rfl bkn (zf6 (zb9 AB hr rfl (zb0 (pv 0) (zb0 (pv 1) (zb0 (eT (pv 2) zb6) zb2)))))
   (g:=zf0 0) (fun _ _ _ _=>gL 0 ag) (fun _ _ _ _=>zg2)
   (te:=tTup (zc3 (zm8 yb3 [] E0 (zc3 (tVar 1) (zc3 (tVar 0) (zc3 (tOp (rIxT K) (tVar 2) (tC (.int 4))) tNil)))) (zc3 (tOp (rIxT K) (tVar 2) (tC (.int 4))) tNil)))
   (fun _ _ _ _=>zf1 (zb0 (zb9 AN hr rfl (zb0 (pv 1) (zb0 (pv 0) (zb0 (eT (pv 2) zb6) zb2)))) (zb0 (eT (pv 2) zb6) zb2))))))
 ac_rfl
 exists _,rfl,a,_,_,.str w,rfl,rfl,SqT.of ha,zz0 _ _,rfl,_,rfl;rcases yb0 ha hc with ⟨rfl,x,y,kk,d,gg,rfl,e,hz⟩ | ⟨n,e⟩
 .refine iteF ?_;have a1:=tr_kd hL.nm;have eC:clL H (kdOf ks tr) tr ss a=(ss.filter (below tr kk)).map fun x=>((ansOf (kdOf ks tr) tr x d).getD "",d):=by
   unfold clL;rw[e]
  rw[eC]at q;have hK:KindsAt H p tr:=by have:=hD.kinds;rwa [a1]at this
  refine⟨_,rfl,_,rfl,_,rfl,a,_,_,.str kk,rfl,rfl,SqT.of ha,rfl,p,kl,kk,tr,ss,rfl,hK,hT,aa,.inl af,hU,a8,fun b H1 f1 hb=>⟨b,rfl,⟨_,SqL.of hb⟩,fun Dl a5=>?_⟩⟩;have aj:↑(ss.filter (below tr kk))<=64:=vh1 (vm4 _ _) a8;generalize hzs:ss.filter (below tr kk)=zs at q hb aj;refine zg9 (xs:=zs.map V.str) (BbI H1 p Dl a (fun x=>((ansOf (kdOf ks tr) tr x d).getD "",d)) zs) ⟨_,[],rfl,(FrS.refl).put a5,zb1,.nil⟩ ?_ ?_ ?_
  .rintro i σ Hx hi ⟨_,_,_,fr,_⟩;exact SqL.of (fr _ _ wz1 hb)
  .rintro i v σ Hx hv ⟨x0,bs,rfl,fr,a2,hA⟩;rw[wz5,wz8]at hv;obtain⟨z,ad,rfl⟩:=hv;have ak:z∈ss.filter (below tr kk):=by rw[hzs];exact vb0 ad
   obtain⟨ai,ab⟩:=vq6.mp ak;obtain⟨l,a0⟩:=hU z ai;have a4:kk∈l:=by
    rw[<-zt8 hT a0]at ab;exact vb3 ab
   obtain⟨r,er,_⟩:=zw2 hL hT hz a0 a4;have a6:=f1.trans fr;have ae:=a6 _ _ wz1 ha;refine⟨_,rfl,_,rfl,_,rfl,a,_,_,.str d,rfl,rfl,SqT.of ae,rfl,p,z,d,kdOf ks tr,l,rfl,hD.keep a6,by rw[a1];exact hT,by rw[a1];exact aa,by rw[a1];exact a0,fun Hy fy=>?_⟩;have e1:ansF (kdOf ks tr) d l=some r:=by
    unfold ansOf at er;rwa [yc1 hT a0]at er
   rw[e1];have ah:=fy _ _ wz1 ae;refine⟨_,rfl,a,_,_,.str d,rfl,rfl,SqT.of ah,rfl,sz9 rfl,fun tp a3=>?_⟩;have a9:=fy _ _ wz1 a2;have a7:Dl≠tp:=zb4 a9 a3;have ac:upd Hy tp (.tup [eldV (some r),V.str d]) Dl=some (.lst (bs.map V.ref)):=by rw[zb5 a7];exact a9
   have an:↑bs<=64:=by
    have:=hA.len;rw[lqm,vc2]at this;lia
   have al:Tup Hx (upd (upd Hy tp (.tup [eldV (some r),V.str d])) Dl (.lst ((bs++[tp]).map V.ref))):=((Tup.of0 fy).trans (Tup.new a3)).trans (Tup.lst ac);have ea:bs.map V.ref++[V.ref tp]=(bs++[tp]).map V.ref:=by rw[wz9];rfl
   exists _,ac,zb8 (by rw[lqm];lia);rw[ea];exists _,bs++[tp],rfl,((fr.trans fy).trans (FrS.new a3)).put a5,zb1;have e9:(zs.take (i+1)).map (fun x=>((ansOf (kdOf ks tr) tr x d).getD "",d))=(zs.take i).map (fun x=>((ansOf (kdOf ks tr) tr x d).getD "",d))++[((ansOf (kdOf ks tr) tr z d).getD "",d)]:=by
    rw[vc5,ad,wz9];rfl
   rw[e9];refine(hA.imp fun b n h=>al _ _ h).app (.cons ?_ .nil);show upd _ _ _ tp=some (.tup [.str ((ansOf (kdOf ks tr) tr z d).getD ""),.str d]);rw[er,zb5 (vj3 a7),zb1];rfl
  .rintro σ Hx ⟨x0,bs,rfl,fr,a2,hA⟩;rw[lqm,vb2 (wz6 _)]at hA;exact q Dl bs Hx (f1.trans fr) (f1.old0 a5) a2 hA
 .have e1:(decide (V.str w=V.str "call"))=false:=vf4 fun z=>n (V.str.inj z);show if (!decide (V.str w=V.str "call"))=true then _ else _
  rw[e1];refine iteT ⟨vc9 _,fun l hl=>q l [] _ (FrS.new hl) hl zb1 ?_⟩;have eC:clL H (kdOf ks tr) tr ss a=[]:=by unfold clL;rw[e]
  rw[eC];exact .nil
end
section
variable{α:Type}[DecidableEq α]
def addU(l more:List α):List α:=more.foldl (fun acc k=>if k∈acc then acc else acc++[k]) l
def wd0(l:List α):addU l []=l:=rfl
def zn0(l:List α)(k:α)(more:List α):addU l (k::more)=addU (if k∈l then l else l++[k]) more:=rfl
def zg1:∀(more l:List α)(x:α),x∈addU l more↔x∈l\/x∈more
 | [],l,x=>by rw[wd0];simp
 | k::more,l,x=>by
  rw[zn0,zg1 more _ x]
  by_cases c:k∈l
  .rw[vd3 c,vb4]
   constructor
   .rintro(h | h)
    .exact .inl h
    .exact .inr (.inr h)
   .rintro(h | rfl | h)
    .exact .inl h
    .exact .inl c
    .exact .inr h
  .rw[vd0 c,vc4,vc7,vb4,or_assoc]
def yj5:∀(more l:List α),l.Nodup->(addU l more).Nodup
 | [],l,h=>h
 | k::more,l,h=>by
  rw[zn0];refine yj5 more _ ?_
  by_cases c:k∈l
  .rw[vd3 c];exact h
  .rw[vd0 c];exact yf7 h c
def zq6:∀(more l:List α),↑l<=↑(addU l more)/\(↑(addU l more)=↑l->addU l more=l)
 | [],l=>⟨wz6 _,fun _=>rfl⟩
 | k::more,l=>by
  rw[zn0]
  by_cases c:k∈l
  .rw[vd3 c];exact zq6 more l
  .rw[vd0 c];obtain⟨h1,h2⟩:=zq6 more (l++[k]);rw[wz4,vc1]at h1;exact⟨by lia,fun e=>by lia⟩
end
abbrev MN:Str×Str:=("","")
def wg8(ds:List Str):∀l:List Str,↑(l.flatMap fun r=>ds.map fun d=>(r,d))=↑l*↑ds
 | []=>by simp
 | r::l=>by rw[vw4,wz4,wg8 ds l,lqm,vc6,Nat.succ_mul,Nat.add_comm]
def Sat(H0:Hp)(kd:Kd)(tr:Tr)(ts:List Str)(come:List (Str×Str))(kinds:List Str)(q:Fz):Prop:=q.1∈come->(∀k∈mkL H0 ts q.2,k∈kinds)/\∀n∈clL H0 kd tr kinds q.2,n∈come
structure MdOk(H0:Hp)(kd:Kd)(tr:Tr)(L:List Fz)(ts:List Str)(come:List (Str×Str))(kinds:List Str):Prop where
 m0:MN∈come
 nk:kinds.Nodup
 nc:come.Nodup
 kt:∀k∈kinds,k∈ts/\∃q∈L,q.1∈come/\mkK H0 q.2=some k
 co:∀n∈come,n=MN\/∃q∈L,q.1∈come/\q.1≠n/\n∈clL H0 kd tr kinds q.2
 ls:∀(C:List (Str×Str))(Ks:List Str),MN∈C->(∀q∈L,Sat H0 kd tr ts C Ks q)->(∀n∈come,n∈C)/\∀k∈kinds,k∈Ks
def yb2(h:∀x∈ss,x∈ss'):∀n∈clL H0 kd tr ss a,n∈clL H0 kd tr ss' a:=by
 intro n hn;unfold clL at hn ⊢;cases e:clK H0 a with
 | none=>rw[e]at hn;exact hn
 | some kd'=>
  obtain⟨k,d⟩:=kd';rw[e]at hn;obtain⟨x,hx,rfl⟩:=vb9.mp hn;obtain⟨h1,h2⟩:=vq6.mp hx;exact vb9.mpr ⟨x,vq6.mpr ⟨h x h1,h2⟩,rfl⟩
def xp1:k∈mkL H0 ts a↔mkK H0 a=some k/\k∈ts:=by
 unfold mkL;cases e:mkK H0 a with
 | none=>exact⟨fun h=>(nomatch h),fun h=>(nomatch h.1)⟩
 | some k'=>
  show k∈(if k'∈ts then [k'] else [])↔_
  by_cases c:k'∈ts
  .rw[vd3 c,vc7];exact⟨fun h=>⟨by rw[h],by rw[h];exact c⟩,fun h=>(vf7 h.1).symm⟩
  .rw[vd0 c];exact⟨fun h=>(nomatch h),fun h=>absurd h.2 (by rw[<-vf7 h.1];exact c)⟩
section
def MdOk.start:MdOk H0 kd tr L ts [MN] []:=⟨.head _,vn6,vh6.mpr ⟨wz1,vn6⟩,fun _ h=>(nomatch h),fun n h=>.inl (vc7.mp h),fun C Ks h0 _=>⟨fun n h=>by rw[vc7.mp h];exact h0,fun _ h=>nomatch h⟩⟩
def MdOk.make(h:MdOk H0 kd tr L ts come kinds)(hq:q∈L)(hc:q.1∈come):MdOk H0 kd tr L ts come (addU kinds (mkL H0 ts q.2)):=by
 refine⟨h.m0,yj5 _ _ h.nk,h.nc,fun k hk=>?_,fun n hn=>?_,fun C Ks h0 hC=>⟨(h.ls C Ks h0 hC).1,fun k hk=>((zg1 _ _ _).mp hk).elim ((h.ls C Ks h0 hC).2 k) ((hC q hq ((h.ls C Ks h0 hC).1 _ hc)).1 k)⟩⟩
 .rcases(zg1 _ _ _).mp hk with hk | hk
  .exact h.kt k hk
  .obtain⟨e,ht⟩:=xp1.mp hk;exact⟨ht,q,hq,hc,e⟩
 .rcases h.co n hn with e | ⟨r,hr,h1,h2,h3⟩
  .exact .inl e
  .exact .inr ⟨r,hr,h1,h2,yb2 (fun x hx=>(zg1 _ _ _).mpr (.inl hx)) n h3⟩
def MdOk.call(h:MdOk H0 kd tr L ts come kinds)(hq:q∈L)(hc:q.1∈come):MdOk H0 kd tr L ts (addU come (addU [] (clL H0 kd tr kinds q.2))) kinds:=by
 have mm:∀n,n∈come->n∈addU come (addU [] (clL H0 kd tr kinds q.2)):=fun n hn=>(zg1 _ _ _).mpr (.inl hn);refine⟨mm _ h.m0,h.nk,yj5 _ _ h.nc,fun k hk=>?_,fun n hn=>?_,fun C Ks h0 hC=>?_⟩
 rotate_right
 .obtain⟨l1,l2⟩:=h.ls C Ks h0 hC;refine⟨fun n hn=>?_,l2⟩;rcases(zg1 _ _ _).mp hn with hn | hn
  .exact l1 n hn
  .rcases(zg1 _ _ _).mp hn with hn | hn
   .cases hn
   .exact(hC q hq (l1 _ hc)).2 n (yb2 l2 n hn)
 .obtain⟨h1,r,h2,h3,h4⟩:=h.kt k hk;exact⟨h1,r,h2,mm _ h3,h4⟩
 .by_cases c:n∈come
  .rcases h.co n c with e | ⟨r,hr,h1,h2,h3⟩
   .exact .inl e
   .exact .inr ⟨r,hr,mm _ h1,h2,h3⟩
  .rcases(zg1 _ _ _).mp hn with hn | hn
   .exact absurd hn c
   .rcases(zg1 _ _ _).mp hn with hn | hn
    .cases hn
    .exact .inr ⟨q,hq,mm _ hc,fun e=>c (by rw[<-e];exact hc),hn⟩
end
def MdOk.few(h:MdOk H0 (kdOf ks tr) tr L ts come kinds)(hL:Lnk Z ks tr)(ok:TrOk tr)(a2:↑tr<=12)(hR:∀q∈L,RowIs Z H0 q.2)(ht:↑ts<=12)(hU:∀x∈ts,∃l,Up tr x l):
  ↑come<=73/\↑kinds<=12:=by
 obtain⟨ds,h6,a3⟩:=hL.dl;refine⟨?_,vh1 (xf7 kinds ts h.nk fun x hx=>(h.kt x hx).1) ht⟩;have:=xf7 come (MN::(tr.map (·.1)).flatMap fun r=>ds.map fun d=>(r,d)) h.nc fun n hn=>by
  rcases h.co n hn with rfl | ⟨q,hq,_,_,hc⟩
  .exact .head _
  .refine vf6 _ ?_;obtain⟨w,rest,ha,a1,_⟩:=hR q hq;unfold clL at hc;rcases yb0 ha a1 with ⟨_,_,_,k,d,_,_,e,hz⟩ | ⟨_,e⟩
   .rw[e]at hc;obtain⟨x,hx,rfl⟩:=vb9.mp hc;obtain⟨h1,h2⟩:=vq6.mp hx;obtain⟨l,a0⟩:=hU x (h.kt x h1).1;rw[<-zt8 ok a0]at h2;obtain⟨r,er,hr⟩:=zw2 hL ok hz a0 (vb3 h2);rw[er];exact vx6.mpr ⟨r,hr,vb9.mpr ⟨d,a3 k d hz,rfl⟩⟩
   .rw[e]at hc;cases hc
 have e:↑((tr.map (·.1)).flatMap fun r=>ds.map fun d=>(r,d))=↑tr*↑ds:=by
  rw[wg8,lqm]
 rw[vc6,e]at this;have h2:↑tr*↑ds<=12*6:=Nat.mul_le_mul a2 h6;lia
def yx7(Pv:Nat->St->Hp->Prop)(h0:Pv 0 σ0 H0)(hl:∀i σ H,i<=↑xs->Pv i σ H->SqL K H a xs)(hs:∀i x σ H,xs[i]?=some x->Pv i σ H->g x σ H fun σ2 H2=>tt σ2 H2 fun b H3=>if b=true then tk σ2 H3 fun kx H4=>te σ2 H4 fun v H5=>∃kvs k,kx=kV k/\H5 D=some (.dK kvs)/\↑kvs<sizeLine/\Pv (i+1) σ2 (upd H5 D (.dK (putK kvs k v))) else Pv (i+1) σ2 H3)(hd:∀σ H,Pv ↑xs σ H->Q H):xc4 (Itl K a) g tt tk te D σ0 H0 Q:=by
 exists fun i m σ H=>m=↑xs-i/\i<=↑xs/\Pv i σ H,⟨↑xs,by simp,vc9 _,h0⟩;rintro i m σ H ⟨rfl,hi,p⟩;have q:=hl i σ H hi p
 by_cases a0:i<↑xs
 .refine .inr ⟨⟨xs,xs[i],q,by simp[a0]⟩,Pv (i+1),fun σ' H' p'=>⟨↑xs-(i+1),by lia,rfl,a0,p'⟩,fun x H' y=>?_⟩;obtain⟨e,y⟩:=y;subst e;exact hs i x σ _ (y xs q) p
 .have e:i=↑xs:=by lia
  subst e;exact .inl ⟨⟨xs,q,wz6 _⟩,hd σ H p⟩
def yw4(Pv:Nat->St->Hp->Prop)(h0:Pv 0 σ0 H0)(hl:∀i σ H,i<=↑xs->Pv i σ H->SqL K H a xs)(hs:∀i x σ H,xs[i]?=some x->Pv i σ H->g x σ H fun σ2 H2=>tt σ2 H2 fun b H3=>if b=true then tk σ2 H3 fun kx H4=>te σ2 H4 fun v H5=>∃kvs k b,kx=.ref b/\H5 b=some (.tup (k.map kV))/\H5 D=some (.dT kvs)/\↑kvs<sizeLine/\Pv (i+1) σ2 (upd H5 D (.dT (putK kvs k v))) else Pv (i+1) σ2 H3)(hd:∀σ H,Pv ↑xs σ H->Q H):xp3 (Itl K a) g tt tk te D σ0 H0 Q:=by
 exists fun i m σ H=>m=↑xs-i/\i<=↑xs/\Pv i σ H,⟨↑xs,by simp,vc9 _,h0⟩;rintro i m σ H ⟨rfl,hi,p⟩;have q:=hl i σ H hi p
 by_cases a0:i<↑xs
 .refine .inr ⟨⟨xs,xs[i],q,by simp[a0]⟩,Pv (i+1),fun σ' H' p'=>⟨↑xs-(i+1),by lia,rfl,a0,p'⟩,fun x H' y=>?_⟩;obtain⟨e,y⟩:=y;subst e;exact hs i x σ _ (y xs q) p
 .have e:i=↑xs:=by lia
  subst e;exact .inl ⟨⟨xs,q,wz6 _⟩,hd σ H p⟩
def kvT(l:List Str):List (Key×V):=l.map fun k=>(Sum.inr k,V.bl true)
def kvP(l:List (Str×Str)):List (List Key×V):=l.map fun n=>(kyP n,V.bl true)
def wk9{κ α:Type}[DecidableEq κ][DecidableEq α](f:α->κ)(hf:∀a b,f a=f b->a=b)(l:List α)(k:α):putK (l.map fun a=>(f a,V.bl true)) (f k) (V.bl true)=(if k∈l then l else l++[k]).map fun a=>(f a,V.bl true):=by
 have hv:((l.map fun a=>(f a,V.bl true)).any fun kv=>decide (kv.1=f k))=decide (k∈l):=by
  rw[vm6,vt4,vv0]
  constructor
  .rintro⟨kv,a0,e⟩;obtain⟨a,ha,rfl⟩:=vb9.mp a0;rw[<-hf _ _ (vb3 e)];exact ha
  .intro h;exact⟨(f k,V.bl true),vb9.mpr ⟨k,h,rfl⟩,vd1 rfl⟩
 unfold putK;rw[hv]
 by_cases c:k∈l
 .rw[vd3 (vd1 c),vd3 c,vj9];refine vn5 fun a _=>?_;show(if f a=f k then(f a,V.bl true) else(f a,V.bl true))=_
  split <;> rfl
 .rw[vd0 (by rw[vf4 c];exact vb6),vd0 c,wz9];rfl
def xn7(l:List Str)(k:Str):putK (kvT l) (Sum.inr k) (.bl true)=kvT (if k∈l then l else l++[k]):=wk9 (fun k=>(Sum.inr k:Key)) (fun _ _ h=>vv2 h) l k
def ww5(l:List (Str×Str))(k:Str×Str):putK (kvP l) (kyP k) (.bl true)=kvP (if k∈l then l else l++[k]):=by
 refine(wk9 kyP (fun _ _ h=>xm7 h) l k).trans ?_;unfold kvP
 by_cases c:k∈l
 .simp only[vd3 c]
 .simp only[vd0 c]
def yq4:∀(more l:List Str),zf4 (kvT l) (kvT more)=kvT (addU l more)
 | [],l=>rfl
 | k::more,l=>by
  show zf4 (putK (kvT l) (Sum.inr k) (.bl true)) (kvT more)=_;rw[xn7,yq4 more,zn0]
def yc4(l:List Str):↑(kvT l)=↑l:=List.length_map _
def wx5(l:List (Str×Str)):↑(kvP l)=↑l:=List.length_map _
def zt6{α:Type}[DecidableEq α](l more:List α)(k:α):addU l (more++[k])=if k∈addU l more then addU l more else addU l more++[k]:=by
 unfold addU;rw[List.foldl_append];rfl
def zw1{α:Type}[DecidableEq α]:∀(more l:List α),↑(addU l more)<=↑l+↑more
 | [],l=>wz6 _
 | k::more,l=>by
  rw[zn0,vc6];have:=zw1 more (if k∈l then l else l++[k])
  by_cases c:k∈l
  .rw[vd3 c]at this ⊢;lia
  .rw[vd0 c]at this ⊢;rw[wz4,vc1]at this;lia
def xg1(qs:List (Pr×Addr))(q:Pr×Addr):(zv9 qs q).map (·.1)=if q.1∈qs.map (·.1) then qs.map (·.1) else qs.map (·.1)++[q.1]:=by
 unfold zv9
 split
 .rfl
 .rw[wz9];rfl
def zx1:∀(more:List (Pr×Addr))(qs:List (Pr×Addr)),(zk9 qs more).map (·.1)=addU (qs.map (·.1)) (more.map (·.1))
 | [],qs=>rfl
 | q::more,qs=>by
  show(zk9 (zv9 qs q) more).map (·.1)=_;rw[zx1 more,xg1,vf5,zn0]
  by_cases c:q.1∈qs.map (·.1)
  .simp only[vd3 c]
  .simp only[vd0 c]
def yg2:∀(more:List (Pr×Addr))(qs:List (Pr×Addr)),∀x∈zk9 qs more,x∈qs\/x∈more
 | [],qs,x,h=>.inl h
 | q::more,qs,x,h=>by
  rcases yg2 more (zv9 qs q) x h with h | h
  .unfold zv9 at h
   split at h
   .exact .inl h
   .rcases vc4.mp h with h | h
    .exact .inl h
    .exact .inr (by rw[vc7.mp h];exact .head _)
  .exact .inr (.tail _ h)
def Tup.ext(hp:H p=some (.ext φ)):Tup H (upd H p o):=fun b xs h=>by
 rw[zb5 (fun z=>by rw[z,hp]at h;cases h)];exact h
def xs1{α β:Type}:∀{l:List α}{m:List β},↑m=↑l->(l.zip m).map (·.1)=l
 | [],_,_=>by simp
 | a::l,[],h=>by simp at h
 | a::l,b::m,h=>by
  rw[vz9,vf5,xs1 (by simpa using h)]
def _root_.L2.A2.zip(h:A2 R as bs):∀q∈bs.zip as,R q.2 q.1:=by
 induction h with
 | nil=>intro q hq;cases hq
 | cons r _ ih=>
  intro q hq;rw[vz9]at hq;rcases vb4.mp hq with rfl | hq
  .exact r
  .exact ih q hq
abbrev wr0:Stmt:=top 16
section
def MdOk.perm(h:MdOk H0 kd tr L ts come kinds)(hc:come'.Perm come)(hk:kinds'.Perm kinds):MdOk H0 kd tr L ts come' kinds':=by
 refine⟨hc.mem_iff.mpr h.m0,hk.nodup_iff.mpr h.nk,hc.nodup_iff.mpr h.nc,fun k a0=>?_,fun n hn=>?_,fun C Ks h0 hC=>⟨fun n hn=>(h.ls C Ks h0 hC).1 n (hc.mem_iff.mp hn),fun k a0=>(h.ls C Ks h0 hC).2 k (hk.mem_iff.mp a0)⟩⟩
 .obtain⟨h1,q,h2,h3,h4⟩:=h.kt k (hk.mem_iff.mp a0);exact⟨h1,q,h2,hc.mem_iff.mpr h3,h4⟩
 .rcases h.co n (hc.mem_iff.mp hn)with e | ⟨q,h1,h2,h3,h4⟩
  .exact .inl e
  .exact .inr ⟨q,h1,hc.mem_iff.mpr h2,h3,yb2 (fun x hx=>hk.mem_iff.mpr hx) n h4⟩
def Sat.perm(h:Sat H0 kd tr ts come kinds q)(hc:come'.Perm come)(hk:kinds'.Perm kinds):Sat H0 kd tr ts come' kinds' q:=fun hq=>by
 obtain⟨h1,h2⟩:=h (hc.mem_iff.mp hq);exact⟨fun k a0=>hk.mem_iff.mpr (h1 k a0),fun n hn=>hc.mem_iff.mpr (h2 n (yb2 (fun x hx=>hk.mem_iff.mp hx) n hn))⟩
end
def yn6(h:RowIs Z H a)(f:Tup H H'):mkL H' ts a=mkL H ts a/\clL H' kd tr ss a=clL H kd tr ss a:=by
 obtain⟨e1,e2⟩:=wb3 h f;unfold mkL clL;rw[e1,e2];exact⟨rfl,rfl⟩
def yp1:mkL H ts a=[]\/∃k,mkL H ts a=[k]:=by
 unfold mkL
 split
 .split
  .exact .inr ⟨_,rfl⟩
  .exact .inl rfl
 .exact .inl rfl
def wq2:↑(mkL H ts a)<=1:=by
 rcases yp1 (H:=H) (ts:=ts) (a:=a)with e | ⟨k,e⟩ <;> rw[e] <;> simp
def wc8:addU [] (mkL H ts a)=mkL H ts a:=by
 rcases yp1 (H:=H) (ts:=ts) (a:=a)with e | ⟨k,e⟩ <;> rw[e] <;> rfl
def ww0:↑(clL H kd tr ss a)<=↑ss:=by
 unfold clL
 split
 .rw[lqm];exact vm4 _ _
 .exact vc9 _
inductive MdIs(K:Fg)(H H':Hp)(r:Addr)(kd:Kd)(tr:Tr)(L:List Fz)(ss:List Str)(qs:List (Pr×Addr))(kinds:List Str):Prop
 | mk(ca ka:Addr)(h1:H' r=some (.tup [.ref ca,.ref ka]))(h2:H' ca=some (.tup (qs.map fun q=>V.ref q.2)))(h3:∀q∈qs,BT K H' q.2 q.1)(h4:H' ka=some (.tup (kinds.map V.str)))(h5:MdOk H kd tr L ss (qs.map (·.1)) kinds)(h6:∀q∈L,Sat H kd tr ss (qs.map (·.1)) kinds q)(h7:PyProof.Rows.sortedS kinds=true)(h8:qs.Pairwise (fun a b=>pLt b.1 a.1=false)):MdIs K H H' r kd tr L ss qs kinds
inductive wm8(K:Fg)(vs:List V)(H:Hp)(Q:VK):Prop
 | mk(p a:Addr)(ks:List (Str×List Dz))(m0:Dz)(tr:Tr)(ss:List Str)(Z:Str->Str->Prop)(h1:vs=[.ref p,.ref a])(h2:ProgIs Z H p ks m0)(h3:KindsAt H p tr)(h4:TrOk tr)(h5:↑tr<=12)(h6:Lnk Z ks tr)(h7:H a=some (.tup (ss.map V.str)))(h8:∀x∈ss,∃l,Up tr x l)(h9:↑ss<=12)
  (h10:∀(r:Addr)(qs:List (Pr×Addr))(kinds:List Str)(H':Hp),FrS [] H H'->MdIs K H H' r (kdOf ks tr) tr (zj3 (zh3 ks m0)) ss qs kinds->Q (.ref r) H'):wm8 K vs H Q
def yh6(K:Fg):Sp:=fun vs H Q _=>wm8 K vs H Q
inductive MdI(P:Program)(w:World)(K:Fg)(H H1:Hp)(p a cm kn rw:Addr)(kd:Kd)(tr:Tr)(L:List Fz)(ss:List Str)(m i:Nat)(σ:St)(Hx:Hp):Prop
 | mk(x6 x7 x8:Option V)(qs:List (Pr×Addr))(kinds:List Str)(hσ:σ=[some (.ref p),some (.ref a),some (.ref cm),some (.ref kn),some (.ref rw),some (.int (m:Int)),x6,x7,x8])(fr:FrS [] H Hx)(tp:Tup H1 Hx)(hc:Hx cm=some (pdO P w cm qs))(hq:∀q∈qs,BT K Hx q.2 q.1)(hk:Hx kn=some (.dK (kvT kinds)))
  (md:MdOk H kd tr L ss (qs.map (·.1)) kinds) (l1:m<=↑qs+↑kinds) (l2:↑qs+↑kinds=m->∀z∈L.take i,Sat H kd tr ss (qs.map (·.1)) kinds z):MdI P w K H H1 p a cm kn rw kd tr L ss m i σ Hx
inductive KuI(H1:Hp)(Dl:Addr)(zs:List Str)(i:Nat)(σ:St)(Hx:Hp):Prop
 | mk(x:Option V)(hσ:σ=[x])(fr:FrS [] H1 Hx)(hD:Hx Dl=some (.dK (kvT (addU [] (zs.take i))))):KuI H1 Dl zs i σ Hx
inductive CuI(H1:Hp)(Dl:Addr)(zs:List (Str×Str))(i:Nat)(σ:St)(Hx:Hp):Prop
 | mk(x:Option V)(hσ:σ=[x])(fr:FrS [] H1 Hx)(hD:Hx Dl=some (.dT (kvP (addU [] (zs.take i))))):CuI H1 Dl zs i σ Hx
def muMade(σ:St)(_:Hp):Nat:=match (σ[5]?:Option (Option V))with | some (some (V.int m))=>(1000-m).toNat | _=>0
def BT.pd(h:∀q∈qs,BT K H q.2 q.1):PdOk K H qs:=fun q hq=>(h q hq).sq
section
abbrev wp8:List Str:=["program","there"]
def zt0:zd0 ["program","there","come","kinds","rows","many","number","body","row"] wp8 (zc1 wr0):=fsc
def wz0(F:Fun K "made_paper" "made_paper" wr0 f fd)(NU:Cal P w K mg base k "numbered" qK (xx1 K))(KB:Cal P w K mg base k "kinds_by" ["there","row"] yd3)(BB:Cal P w K mg base k "bodies_by" zr9 zv3)(mM:mg "MAIN"=some (.ref am))(hM:∀H,SqT K H am [.str "",.str ""])(b7:mg "tuple"=none)(b9:mg "sorted"=none)(aj:mg "len"=none)(c6:mg "list"=none):FnOk P w K mg base CX0 (k+1) f fd wp8 (yh6 K):=by
 refine F.ok zt0 (fun vs H Q E h=>?_) (fun cp A outer s H vs Q E hr h=>?_)
 .obtain⟨p,a,ks,m0,tr,ss,Z,rfl,_⟩:=h;rfl
 obtain⟨p,a,ks,m0,tr,ss,Z,rfl,hP,hK,hT,ar,hL,ha,hU,bq,q⟩:=h;have hu:=zn5 hr;have bf:=vs4 hu;have cd:(["kind"]:List Str).Nodup:=by rfl'
 have aq:(["one"]:List Str).Nodup:=by rfl'
 exists _,zb3 (sL 2 zt0.nd (pe_pd1 bf (yw7 (v:=.ref am) rfl mM rfl) xg8))
  (zb3 (sL 3 zt0.nd zq5)
  (zb3 (sL 4 zt0.nd (zb9 NU hr rfl (zb0 (pv 0) zb2)))
  (zb3 (sL 5 zt0.nd zb6)
  (zb3 (zs4 vd5 (zc2 xh2 (pv 5) (zf2 zm3 (zc5 yr5 rfl aj vg7 (zb0 (pv 2) zb2)) (zc5 yt0 rfl aj vg7 (zb0 (pv 3) zb2))) (zd6 _))
   (zb3 (sL 5 zt0.nd (zf2 zm3 (zc5 yr5 rfl aj vg7 (zb0 (pv 2) zb2)) (zc5 yt0 rfl aj vg7 (zb0 (pv 3) zb2))))
   (zb7 (zf9 vd5 rfl (zj4 (pv 4)) (zh4 (n:=3) rfl (zc0 (gL 6 zt0.nd) (zc0 (gL 7 zt0.nd) (zc0 (gL 8 zt0.nd) zf8))))
    (zb7 (zg8 (zq9 (pc_pin hu (pv 7) (pv 2)))
     (zb3 (zf5 (zk8 vk2 PySem.F.slot_dict_update PySem.F.type_dict_update wv9 (pv 3) (zb0 (wc0 (N':=["kind"]) (src:=[none]) rfl bkn (zf6 (zb9 KB hr rfl (zb0 (pv 1) (zb0 (pv 8) zb2))))
       (g:=zf0 0) (fun _ _ _ _=>gL 0 cd) (fun _ _ _ _=>zg2) (fun _ _ _ _=>pv 0) (te:=tC (.bl true)) (fun _ _ _ _=>xg8)) zb2)))
     (zb7 (zf5 (wq0 hu (pv 2) (xz5 (N':=["one"]) (src:=[none]) rfl bf bkn (zf6 (zb9 BB hr rfl (zb0 (pv 0) (zb0 (zc7 (zr1 rfl) rfl c6 (by rfl') (zb0 (pv 3) zb2)) (zb0 (pv 8) zb2)))))
       (g:=zf0 0) (fun _ _ _ _=>gL 0 aq) (fun _ _ _ _=>zg2) (fun _ _ _ _=>pv 0) (te:=tC (.bl true)) (fun _ _ _ _=>xg8)) ⟨rfl,rfl,rfl,rfl⟩)))) zd4))))))
  (zb7 (zd1 (zf1 (zb0 (zc7 zc8 rfl b7 (by rfl') (zb0 (zc5 (yr2 rfl) rfl b9 (by rfl') (zb0 (pv 2) zb2)) zb2)) (zb0 (zc7 zc8 rfl b7 (by rfl') (zb0 (zc5 (ys8 rfl) rfl b9 (by rfl') (zb0 (pv 3) zb2)) zb2)) zb2)))))))))
 ac_rfl
 have hI:=zz6 hP.rows;have s2:2<=sizeLine:=vb5 (zb8 (by decide));refine fun cm bk=>⟨am,MN,rfl,zb1,hM _,?_⟩;rw[zr2];refine fun kn ap=>?_;have bn:FrS [] H (upd (upd H cm (pdO P w cm [(MN,am)])) kn (.dK [])):=(FrS.new bk).trans (FrS.new ap);have av:upd H cm (pdO P w cm [(MN,am)]) cm=some (pdO P w cm [(MN,am)]):=zb1;have ad:cm≠kn:=zb4 av ap;have au:H kn=none:=by rw[zb5 (vj3 ad)]at ap;exact ap
 refine⟨_,rfl,p,ks,m0,rfl,hP.keep (Tup.of0 bn),fun af ns H1 f1 b8 hA=>?_⟩;have c0:=bn.trans f1;have cg:H1 cm=some (pdO P w cm [(MN,am)]):=f1 _ _ wz1 (by rw[zb5 ad];exact zb1);have ch:H1 kn=some (.dK (kvT [])):=f1 _ _ wz1 zb1;have bm:=hA.len;rw[vv1]at bm;have bx:∀{Hx:Hp},FrS [] H Hx->DeedsAt Hx p (kdOf ks tr):=fun fx=>(hP.deeds hK hL.nm).keep fx;generalize hLL:zj3 (zh3 ks m0)=L at *;generalize hKD:kdOf ks tr=kd at *;refine zt9 (fun σ Hx=>∃m,MdI P w K H H1 p a cm kn af kd tr L ss m L.length σ Hx) muMade ⟨0,_,_,_,[(MN,am)],[],rfl,c0,(fun _ _ h=>h),cg,(fun q hq=>by rw[vc7.mp hq];exact .inr hM),ch,MdOk.start,vc9 _,fun e=>nomatch e⟩ ?_ ?_
 .rintro σ Hx ⟨m,x6,x7,x8,qs,kinds,rfl,fr,tp,hc,hq,hk,md,l1,l2⟩;subst hKD;obtain⟨a8,b4⟩:=md.few hL hT ar hI bq hU;rw[lqm]at a8;exists _,rfl,_,rfl,cm,qs,rfl,hc,_,rfl,kn,_,rfl,hk,_,_,rfl,rfl,_,_,rfl,rfl,_,rfl;rw[yc4,<-Int.natCast_add];refine ite2 (fun c=>?_) (fun c=>?_)
  .have c:((m:Nat):Int)<((↑qs+↑kinds:Nat):Int):=vb3 c;exists _,rfl,cm,qs,rfl,hc,_,rfl,kn,_,rfl,hk,_,_,rfl,rfl;exists _,rfl,af,rfl,⟨_,SqT.of (tp _ _ b8)⟩;refine zk1 (xs:=ns.map V.ref) (MdI P w K H H1 p a cm kn af (kdOf ks tr) tr L ss (↑qs+↑kinds)) ⟨x6,x7,x8,qs,kinds,(by show [some (V.ref p),some (V.ref a),some (V.ref cm),some (V.ref kn),some (V.ref af),some (V.int ((↑qs:Int)+(↑(kvT kinds):Int))),x6,x7,x8]=_;rw[yc4,Int.natCast_add]),fr,tp,hc,hq,hk,md,wz6 _,fun _ z hz=>nomatch hz⟩ ?_ ?_ ?_
   .rintro i σ Hy hi ⟨_,_,_,_,_,_,_,tp,_⟩;exact SqT.of (tp _ _ b8)
   .clear l1 l2 a8 b4 hc hk hq md tp fr c;generalize ↑qs+↑kinds=m1;rintro i x σ Hx hx ⟨x6,x7,x8,qs,kinds,rfl,fr,tp,hc,hq,hk,md,l1,l2⟩;rw[wz5,wz8]at hx;obtain⟨u,c7,rfl⟩:=hx;obtain⟨z,hz,bd,u1,u2⟩:=hA.get c7;rw[List.getElem?_zipIdx]at hz;obtain⟨z,az,rfl⟩:=wz8.mp hz;have b3:z∈L:=vb0 az;have a9:=hI z b3;obtain⟨a8,b4⟩:=md.few hL hT ar hI bq hU;rw[lqm]at a8;exists u,_,rfl,SqT.of (tp _ _ u1),rfl,_,_,rfl,_,_,rfl,_,_,rfl,rfl;exists _,rfl,_,rfl,cm,bd,qs,z.1,rfl,rfl,hc,BT.pd hq,(u2.keep tp).sq,_,rfl;refine ite2 (fun c=>?_) (fun c=>?_)
    rotate_left
    .refine⟨_,_,_,qs,kinds,rfl,fr,tp,hc,hq,hk,md,l1,fun e y hy=>?_⟩;rw[vc5,az]at hy;rcases vc4.mp hy with hy | hy
     .exact l2 e y hy
     .have ey:y=z:=by simpa using hy
      rw[ey];exact fun h=>absurd (vd1 h) c
    have a5:z.1∈qs.map (·.1):=vb3 c;have tx:=Tup.of0 fr;exists _,rfl,.inr (.inr (.inl ⟨rfl,.inl ⟨_,hk⟩⟩));refine⟨_,rfl,_,rfl,a,z.2,ss,Z,rfl,fr _ _ wz1 ha,a9.keep tx,fun l Hy fy cq hl=>⟨l,rfl,⟨_,SqL.of hl⟩,fun D1 b1=>?_⟩⟩;rw[(yn6 (kd:=[]) (tr:=[]) (ss:=[]) a9 tx).1]at hl;have cb:↑(mkL H ss z.2)<=1:=wq2;have bo:addU [] (mkL H ss z.2)=mkL H ss z.2:=wc8;have ag:=md.make b3 a5;generalize hmk:mkL H ss z.2=zs at hl cb bo ag;refine yx7 (xs:=zs.map V.str) (KuI Hy D1 zs) ⟨_,rfl,(FrS.refl).put b1,zb1⟩ ?_ ?_ ?_
    .rintro j σ Hz hj ⟨_,_,fz,_⟩;exact SqL.of (fz _ _ wz1 hl)
    .rintro j x σ Hz hx ⟨x0,rfl,fz,a7⟩;rw[wz5,wz8]at hx;obtain⟨y,hy,rfl⟩:=hx;exists _,rfl,_,Sum.inr y,rfl,a7,zb8 ?_,_,rfl,fz.put b1
     .have h1:=zw1 (zs.take j) [];rw[vc2,vk8]at h1;rw[yc4];lia
     .rw[zb1,xn7,vc5,hy];show _=some (HO.dK (kvT (addU [] (zs.take j++[y]))));rw[zt6]
    rintro σ Hz ⟨x0,rfl,fz,a7⟩;rw[lqm,vb2 (wz6 _),bo]at a7;have al:FrS [] Hx Hz:=fy.trans fz;have b5:=al _ _ wz1 hk;exists kn,D1,_,_,rfl,rfl,zb4 (fy _ _ wz1 hk) b1,b5,a7,vb5 (zb8 (by rw[yc4,yc4];lia));rw[yq4];have aa:↑(addU kinds zs)<=13:=by have:=zw1 zs kinds;lia
    have kin:∀k∈zs,k∈addU kinds zs:=fun k h=>(zg1 _ _ _).mpr (.inr h);have bc:=zq6 zs kinds;generalize addU kinds zs=a0 at ag aa kin bc;have as:FrS [] H (upd Hz kn (.dK (kvT a0))):=(fr.trans al).put au;have bj:Tup Hx (upd Hz kn (.dK (kvT a0))):=(Tup.of0 al).trans (Tup.dk b5);have b0:upd Hz kn (.dK (kvT a0)) kn=some (.dK (kvT a0)):=zb1;have ay:upd Hz kn (.dK (kvT a0)) cm=some (pdO P w cm qs):=by rw[zb5 ad];exact al _ _ wz1 hc
    generalize upd Hz kn (.dK (kvT a0))=H3 at as bj b0 ay;exists _,rfl,cm,qs,rfl,ay;have ci:∀x∈a0,∃l,Up tr x l:=fun x hx=>hU x (ag.kt x hx).1;refine⟨_,rfl,_,rfl,kn,_,rfl,Rd.of b0,fun l4 c5=>?_⟩;have f4:FrS [] H3 (upd H3 l4 (.lst ((kvT a0).map fun kv=>kV kv.1))):=FrS.new c5;have ac:upd H3 l4 (.lst ((kvT a0).map fun kv=>kV kv.1)) l4=some (.lst (a0.map V.str)):=by
     rw[zb1];unfold kvT;rw[vj9];rfl
    generalize upd H3 l4 (.lst ((kvT a0).map fun kv=>kV kv.1))=H4 at f4 ac;have ba:=as.trans f4;have t4:=Tup.of0 ba;refine⟨_,rfl,p,l4,z.2,ks,tr,a0,Z,rfl,bx ba,hL,hT,ar,ac,ci,by lia,a9.keep t4,fun l5 bs H5 f5 cn bt ao=>⟨l5,rfl,⟨_,SqL.of bt⟩,fun D2 be=>?_⟩⟩;rw[(yn6 (ts:=ss) (kd:=kdOf ks tr) (tr:=tr) (ss:=a0) a9 t4).2]at ao;have ak:=ag.call b3 a5;have ab:=ao.len;have b2:↑(clL H (kdOf ks tr) tr a0 z.2)<=13:=vh1 ww0 aa;generalize hcn:clL H (kdOf ks tr) tr a0 z.2=a4 at ao ab b2 ak;refine yw4 (xs:=bs.map V.ref) (CuI H5 D2 a4) ⟨_,rfl,(FrS.refl).put be,zb1⟩ ?_ ?_ ?_
    .rintro j σ Hz hj ⟨_,_,fz,_⟩;exact SqL.of (fz _ _ wz1 bt)
    .rintro j x σ Hz hx ⟨x0,rfl,fz,a7⟩;rw[wz5,wz8]at hx;obtain⟨b,hb,rfl⟩:=hx;obtain⟨n,hn,c4⟩:=ao.get hb;exists _,rfl,_,kyP n,b,rfl,fz _ _ wz1 c4,a7,zb8 ?_,_,rfl,fz.put be
     .have h1:=zw1 (a4.take j) [];rw[vc2,vk8]at h1;rw[wx5];lia
     .rw[zb1,ww5,vc5,hn];show _=some (HO.dT (kvP (addU [] (a4.take j++[n]))));rw[zt6]
      by_cases c:n∈addU [] (a4.take j)
      .simp only[vd3 c]
      .simp only[vd0 c]
    rintro σ H6 ⟨x0,rfl,f6,a7⟩;rw[lqm,ab,vb2 (wz6 _)]at a7;have ae:FrS [] H3 H6:=f4.trans (f5.trans f6);have bw:=ae _ _ wz1 ay;have bp:Tup Hx H6:=bj.trans (Tup.of0 ae);have bv:∀q∈qs,BT K H6 q.2 q.1:=fun q h=>(hq q h).keep bp;have cf:↑(addU [] a4)<=13:=by have:=zw1 a4 [];rw[vk8]at this;lia
    have ax:∀n∈a4,n∈addU (qs.map (·.1)) (addU [] a4):=fun n h=>(zg1 _ _ _).mpr (.inr ((zg1 _ _ _).mpr (.inr h)));refine⟨cm,D2,qs,addU [] a4,rfl,rfl,bw,(fun e=>by rw[e]at a5;cases a5),BT.pd bv,a7,vb5 (zb8 (by lia)),fun ah bh=>?_⟩;have eK:(zk9 qs ((addU [] a4).zip ah)).map (·.1)=addU (qs.map (·.1)) (addU [] a4):=by rw[zx1,xs1 bh.len]
    have ai:Tup H6 (upd H6 cm (pdO P w cm (zk9 qs ((addU [] a4).zip ah)))):=Tup.ext bw;have an:=zq6 (addU [] a4) (qs.map (·.1));rw[<-eK]at an ak ax;have bu:=yg2 ((addU [] a4).zip ah) qs;have ce:=bh.zip;generalize zk9 qs ((addU [] a4).zip ah)=ck at eK ai an ak ax bu;rw[lqm,lqm]at an;refine⟨_,_,_,ck,a0,rfl,(as.trans ae).put bk,tp.trans (bp.trans ai),zb1,fun q h=>?_,?_,ak,by lia,fun e y hy=>?_⟩
    .rcases bu q h with h | h
     .exact(bv q h).keep ai
     .exact .inl (ai _ _ (ce q h))
    .rw[zb5 (vj3 ad)];exact ae _ _ wz1 b0
    .rw[vc5,az]at hy;rcases vc4.mp hy with hy | hy
     .have e1:=an.2 (by lia);have e2:=bc.2 (by lia);rw[e1,e2];exact l2 (by lia) y hy
     .have ey:y=z:=by simpa using hy
      rw[ey];exact fun _=>⟨by rw[hmk];exact kin,by rw[hcn];exact ax⟩
   .rintro σ Hy ⟨y6,y7,y8,a6,a3,rfl,c2,cl,c9,aw,c1,c3,cj,bi⟩;rw[lqm,bm]at bi;exists ⟨_,y6,y7,y8,a6,a3,rfl,c2,cl,c9,aw,c1,c3,cj,bi⟩;show(1000-((↑qs+↑kinds:Nat):Int)).toNat<(1000-((m:Nat):Int)).toNat;lia
  .have c:¬((m:Nat):Int)<((↑qs+↑kinds:Nat):Int):=fun h=>c (vd1 h);have e:↑qs+↑kinds=m:=by lia
   have br:=l2 e;rw[vb2 (wz6 _)]at br;refine⟨_,rfl,cm,qs,rfl,hc,BT.pd hq,by lia,fun la a6 c8 pq sq=>⟨la,_,rfl,.inl ⟨SqL.of zb1,fun ca bz=>?_⟩⟩⟩;have fA:FrS [] Hx (upd (upd Hx la (.lst (a6.map fun q=>V.ref q.2))) ca (.tup (a6.map fun q=>V.ref q.2))):=(FrS.new c8).trans (FrS.new bz);have b6:upd (upd Hx la (.lst (a6.map fun q=>V.ref q.2))) ca (.tup (a6.map fun q=>V.ref q.2)) ca=some (.tup (a6.map fun q=>V.ref q.2)):=zb1;generalize upd (upd Hx la (.lst (a6.map fun q=>V.ref q.2))) ca (.tup (a6.map fun q=>V.ref q.2))=HA at fA b6;refine⟨_,rfl,kn,kinds,_,rfl,fA _ _ wz1 hk,by unfold kvT;rw[vj9];rfl,by lia,fun lb a3 cc pk sk=>⟨lb,_,rfl,.inl ⟨SqL.of zb1,fun ka co=>⟨s2,fun r bg=>?_⟩⟩⟩⟩;have fB:FrS [] HA (upd (upd HA lb (.lst (a3.map V.str))) ka (.tup (a3.map V.str))):=(FrS.new cc).trans (FrS.new co);have bb:upd (upd HA lb (.lst (a3.map V.str))) ka (.tup (a3.map V.str)) ka=some (.tup (a3.map V.str)):=zb1;generalize upd (upd HA lb (.lst (a3.map V.str))) ka (.tup (a3.map V.str))=HB at fB bb bg;have fC:FrS [] HB (upd HB r (.tup [V.ref ca,V.ref ka])):=FrS.new bg;have fx:=fA.trans (fB.trans fC);refine q r a6 a3 _ (fr.trans fx) ⟨ca,ka,zb1,(fB.trans fC) _ _ wz1 b6,fun q aw=>(hq q (pq.mem_iff.mp aw)).keep (Tup.of0 fx),fC _ _ wz1 bb,md.perm (pq.map _) pk,fun y hy=>(br y hy).perm (pq.map _) pk,sk,sq⟩
 .intro σ Hx R R' hR hc;obtain⟨v1,h1,v2,h2,a1,q1,e1,e2,v3,h3,a2,k2,e3,e4,i1,j1,e5,e6,i2,j2,e7,e8,b,e9,hq⟩:=hc;exact⟨v1,h1,v2,h2,a1,q1,e1,e2,v3,h3,a2,k2,e3,e4,i1,j1,e5,e6,i2,j2,e7,e8,b,e9,hR _ _ hq⟩
end
abbrev xk3:Stmt:=top 40
def xn4:∀(kvs:List (Key×V))(j:Nat)(k:Key)(v:V),(kvs.map (·.1)).Nodup->kvs[j]?=some (k,v)->valV kvs k=some v
 | [],j,k,v,_,h=>by simp at h
 | kv::kvs,0,k,v,_,h=>by
  have e:kv=(k,v):=by simpa using h
  unfold valV;rw[List.find?_cons_of_pos (by rw[e];exact vd1 rfl),e];rfl
 | kv::kvs,j+1,k,v,nd,h=>by
  have h':kvs[j]?=some (k,v):=by simpa using h
  rw[vf5,vh6]at nd;have a0:kv.1≠k:=fun e=>nd.1 (by rw[e];exact vb9.mpr ⟨(k,v),vb0 h',rfl⟩)
  have:=xn4 kvs j k v nd.2 h';unfold valV at this ⊢;rw[List.find?_cons_of_neg (by simpa using a0)];exact this
def HasD.of{kd:Kd}(nd:(kd.map (·.1)).Nodup){j:Nat}{z:Str×Option Str×List Str}(hz:kd[j]?=some z)(d:Str):decide (d∈z.2.2)=decide (HasD kd z.1 d):=by
 rw[vm6,vv0,vv0]
 constructor
 .exact fun h=>⟨z,vb0 hz,rfl,h⟩
 .rintro⟨y,hy,e,h⟩;obtain⟨i,hi⟩:=vf9.mp hy;have h1:(kd.map (·.1))[i]?=some z.1:=by rw[wz5,hi,<-e];rfl
  have h2:(kd.map (·.1))[j]?=some z.1:=by rw[wz5,hz];rfl
  have hl:i<↑(kd.map (·.1)):=(wz2.mp h1).1;have a0:i=j:=(List.getElem?_inj hl nd).mp (h1.trans h2.symm);subst a0;rw[hi]at hz;cases hz;exact h
inductive PnIs(D:Addr)(H:Hp)(u:Addr)(z:Str×Option Str×List Str):Prop
 | mk(l:Addr)(h1:H u=some (.tup [.str z.1,.ref l]))(h2:H l=some (.lst (z.2.2.map V.str)))(h3:l≠D):PnIs D H u z
def KzIs(H:Hp)(kv:Key×V)(z:Str×Option Str×List Str):Prop:=kv.1=Sum.inr z.1/\∃l,kv.2=.ref l/\H l=some (.lst (z.2.2.map V.str))
def pn_kvs(h:A2 (PnIs D H) us kd):∃kvs:List (Key×V),A2 (fun u kv=>H u=some (.tup [kV kv.1,kv.2])) us kvs/\A2 (KzIs H) kvs kd:=by
 induction h with
 | nil=>exact⟨[],.nil,.nil⟩
 | @cons u z us kd g _ ih=>
  obtain⟨l,h1,h2,_⟩:=g;obtain⟨kvs,a,b⟩:=ih;exact⟨(Sum.inr z.1,.ref l)::kvs,.cons h1 a,.cons ⟨rfl,l,rfl,h2⟩ b⟩
def ws6(h:A2 (KzIs H) kvs kd):kvs.map (·.1)=(kd.map (·.1)).map Sum.inr:=by
 induction h with
 | nil=>rfl
 | cons g _ ih=>rw[vf5,vf5,vf5,ih,g.1]
def kz_at(h:A2 (KzIs H) kvs kd):∀{j:Nat}{z:Str×Option Str×List Str},kd[j]?=some z->∃kv,kvs[j]?=some kv/\KzIs H kv z:=by
 induction h with
 | nil=>intro j z hz;simp at hz
 | cons g _ ih=>
  intro j z hz;cases j with
  | zero=>cases hz;exact⟨_,rfl,g⟩
  | succ j=>exact ih hz
inductive xq3(vs:List V)(H:Hp)(Q:VK):Prop
 | mk(p:Addr)(n d r:Str)(kd:Kd)(l:List Str)(h1:vs=[.ref p,.str n,.str d])(h2:DeedsAt H p kd)(h3:TrOk (trOf kd))(h4:↑(trOf kd)<=12)(h5:Up (trOf kd) n l)(h6:ansF kd d l=some r)(h7:∀z∈kd,↑z.2.2<=80)(h8:∀(H':Hp),FrS [] H H'->Q (.str r) H'):xq3 vs H Q
def yt3:Sp:=fun vs H Q _=>xq3 vs H Q
inductive FnO(H1:Hp)(Dl:Addr)(kd:Kd)(i:Nat)(σ:St)(Hx:Hp):Prop
 | mk(x y z:Option V)(us:List Addr)(hσ:σ=[x,y,z])(fr:FrS [] H1 Hx)(hD:Hx Dl=some (.lst (us.map V.ref)))(ha:A2 (PnIs Dl Hx) us (kd.take i)):FnO H1 Dl kd i σ Hx
inductive FnJ(H1:Hp)(Dl:Addr)(ds:List Str)(i:Nat)(σ:St)(Hx:Hp):Prop
 | mk(x:Option V)(hσ:σ=[x])(fr:FrS [] H1 Hx)(hD:Hx Dl=some (.lst ((ds.take i).map V.str))):FnJ H1 Dl ds i σ Hx
inductive FnS(H1:Hp)(Dl Dp:Addr)(d:Str)(kd:Kd)(l:List Str)(i:Nat)(σ:St)(Hx:Hp):Prop
 | mk(x:Option V)(hσ:σ=[x,some (.str d),some (.ref Dp)])(fr:FrS [] H1 Hx)(hD:Hx Dl=some (.lst (((l.take i).filter fun x=>decide (HasD kd x d)).map V.str))):FnS H1 Dl Dp d kd l i σ Hx
section
abbrev xm4:List Str:=["_law_program_here","_law_kind","_law_deed_here"]
def xk9:zd0 ["_law_program_here","_law_kind","_law_deed_here","_law_has_here"] xm4 (zc1 xk3):=fsc
def wc9{k:Nat}(F:Fun K "_law_finds" "_law_finds" xk3 f fd)(UP:Cal P w K mg base k "_law_up" pUp spUp)(bc:mg "dict"=none):FnOk P w K mg base CX0 (k+1) f fd xm4 yt3:=by
 refine F.ok xk9 (fun vs H Q E h=>?_) (fun bf A outer s H vs Q E hr h=>?_)
 .obtain⟨p,n,d,r,kd,l,rfl,_⟩:=h;rfl
 obtain⟨p,n,d,r,kd,l,rfl,hD,ok,b0,a8,al,b3,q⟩:=h;have hu:=zn5 hr;have b2:=hD.kinds;have an:(kd.map (·.1)).Nodup:=by have:=ok.nd;unfold trOf at this;rwa [vj9]at this
 have bd:↑(trOf kd)=↑kd:=by unfold trOf;rw[lqm]
 have b6:↑l<=12:=by
  obtain⟨i,g,hi⟩:=a8.at;have:=Up.len ok i n g l hi a8;obtain⟨h1,_⟩:=wz2.mp hi;lia
 have ag:∀x∈l,∃(j:Nat)(z:Str×Option Str×List Str),kd[j]?=some z/\z.1=x:=fun x hx=>by
  have:=a8.mem x hx;unfold trOf at this;rw[vj9]at this;obtain⟨z,hz,e⟩:=vb9.mp this;obtain⟨j,hj⟩:=vf9.mp hz;exact⟨j,z,hj,e⟩
 obtain⟨kt,ts,x,y,hp,hk,a5,bb⟩:=id hD;have aa:(["_law_name","_law_elder","_law_deeds"]:List Str).Nodup:=by rfl'
 have az:(["_law_one"]:List Str).Nodup:=by rfl'
 have ak:(["_law_name","_law_deed_here","_law_has_here"]:List Str).Nodup:=by rfl'
 exists _,zb3 (zk7 (i:=3) xk9.nd rfl (Or.inr rfl) (zc7 (zh1 rfl) rfl bc (by rfl') (zb0 (zh0 (N':=["_law_name","_law_elder","_law_deeds"]) (src:=[none,none,none]) rfl bkn
   (zj4 (eT (pv 0) zb6))
   (g:=gTup K 3 (zk0 (zf0 0) (zk0 (zf0 1) (zk0 (zf0 2) gNil)))) (fun _ _ _ _=>zh4 (n:=3) rfl (zc0 (gL 0 aa) (zc0 (gL 1 aa) (zc0 (gL 2 aa) zf8))))
   (fun _ _ _ _=>zg2) (te:=tTup (zc3 (tVar 0) (zc3 (xg7 (iTup K (tVar 2)) [none] (zf0 0) tAll (tOp (rIxT K) (tVar 0) (tC (.int 0)))) tNil)))
   (fun _ _ _ _=>zf1 (zb0 (pv 0) (zb0 (zh0 (N':=["_law_one"]) (src:=[none]) rfl bkn (zj4 (pv 2)) (g:=zf0 0) (fun _ _ _ _=>gL 0 az) (fun _ _ _ _=>zg2) (te:=tOp (rIxT K) (tVar 0) (tC (.int 0))) (fun _ _ _ _=>yp4 (show IxR _ (rIxT K) from yr8) (pv 0) zb6 (fun _ _=>rfl))) zb2)))) zb2)))
  (zb7 (zd1 (eI (zh0 (N':=["_law_name","_law_deed_here","_law_has_here"]) (src:=[none,some 2,some 3]) rfl bkn (zf6 (zb9 UP hr rfl (zb0 (pv 0) (zb0 (pv 1) zb2))))
   (g:=zf0 0) (fun _ _ _ _=>gL 0 ak) (tt:=zp4 (tOp (rIn K false) (tVar 1) (yx2 (tVar 2) (tVar 0))))
   (fun _ _ _ _=>zr6 (zc2 (show OpR _ _ (rIn K false) from zg4) (pv 1) (zc6 hu (pv 2) (pv 0) (fun _ _=>rfl)) rfl)) (fun _ _ _ _=>pv 0)) zb6)))
 ac_rfl
 have s2:2<=sizeLine:=vb5 (zb8 (by decide));refine⟨_,rfl,p,_,_,_,rfl,rfl,SqT.of hp,rfl,kt,rfl,⟨_,SqT.of hk⟩,fun Dl ay=>?_⟩;refine zp6 (xs:=ts.map V.ref) (FnO H Dl kd) ⟨_,_,_,[],rfl,(FrS.refl).put ay,zb1,.nil⟩ ?_ ?_ ?_
 .rintro i σ Hx hi ⟨_,_,_,_,_,fr,_⟩;exact SqT.of (fr _ _ wz1 hk)
 .rintro i x σ Hx hx ⟨_,_,_,us,rfl,fr,ad,hA⟩;rw[wz5,wz8]at hx;obtain⟨u,aw,rfl⟩:=hx;have hi:i<↑kd:=by rw[<-a5];exact(wz2.mp aw).1
  have hz:kd[i]?=some kd[i]:=zz2 hi;obtain⟨dt,hv,fs,h2,ai,ap⟩:=bb i u _ aw hz;have af:=b3 kd[i] (vg6 hi);have be:↑us<=12:=by
   have:=hA.len;rw[vc2]at this;lia
  generalize kd[i]=z at hz hv ap ai af;exists u,_,rfl,SqT.of (fr _ _ wz1 hv),rfl,_,_,rfl,_,_,rfl,_,_,rfl,rfl;refine⟨_,rfl,_,rfl,dt,rfl,⟨_,SqT.of (fr _ _ wz1 h2)⟩,fun De ae=>?_⟩;have a6:Dl≠De:=zb4 ad ae;refine zp6 (xs:=fs.map V.ref) (FnJ Hx De z.2.2) ⟨_,rfl,(FrS.refl).put ae,zb1⟩ ?_ ?_ ?_
  .rintro j σ Hy hj ⟨_,_,fy,_⟩;exact SqT.of ((fr.trans fy) _ _ wz1 h2)
  .rintro j x σ Hy hx ⟨_,rfl,fy,a0⟩;rw[wz5,wz8]at hx;obtain⟨g,hg,rfl⟩:=hx;have hj:j<↑z.2.2:=by rw[<-ai];exact(wz2.mp hg).1
   have ao:z.2.2[j]?=some z.2.2[j]:=zz2 hj;obtain⟨rest,ba⟩:=ap j g _ hg ao;exists _,rfl,g,_,_,.str z.2.2[j],rfl,rfl,SqT.of ((fr.trans fy) _ _ wz1 ba),zz0 _ _,_,a0,zb8 (by rw[lqm,vc2];lia),_,rfl,fy.put ae;rw[zb1,vc5,ao,wz9];rfl
  .rintro σ Hy ⟨_,rfl,fy,a0⟩;rw[lqm,ai,vb2 (wz6 _)]at a0;refine⟨s2,fun te b8=>?_⟩;have fn:FrS [] Hy (upd Hy te (.tup [V.str z.1,V.ref De])):=FrS.new b8;have ah:=fn _ _ wz1 (fy _ _ wz1 ad);have a7:=fn _ _ wz1 a0;have a1:upd Hy te (.tup [V.str z.1,V.ref De]) te=some (.tup [V.str z.1,V.ref De]):=zb1;generalize upd Hy te (.tup [V.str z.1,V.ref De])=Hn at fn ah a7 a1;have ac:=fy.trans fn;refine⟨_,ah,zb8 (by rw[lqm];lia),_,_,_,us++[te],rfl,(fr.trans ac).put ay,by rw[zb1,wz9];rfl,?_⟩;have a3:∀{b:Addr}{o:HO},Hn b=some o->b≠Dl->upd Hn Dl (.lst (us.map V.ref++[V.ref te])) b=some o:=fun h n=>by rw[zb5 n];exact h
   have b7:te≠Dl:=fun e=>by rw[e]at a1;rw[ah]at a1;cases a1
   rw[vc5,hz];refine A2.snoc ?_ ⟨De,a3 a1 b7,a3 a7 (vj3 a6),vj3 a6⟩;refine hA.imp fun u' z' h=>?_;obtain⟨l',g1,g2,g3⟩:=h;refine⟨l',a3 (ac _ _ wz1 g1) (fun e=>?_),a3 (ac _ _ wz1 g2) g3,g3⟩;rw[e,ad]at g1;cases g1
 .rintro σ H1 ⟨_,_,_,us,rfl,f1,b5,hA⟩;rw[lqm,a5,vb2 (wz6 _)]at hA;obtain⟨kvs,ar,am⟩:=pn_kvs hA;have aq:(kvs.map (·.1)).Nodup:=by
   rw[ws6 am];unfold List.Nodup;rw[vn4];exact List.Pairwise.imp (fun h e=>h (vv2 e)) an
  have bh:=am.len;refine⟨Dl,us,kvs,rfl,SqL.of b5,ar.len,zb8 (by lia),fun j t kv ht aj=>?_,fun Dp b4=>?_⟩
  .obtain⟨bg,a2,h⟩:=ar.get ht;rw[aj]at a2;cases a2;exact SqT.of h
  rw[show zf4 [] kvs=kvs from yk3 kvs [] aq];have a9:FrS [] H1 (upd H1 Dp (.dK kvs)):=FrS.new b4;have a4:upd H1 Dp (.dK kvs) Dp=some (.dK kvs):=zb1;generalize upd H1 Dp (.dK kvs)=H2 at a9 a4;have f2:=f1.trans a9;refine⟨_,rfl,_,rfl,p,n,trOf kd,l,rfl,b2.keepT (Tup.of0 f2),ok,b0,a8,fun la H3 f3 au=>⟨la,rfl,⟨_,SqL.of au⟩,fun Ds ax=>?_⟩⟩;refine zg9 (xs:=l.map V.str) (FnS H3 Ds Dp d kd l) ⟨_,rfl,(FrS.refl).put ax,zb1⟩ ?_ ?_ ?_
  .rintro j σ Hy hj ⟨_,_,fy,_⟩;exact SqL.of (fy _ _ wz1 au)
  .rintro j x σ Hy hx ⟨x0,rfl,fy,a0⟩;rw[wz5,wz8]at hx;obtain⟨y,hy,rfl⟩:=hx;obtain⟨jj,z,hz,rfl⟩:=ag y (vb0 hy);obtain⟨kv,aj,e1,lj,e2,b1⟩:=kz_at am hz;have a2:kvs[jj]?=some (Sum.inr z.1,V.ref lj):=by rw[aj,<-e1,<-e2]
   have av:=f3.trans fy;have hg:=DGet.k (k:=(Sum.inr z.1:Key)) (av _ _ wz1 a4);rw[xn4 kvs jj _ _ aq a2]at hg;have ab:=(a9.trans av) _ _ wz1 b1;have b9:↑((l.take j).filter fun x=>decide (HasD kd x d))<=12:=by
    have h2:=vm4 (fun x=>decide (HasD kd x d)) (l.take j);rw[vc2]at h2;lia
   have as:(l.take (j+1)).filter (fun x=>decide (HasD kd x d))=(l.take j).filter (fun x=>decide (HasD kd x d))++[z.1].filter (fun x=>decide (HasD kd x d)):=by
    rw[vc5,hy,ub3];rfl
   exists _,rfl,_,rfl,_,rfl,Dp,_,rfl,hg,lj,_,rfl,.inl (SqL.of ab),rfl,zg0 _,_,rfl;show if inV (.str d) (z.2.2.map V.str)=true then _ else _
   rw[zj8,HasD.of an hz d];refine ite2 (fun c=>?_) (fun c=>?_)
   .exists _,rfl,_,a0,zb8 (by rw[lqm];lia),_,rfl,fy.put ax;rw[zb1,as,vt3 (p:=fun x=>decide (HasD kd x d)) c,vr0,wz9];rfl
   .exists _,rfl,fy;rw[as,vt2 (p:=fun x=>decide (HasD kd x d)) c,vr0,vh4];exact a0
  .rintro σ Hy ⟨x0,rfl,fy,a0⟩;rw[lqm,vb2 (wz6 _)]at a0;have hh:(l.filter fun x=>decide (HasD kd x d)).head?=some r:=by rw[List.head?_filter];exact al
   obtain⟨rest,er⟩:∃rest,(l.filter fun x=>decide (HasD kd x d))=r::rest:=by
    cases hf:(l.filter fun x=>decide (HasD kd x d))with
    | nil=>rw[hf]at hh;cases hh
    | cons b rest=>rw[hf]at hh;cases hh;exact⟨rest,rfl⟩
   rw[er,vf5]at a0;exact⟨Ds,_,_,.str r,rfl,rfl,SqL.of a0,zz0 _ _,q _ ((f2.trans f3).trans fy)⟩
end
end Gn
end
section
namespace L2
open PySem PySem.Spec PyProof.Rows
variable{prog:Program}{w:World}{A:Around}{E:Vp}{s:Shared}
variable{X:Cx}
section
def rIsT(K:Fg):List V->Hp->VK->Prop:=fun xs H Q=>∃a ys,xs=[.ref a,.ty "tuple"]/\SqT K H a ys/\Q (.bl true) H
def xd6:CallR X (.builtin "isinstance") (rIsT X.K):=by
 intro a0 s σ H xs us Q I r h;obtain⟨a,ys,rfl,hq,q⟩:=h;cases r with
 | cons r1 rr=>
  cases rr with
  | cons r2 rr=>
   cases rr;cases (show _=Value.type "tuple" from r2);obtain⟨its,rv,ht,hz⟩:=I.tuple hq;cases r1;obtain⟨o,h1,h2,_⟩:=ht;exact vk7 PySem.W.kitx_tuple I.kIn ⟨o,h1,h2⟩ (show PySem.W.kitOne X.K (.type "tuple") (.type "tuple")=some true from rfl) (fun z=>nomatch z) fun tk=>⟨.bl true,H,I.tok _,rfl,q⟩
end
def FnOk.or{P:Program}{w:World}{K:Fg}{mg:Str->Option Value}{base:Heap}{CX:CXT}{k:Nat}{f:Addr}{fd:FuncData}{ps:List Str}{sp a0:Sp}(F:FnOk P w K mg base CX k f fd ps sp)(G:FnOk P w K mg base CX k f fd ps a0):
  FnOk P w K mg base CX k f fd ps (fun vs H Q E=>sp vs H Q E\/a0 vs H Q E):=
 ⟨fun vs H Q E h=>h.elim (F.len vs H Q E) (G.len vs H Q E),fun A outer s H args us vs Q E hr h1 h2 h3 h=>h.elim (F.run A outer s H args us vs Q E hr h1 h2 h3) (G.run A outer s H args us vs Q E hr h1 h2 h3)⟩
end L2
local macro_rules|`(tactic|ac_rfl)=>`(tactic|first|dsimp only[L2.cxOf,L2.Cx.nox]|skip)
namespace Gn
open PySem L2
variable{P:Program}{w:World}{K:Fg}{mg:Str->Option Value}{base:Heap}{f:Addr}{fd:FuncData}
abbrev xr9:Stmt:=top 42
def _root_.L2.TQ.keep(h:TQ K H a xs)(f:Tup H H'):TQ K H' a xs:=h.imp (f _ _) id
def _root_.L2.Sm.keep(f:Tup H H'):∀{n:Nat}{x y:V},Sm K H n x y->Sm K H' n x y
 | 0,_,_,h=>h
 | n+1,x,y,h=>by
  rcases h with h | ⟨a,b,xs,ys,h1,h2,h3,h4,h5,h6⟩
  .exact .inl h
  .exact .inr ⟨a,b,xs,ys,h1,h2,h3.keep f,h4.keep f,h5.imp fun _ _ g=>L2.Sm.keep f g,h6⟩
inductive SpSm(K:Fg)(n:Nat)(vs:List V)(H:Hp)(Q:VK):Prop
 | mk(x y:V)(h1:vs=[x,y])(h2:Sm K H n x y)(h3:∀H',FrS [] H H'->Q (.bl true) H'):SpSm K n vs H Q
def spSm(K:Fg)(n:Nat):Sp:=fun vs H Q _=>SpSm K n vs H Q
inductive SpSmT(K:Fg)(n:Nat)(vs:List V)(H:Hp)(Q:VK):Prop
 | mk(x y:V)(h1:vs=[x,y])(h2:SmT K H (Sm K H n) x y)(h3:∀H',FrS [] H H'->Q (.bl true) H'):SpSmT K n vs H Q
def spSmT(K:Fg)(n:Nat):Sp:=fun vs H Q _=>SpSmT K n vs H Q
inductive SmI(H:Hp)(D:Addr)(i:Nat)(σ:St)(Hx:Hp):Prop
 | mk(x y:Option V)(hσ:σ=[x,y])(fr:FrS [] H Hx)(hD:Hx D=some (.lst ((List.replicate i true).map V.bl))):SmI H D i σ Hx
section
def kit_st:PySem.W.kitOne K (.type "str") (.type "tuple")=some false:=by first | rfl | rfl'
def wh7:PySem.W.kitOne K (.type "str") (.type "str")=some true:=rfl
def kit_it:PySem.W.kitOne K (.type "int") (.type "tuple")=some false:=by first | rfl | rfl'
def kit_ib:PySem.W.kitOne K (.type "int") (.type "bool")=some false:=by first | rfl | rfl'
def ws7:PySem.W.kitOne K (.type "int") (.type "str")=some false:=by first | rfl | rfl'
def kit_ii:PySem.W.kitOne K (.type "int") (.type "int")=some true:=rfl
abbrev yk9:List Str:=["_law_found","_law_due"]
def wj4:zd0 yk9 yk9 (zc1 xr9):=fsc
def xc6(F:Fun K "_law_same" "_law_same" xr9 f fd)(mi:mg "isinstance"=none)(mt:mg "tuple"=none)(mb:mg "bool"=none)(ms:mg "str"=none)(mn:mg "int"=none):FnOk P w K mg base CX0 (k+1) f fd yk9 (spSm K 0):=by
 refine F.ok wj4 (fun vs H Q E h=>?_) (fun a0 A outer s H vs Q E hr h=>?_)
 .obtain⟨x,y,rfl,_⟩:=h;rfl
 exists _,zb3 (zg8 (zx4 (zc5 zm1 rfl mi (by rfl') (zb0 (pv 1) (zb0 (zr7 (v:=.ty "tuple") rfl mt (by rfl') rfl) zb2)))) zs3 zd4)
  (zb3 (zg8 (zq9 (xb7 (pv 1))) zs3 zd4)
  (zb3 (zg8 (zx4 (zc5 zm1 rfl mi (by rfl') (zb0 (pv 1) (zb0 (zr7 (v:=.ty "str") rfl ms (by rfl') rfl) zb2))))
   (zb7 (zd1 (xc9 (zc5 zm1 rfl mi (by rfl') (zb0 (pv 0) (zb0 (zr7 (v:=.ty "str") rfl ms (by rfl') rfl) zb2))) (xs0 (zn3 zn2 (pv 0) (pv 1) (zd6 _)))))) zd4)
  (zb7 (zd1 (xc9 (zc5 zm1 rfl mi (by rfl') (zb0 (pv 0) (zb0 (zr7 (v:=.ty "int") rfl mn (by rfl') rfl) zb2)))
   (xc9 (wk1 (zc5 zm1 rfl mi (by rfl') (zb0 (pv 0) (zb0 (zr7 (v:=.ty "bool") rfl mb (by rfl') rfl) zb2)))) (xs0 (zn3 zn2 (pv 0) (pv 1) (zd6 _)))))))))
 ac_rfl
 obtain⟨x,y,rfl,h,q0⟩:=h;have q:=q0 H FrS.refl;rcases h with ⟨z,rfl,rfl⟩ | ⟨z,rfl,rfl⟩
 .exists _,rfl,_,_,_,false,rfl,.str z,kit_st,_,rfl;exists _,rfl,_,rfl;exists _,rfl,_,_,_,true,rfl,.str z,wh7,_,rfl;exists _,rfl,_,_,_,true,rfl,.str z,wh7,_,rfl;exists _,rfl,_,rfl,rfl;show Q (.bl (decide (V.str z=V.str z))) H;rw[vd1 rfl];exact q
 .exists _,rfl,_,_,_,false,rfl,.int z,kit_it,_,rfl;exists _,rfl,_,rfl;exists _,rfl,_,_,_,false,rfl,.int z,ws7,_,rfl;exists _,rfl,_,_,_,true,rfl,.int z,kit_ii,_,rfl;exists _,rfl,_,_,_,false,rfl,.int z,kit_ib,_,rfl,_,rfl;exists _,rfl,_,rfl,rfl;show Q (.bl (decide (V.int z=V.int z))) H;rw[vd1 rfl];exact q
def xz9(F:Fun K "_law_same" "_law_same" xr9 f fd)(T:Cal P w K mg base k "_law_same" yk9 (spSm K n))(mi:mg "isinstance"=none)(mt:mg "tuple"=none)(ml:mg "len"=none)(a2:mg "all"=none)(mz:mg "zip"=none):FnOk P w K mg base CX0 (k+1) f fd yk9 (spSmT K n):=by
 refine F.ok wj4 (fun vs H Q E h=>?_) (fun ab A outer s H vs Q E hr h=>?_)
 .obtain⟨x,y,rfl,_⟩:=h;rfl
 obtain⟨_,_,rfl,⟨a,b,xs,ys,rfl,rfl,ha,hb,hA,hl⟩,q⟩:=h;have a5:(["_law_one","_law_other"]:List Str).Nodup:=by rfl'
 exists _,zb3 (zg8 (zx4 (zc5 xd6 rfl mi (by rfl') (zb0 (pv 1) (zb0 (zr7 (v:=.ty "tuple") rfl mt (by rfl') rfl) zb2))))
   (zb3 (zg8 (PW.pt (xh7 (wj7 (zx4 (zc5 xd6 rfl mi (by rfl') (zb0 (pv 0) (zb0 (zr7 (v:=.ty "tuple") rfl mt (by rfl') rfl) zb2))))) (yh3 (zc2 wv7 (zc5 zd5 rfl ml vg7 (zb0 (pv 0) zb2)) (zc5 zd5 rfl ml vg7 (zb0 (pv 1) zb2)) (zd6 _))))) zs3 zd4)
   (zb7 (zd1 (zc5 (wd5 rfl) rfl a2 (by rfl') (zb0 (zh0 (N':=["_law_one","_law_other"]) (src:=[none,none]) rfl bkn
     (pi_zip (p:=true) rfl mz (zb0 (pv 0) (zb0 (pv 1) zb2)))
     (g:=gTup K 2 (zk0 (zf0 0) (zk0 (zf0 1) gNil))) (fun _ _ _ _=>zh4 (n:=2) rfl (zc0 (gL 0 a5) (zc0 (gL 1 a5) zf8)))
     (fun _ _ _ _=>zg2) (te:=zm8 (spSm K n) [] E0 (zc3 (tVar 0) (zc3 (tVar 1) tNil))) (fun _ _ _ _=>zb9 T hr rfl (zb0 (pv 0) (zb0 (pv 1) zb2)))) zb2))))) zd4) zs3
 ac_rfl
 have a0:=hA.len;exists _,rfl,b,ys,rfl,hb.sq,_,rfl;exists _,rfl,a,xs,rfl,ha.sq,_,rfl;exists _,rfl,a,_,rfl,.inr ha.sq,_,rfl,b,_,rfl,.inr hb.sq,rfl,_,rfl;show if (!decide (V.int (↑xs:Nat)=V.int (↑ys:Nat)))=true then _ else _
 rw[vd0 (by rw[a0];simp)];refine⟨_,rfl,_,rfl,a,b,_,_,rfl,ha.sq,hb.sq,fun D hD=>?_⟩;exists fun i m σ Hx=>m=↑xs-i/\i<=↑xs/\SmI H D i σ Hx,⟨_,rfl,vc9 _,_,_,rfl,(FrS.refl).put hD,zb1⟩;rintro i m σ Hx ⟨rfl,hi,⟨x0,y0,rfl,fr,a4⟩⟩;have a3:SqT K Hx a xs:=(ha.keep (Tup.of0 fr)).sq;have a1:SqT K Hx b ys:=(hb.keep (Tup.of0 fr)).sq
 by_cases a6:i<↑xs
 .have hv:xs[i]?=some xs[i]:=zz2 a6;obtain⟨y',a7,hS⟩:=hA.get hv;refine .inr ⟨⟨_,_,_,_,a3,a1,hv,a7⟩,SmI H D (i+1),fun σ' H' h=>⟨_,by lia,rfl,a6,h⟩,fun v H' yl=>?_⟩;obtain⟨T,x,y,hT,rfl,rfl,y1,y2⟩:=yl;have e1:=y1 _ a3;rw[hv]at e1;have e2:=y2 _ a1;rw[a7]at e2;have aa:xs[i]=x:=vf7 e1;have a8:y'=y:=vf7 e2;subst a8;rw[aa]at hS;have a9:D≠T:=zb4 a4 hT;exists T,_,rfl,SqT.of zb1,rfl,_,_,rfl,_,_,rfl,rfl;refine⟨_,rfl,_,rfl,x,y',rfl,hS.keep ((Tup.of0 fr).trans (Tup.new hT)),fun Hz fz=>⟨_,fz _ _ wz1 (by rw[zb5 a9];exact a4),?_,⟨_,_,rfl,((fr.trans (FrS.new hT)).trans fz).put hD,?_⟩⟩⟩
  .rw[lqm,List.length_replicate];exact yd8 (by lia)
  .rw[zb1,List.replicate_succ',wz9];rfl
 .refine .inl ⟨⟨_,_,a3,a1,.inl (by lia)⟩,D,List.replicate i true,rfl,SqL.of a4,?_⟩;have e2:(List.replicate i true).all id=true:=by rw[vf2];intro x hx;exact(List.mem_replicate.mp hx).2
  rw[e2];exact q Hx fr
def ok_sm{k n:Nat}(F:Fun K "_law_same" "_law_same" xr9 f fd)(T:Cal P w K mg base k "_law_same" yk9 (spSm K n))(mi:mg "isinstance"=none)(mt:mg "tuple"=none)(mb:mg "bool"=none)(ms:mg "str"=none)(mn:mg "int"=none)(ml:mg "len"=none)(a0:mg "all"=none)(mz:mg "zip"=none):FnOk P w K mg base CX0 (k+1) f fd yk9 (spSm K (n+1)):=
 ((xc6 (k:=k) F mi mt mb ms mn).or (xz9 F T mi mt ml a0 mz)).imp fun vs H Q E h=>by
  obtain⟨x,y,h1,h2,h3⟩:=h;rcases h2 with h2 | h2
  .exact .inl ⟨x,y,h1,h2,h3⟩
  .exact .inr ⟨x,y,h1,h2,h3⟩
end
abbrev xv5:Stmt:=top 41
def ProgIs.dlen(h:ProgIs Z H p ks m0)(nm:ks.map (·.1)=tr.map (·.1)):∀z∈kdOf ks tr,↑z.2.2<=80:=by
 obtain⟨kt,us,lt,h1,h2,h3,h4,h5,h6⟩:=h;intro z hz;obtain⟨j,hj⟩:=vf9.mp hz;obtain⟨y,hy,_,e,_⟩:=kd_at nm hj;have a0:j<↑us:=by rw[h3];exact(wz2.mp hy).1
 obtain⟨_,dt,fs,_,_,k3,_,k5⟩:=h4 j us[j] y (zz2 a0) hy;rw[e,lqm];lia
inductive RcI(K:Fg)(H H1:Hp)(p a mn rw so kn:Addr)(ns:List Addr)(kd:Kd)(tr:Tr)(L:List Fz)(ss:List Str)(m:Int)(i:Nat)(σ:St)(Hx:Hp):Prop
 | mk(x7 x8 x9 x10 x11:Option V)(qs:List (Pr×Addr))(kinds:List Str)(hσ:σ=[some (.ref p),some (.ref a),some (.ref mn),some (.ref rw),some (.ref so),some (.ref kn),some (.int m),x7,x8,x9,x10,x11])(fr:FrS [] H Hx)(tp:Tup H1 Hx)(hr:Hx rw=some (.lst (ns.map V.ref)))(hc:Hx so=some (.lst (qs.map fun q=>V.ref q.2)))(hq:∀q∈qs,BT K Hx q.2 q.1)(hk:Hx kn=some (.lst (kinds.map V.str)))
  (md:MdOk H kd tr L ss (qs.map (·.1)) kinds) (l1:m<=((↑qs+↑kinds:Nat):Int)) (l2:((↑qs+↑kinds:Nat):Int)=m->∀z∈L.take i,Sat H kd tr ss (qs.map (·.1)) kinds z):RcI K H H1 p a mn rw so kn ns kd tr L ss m i σ Hx
inductive RcJ(K:Fg)(H1:Hp)(so kn rw:Addr)(kinds:List Str)(ns:List Addr)(xs:List (Option V))(F:Str->Str×Str)(tr:Tr)(ck:Str)(come:List (Str×Str))(j:Nat)(σ:St)(Hx:Hp):Prop
 | mk(x10 x11:Option V)(qs:List (Pr×Addr))(hσ:σ=xs++[x10,x11])(fx:FrS [so] H1 Hx)(hc:Hx so=some (.lst (qs.map fun q=>V.ref q.2)))(hq:∀q∈qs,BT K Hx q.2 q.1)(hn:qs.map (·.1)=addU come (((kinds.take j).filter (below tr ck)).map F)):RcJ K H1 so kn rw kinds ns xs F tr ck come j σ Hx
def wq4(σ:St)(_:Hp):Nat:=match (σ[6]?:Option (Option V))with | some (some (V.int m))=>(1000-m).toNat | _=>0
def wc2{α:Type}[DecidableEq α](l:List α)(k:α):addU l [k]=if k∈l then l else l++[k]:=rfl
section
abbrev xj4:List Str:=["_law_program_here","_law_there_here"]
def zm0:zd0 ["_law_program_here","_law_there_here","_law_main","_law_rows_here","_law_some","_law_kinds","_law_before","_law_number","_law_body","_law_row_here","_law_kind","_law_one"] xj4 (zc1 xv5):=fsc
def xz7(F:Fun K "_law_reach" "_law_reach" xv5 f fd)(NU:Cal P w K mg base k "_law_numbered" qJ (xw2 K))(UP:Cal P w K mg base k "_law_up" pUp spUp)(FI:Cal P w K mg base k "_law_finds" xm4 yt3)(bk:mg "tuple"=none)(bm:mg "sorted"=none)(as:mg "len"=none)(ci:mg "list"=none):FnOk P w K mg base CX0 (k+1) f fd xj4 (yh6 K):=by
 refine F.ok zm0 (fun vs H Q E h=>?_) (fun d9 A outer s H vs Q E hr h=>?_)
 .obtain⟨p,a,ks,m0,tr,ss,Z,rfl,_⟩:=h;rfl
 obtain⟨p,a,ks,m0,tr,ss,Z,rfl,hP,hK,hT,aq,hL,ha,hU,c0,q⟩:=h;have hu:=zn5 hr;exists _,zb3 (sL 2 zm0.nd (zf1 (yr1 (yr1 zb2))))
  (zb3 (sL 3 zm0.nd (zb9 NU hr rfl (zb0 (pv 0) zb2)))
  (zb3 (wj6 (i:=4) (j:=5) rfl zm0.nd rfl rfl (by decide) rfl rfl (zb0 (zd7 (zb0 (pv 2) zb2)) (zb0 (zd7 zb2) zb2)) rfl)
  (zb3 (sL 6 zm0.nd (yg8 zq8 zb6))
  (zb3 (zs4 vd5 (zc2 wv7 (pv 6) (zf2 zm3 (zc5 zd5 rfl as vg7 (zb0 (pv 4) zb2)) (zc5 zd5 rfl as vg7 (zb0 (pv 5) zb2))) (zd6 _))
   (zb3 (sL 6 zm0.nd (zf2 zm3 (zc5 zd5 rfl as vg7 (zb0 (pv 4) zb2)) (zc5 zd5 rfl as vg7 (zb0 (pv 5) zb2))))
   (zb7 (zf9 vd5 rfl (zf6 (pv 3)) (zh4 (n:=3) rfl (zc0 (gL 7 zm0.nd) (zc0 (gL 8 zm0.nd) (zc0 (gL 9 zm0.nd) zf8))))
    (zb3 (zg8 (PW.pt (zk5 (zc2 (wm9 hu) (pv 8) (pv 4) rfl) (zk5 (zc2 zn2 (eT (pv 9) zb6) zd3 (zd6 _)) (zk5 (zc2 zg4 (eT (pv 9) zb6) (pv 1) rfl) (zk2 (zc2 zp3 (eT (pv 9) zb6) (pv 5) rfl))))))
     (zb7 (zf5 (zk8 vd2 vd9 vf0 zd8 (pv 5) (zb0 (eT (pv 9) zb6) zb2)))) zd4)
    (zb7 (zg8 (PW.pt (zk5 (zc2 (wm9 hu) (pv 8) (pv 4) rfl) (zk2 (zc2 zn2 (eT (pv 9) zb6) zd3 (zd6 _)))))
     (zb7 (zf9 vd5 rfl (zf6 (zc7 yq7 rfl ci (by rfl') (zb0 (pv 5) zb2))) (gL 10 zm0.nd)
      (zb7 (zg8 (zc2 zg4 (eT (pv 9) zb6) (zb9 UP hr rfl (zb0 (pv 0) (zb0 (pv 10) zb2))) rfl)
       (zb3 (sL 11 zm0.nd (zf1 (zb0 (zb9 FI hr rfl (zb0 (pv 0) (zb0 (pv 10) (zb0 (eT (pv 9) zb6) zb2)))) (zb0 (eT (pv 9) zb6) zb2))))
       (zb7 (zg8 (zc2 (wp6 hu) (pv 11) (pv 4) rfl) (zb7 (zf5 (zk8 vd2 vd9 vf0 zd8 (pv 4) (zb0 (pv 11) zb2)))) zd4))) zd4)))) zd4)))))))
  (zb7 (zd1 (zf1 (zb0 (zc7 zc8 rfl bk (by rfl') (zb0 (zc5 yq1 rfl bm (by rfl') (zb0 (pv 4) zb2)) zb2)) (zb0 (zc7 zc8 rfl bk (by rfl') (zb0 (zc5 zk4 rfl bm (by rfl') (zb0 (pv 5) zb2)) zb2)) zb2)))))))))
 ac_rfl
 have hI:=zz6 hP.rows;have co:=hP.deeds hK hL.nm;have bf:=tr_kd hL.nm;have d2:=hP.dlen hL.nm;have s2:2<=sizeLine:=vb5 (zb8 (by decide));refine⟨s2,fun mn c7=>?_⟩;have fm:FrS [] H (upd H mn (.tup [V.str "",V.str ""])):=FrS.new c7;refine⟨_,rfl,p,ks,m0,rfl,hP.keep (Tup.of0 fm),fun a4 ns H1 f1 db b5 hA=>?_⟩;have b4:=f1 _ _ wz1 zb1;refine⟨_,rfl,by show 1<=sizeLine;decide,fun so ba=>⟨vc9 _,fun kn ax=>⟨_,_,rfl,?_⟩⟩⟩;exists _,rfl;have av:FrS [] H1 (upd (upd H1 so (.lst [V.ref mn])) kn (.lst [])):=(FrS.new ba).trans (FrS.new ax);have b0:upd H1 so (.lst [V.ref mn]) so=some (.lst [V.ref mn]):=zb1;have ap:so≠kn:=zb4 b0 ax;have ah:H1 kn=none:=by rw[zb5 (vj3 ap)]at ax;exact ax
 have cz:a4≠so:=zb4 b5 ba;have d0:a4≠kn:=zb4 b5 ah;have bb:=fm.trans f1;have aj:H so=none:=yd9 bb ba;have b2:H kn=none:=yd9 bb ah;have bl:upd (upd H1 so (.lst [V.ref mn])) kn (.lst []) so=some (.lst ([((MN:Pr),mn)].map fun q=>V.ref q.2)):=by rw[zb5 ap];exact zb1
 have bo:upd (upd H1 so (.lst [V.ref mn])) kn (.lst []) kn=some (.lst (([]:List Str).map V.str)):=zb1;generalize upd (upd H1 so (.lst [V.ref mn])) kn (.lst [])=H2 at av bl bo;have bx:=Tup.of0 av;have cu:=bb.trans av;have bg:=av _ _ wz1 b5;have d8:=hA.ckeep bx;have b3:=bx _ _ b4;have bz:=hA.len;rw[vv1]at bz;generalize hLL:zj3 (zh3 ks m0)=L at *;generalize hKD:kdOf ks tr=kd at *;refine zt9 (fun σ Hx=>∃m,RcI K H H2 p a mn a4 so kn ns kd tr L ss m L.length σ Hx) wq4 ⟨-1,_,_,_,_,_,[((MN:Pr),mn)],[],rfl,cu,(fun _ _ h=>h),bg,bl,(fun q hq=>by rw[vc7.mp hq];exact .inl b3),bo,MdOk.start,by show(-1:Int)<=1;decide,fun e=>absurd e (by show ¬(1:Int)=-1;decide)⟩ ?_ ?_
 .rintro σ Hx ⟨m,x7,x8,x9,aw,ar,qs,kinds,rfl,fr,tp,a5,hc,hq,hk,md,l1,l2⟩;subst hKD;obtain⟨a7,bi⟩:=md.few hL hT aq hI c0 hU;rw[lqm]at a7;exists _,rfl,_,rfl,so,_,rfl,.inl (SqL.of hc),_,rfl,kn,_,rfl,.inl (SqL.of hk),_,_,rfl,rfl,rfl,_,rfl;have eM:((↑(qs.map fun q=>V.ref q.2):Nat):Int)+((↑(kinds.map V.str):Nat):Int)=((↑qs+↑kinds:Nat):Int):=by rw[lqm,lqm,Int.natCast_add]
  show if (!decide (V.int m=V.int (((↑(qs.map fun q=>V.ref q.2):Nat):Int)+((↑(kinds.map V.str):Nat):Int))))=true then _ else _
  rw[eM];refine ite2 (fun c=>?_) (fun c=>?_)
  .have c:m≠((↑qs+↑kinds:Nat):Int):=fun e=>by rw[e]at c;simp at c
   exists _,rfl,so,_,rfl,.inl (SqL.of hc),_,rfl,kn,_,rfl,.inl (SqL.of hk),_,_,rfl,rfl;exists _,rfl,a4,rfl,⟨_,SqL.of a5⟩;refine zm5 (xs:=ns.map V.ref) (RcI K H H2 p a mn a4 so kn ns (kdOf ks tr) tr L ss ((↑qs+↑kinds:Nat):Int)) ⟨x7,x8,x9,aw,ar,qs,kinds,(by show [some (V.ref p),some (V.ref a),some (V.ref mn),some (V.ref a4),some (V.ref so),some (V.ref kn),some (V.int (((↑(qs.map fun q=>V.ref q.2):Nat):Int)+((↑(kinds.map V.str):Nat):Int))),x7,x8,x9,aw,ar]=_;rw[eM]),fr,tp,a5,hc,hq,hk,md,Int.le_refl _,fun _ z hz=>nomatch hz⟩ ?_ ?_ ?_
   .rintro i σ Hy hi ⟨_,_,_,_,_,_,_,_,_,_,hr,_⟩;exact SqL.of hr
   .clear l1 l2 a7 bi hc hk hq md tp fr c eM a5;generalize ((↑qs+↑kinds:Nat):Int)=m1;rintro i x σ Hx hx ⟨x7,x8,x9,aw,ar,qs,kinds,rfl,fr,tp,a5,hc,hq,hk,md,l1,l2⟩;rw[wz5,wz8]at hx;obtain⟨u,cl,rfl⟩:=hx;obtain⟨z,hz,bd,u1,u2⟩:=d8.get cl;rw[List.getElem?_zipIdx]at hz;obtain⟨z,bu,rfl⟩:=wz8.mp hz;have be:z∈L:=vb0 bu;obtain⟨w,rest,hw,bq,cp⟩:=hI z be;obtain⟨a7,bi⟩:=md.few hL hT aq hI c0 hU;rw[lqm]at a7;have c6:=Tup.of0 fr;have aa:=c6 _ _ hw;have an:=(u2.keep tp).sq;have ai:PdOk K Hx qs:=BT.pd hq;have snoc:∀{ab:List (Str×Str)}{ae:List Str},(∀y∈L.take i,Sat H (kdOf ks tr) tr ss ab ae y)->Sat H (kdOf ks tr) tr ss ab ae z->∀y∈L.take (i+1),Sat H (kdOf ks tr) tr ss ab ae y:=fun h0 h y hy=>by
     rw[vc5,bu]at hy;rcases vc4.mp hy with hy | hy
     .exact h0 y hy
     .have ey:y=z:=by simpa using hy
      rw[ey];exact h
    exists u,_,rfl,SqT.of (tp _ _ u1),rfl,_,_,rfl,_,_,rfl,_,_,rfl,rfl;exists _,rfl,_,rfl,bd,so,z.1,qs,rfl,rfl,an,.inl (SqL.of hc),ai,_,rfl;rw[vt7];refine ite2 (fun c=>?_) (fun c=>?_)
    rotate_left
    .refine iteF ?_;exists _,rfl,_,rfl,bd,so,z.1,qs,rfl,rfl,an,.inl (SqL.of hc),ai,_,rfl;rw[vt7];refine ite2 (fun c2=>absurd c2 c) (fun _=>iteF ?_);exact⟨_,_,_,_,_,qs,kinds,rfl,fr,tp,a5,hc,hq,hk,md,l1,fun e=>snoc (l2 e) fun h=>absurd (vd1 h) c⟩
    have a3:z.1∈qs.map (·.1):=vb3 c;exists _,rfl,z.2,_,_,.str w,rfl,rfl,SqT.of aa,zz0 _ _,rfl,_,rfl;rcases xb2 (Z:=Z) hw cp with ⟨rfl,mx,mk,rfl,e⟩ | ⟨n,e⟩
    .have ec:clK H z.2=none:=by
      rcases yb0 hw bq with ⟨h,_⟩ | ⟨_,h⟩
      .exact absurd h (by rfl')
      .exact h
     have cm:∀ae,∀n∈clL H (kdOf ks tr) tr ae z.2,n∈qs.map (·.1):=fun ae n h=>by unfold clL at h;rw[ec]at h;cases h
     have cc:=md.make be a3;have cn:=zq6 (mkL H ss z.2) kinds;have kin:∀k∈mkL H ss z.2,k∈addU kinds (mkL H ss z.2):=fun k h=>(zg1 _ _ _).mpr (.inr h);have go:∀(bv:Option V)(Hy:Hp),FrS [] H Hy->Tup Hx Hy->Hy a4=some (.lst (ns.map V.ref))->Hy so=some (.lst (qs.map fun q=>V.ref q.2))->Hy kn=some (.lst ((addU kinds (mkL H ss z.2)).map V.str))->
       RcI K H H2 p a mn a4 so kn ns (kdOf ks tr) tr L ss m1 (i+1) [some (.ref p),some (.ref a),some (.ref mn),some (.ref a4),some (.ref so),some (.ref kn),some (.int m1),bv,some (.ref bd),some (.ref z.2),aw,ar] Hy:=fun bv Hy fy ty ct ak d6=>by
      refine⟨_,_,_,_,_,qs,_,rfl,fy,tp.trans ty,ct,ak,fun q h=>(hq q h).keep ty,d6,cc,by lia,fun e=>snoc (fun y hy=>?_) fun _=>⟨kin,cm _⟩⟩;have e2:=cn.2 (by lia);rw[e2];exact l2 (by rw[e2]at e;exact e) y hy
     refine iteT ?_;exists _,rfl,z.2,_,_,.str mk,rfl,rfl,SqT.of aa,rfl,_,rfl,a,_,rfl,.inr (SqT.of (c6 _ _ ha)),rfl,zg0 _,_,rfl;show if inV (.str mk) (ss.map V.str)=true then _ else _
     rw[zj8];refine ite2 (fun c2=>?_) (fun c2=>?_)
     .have c2:mk∈ss:=vb3 c2;have em:mkL H ss z.2=[mk]:=by unfold mkL;rw[e];exact vd3 c2
      rw[em]at go;rw[wc2]at go;exists _,rfl,z.2,_,_,.str mk,rfl,rfl,SqT.of aa,rfl,_,rfl,kn,_,rfl,.inl (SqL.of hk),rfl,zg0 _,_,rfl;show if (!inV (.str mk) (kinds.map V.str))=true then _ else _
      rw[zj8];refine ite2 (fun c3=>?_) (fun c3=>?_)
      .have c3:mk∉kinds:=by simpa using c3
       rw[vd0 c3]at go;exists _,rfl,.inl ⟨rfl,_,SqL.of hk⟩,_,rfl,z.2,_,_,.str mk,rfl,rfl,SqT.of aa,rfl,kn,_,_,rfl,rfl,hk,zb8 (by rw[lqm];lia);have t3:Tup Hx (upd Hx kn (.lst (kinds.map V.str++[V.str mk]))):=Tup.lst hk;have ag:upd Hx kn (.lst (kinds.map V.str++[V.str mk])) so=some (.lst (qs.map fun q=>V.ref q.2)):=by rw[zb5 ap];exact hc
       exists _,rfl,_,rfl,bd,so,z.1,qs,rfl,rfl,((u2.keep tp).keep t3).sq,.inl (SqL.of ag),BT.pd fun q h=>(hq q h).keep t3,_,rfl;rw[vt7,vd1 a3];refine iteT ⟨_,rfl,z.2,_,_,.str "make",rfl,rfl,SqT.of (t3 _ _ aa),zz0 _ _,rfl,_,rfl,iteF ?_⟩;exact go _ _ (fr.put b2) t3 (by rw[zb5 d0];exact a5) ag (by rw[zb1,wz9];rfl)
      .have c3:mk∈kinds:=by simpa using c3
       rw[vd3 c3]at go;exists _,rfl,_,rfl,bd,so,z.1,qs,rfl,rfl,an,.inl (SqL.of hc),ai,_,rfl;rw[vt7,vd1 a3];refine iteT ⟨_,rfl,z.2,_,_,.str "make",rfl,rfl,SqT.of aa,zz0 _ _,rfl,_,rfl,iteF ?_⟩;exact go _ _ fr (fun _ _ h=>h) a5 hc hk
     .have c2:mk∉ss:=fun h=>c2 (vd1 h);have em:mkL H ss z.2=[]:=by unfold mkL;rw[e];exact vd0 c2
      rw[em]at go;refine iteF ?_;exists _,rfl,_,rfl,bd,so,z.1,qs,rfl,rfl,an,.inl (SqL.of hc),ai,_,rfl;rw[vt7,vd1 a3];refine iteT ⟨_,rfl,z.2,_,_,.str "make",rfl,rfl,SqT.of aa,zz0 _ _,rfl,_,rfl,iteF ?_⟩;exact go _ _ fr (fun _ _ h=>h) a5 hc hk
    .have am:∀k,k∉mkL H ss z.2:=fun k h=>by
      have:=(xp1.mp h).1;rw[e]at this;cases this
     show if (decide (V.str w=V.str "make"))=true then _ else _
     rw[vf4 fun z=>n (V.str.inj z)];refine iteF (iteF ?_);exists _,rfl,_,rfl,bd,so,z.1,qs,rfl,rfl,an,.inl (SqL.of hc),ai,_,rfl;rw[vt7,vd1 a3];refine iteT ⟨_,rfl,z.2,_,_,.str w,rfl,rfl,SqT.of aa,zz0 _ _,rfl,_,rfl,?_⟩;rcases yb0 hw bq with ⟨rfl,cx,cy,ck,cd,cg,rfl,ec,hzz⟩ | ⟨n2,ec⟩
     rotate_left
     .show if (decide (V.str w=V.str "call"))=true then _ else _
      rw[vf4 fun z=>n2 (V.str.inj z)];refine iteF ⟨_,_,_,_,_,qs,kinds,rfl,fr,tp,a5,hc,hq,hk,md,l1,fun e=>snoc (l2 e) fun _=>⟨fun k hk=>absurd hk (am k),fun n h=>?_⟩⟩;unfold clL at h;rw[ec]at h;cases h
     refine iteT ?_;refine⟨_,rfl,kn,_,rfl,.inl (SqL.of hk),fun lc bh=>⟨lc,rfl,⟨_,SqL.of zb1⟩,?_⟩⟩;have f3:FrS [] Hx (upd Hx lc (.lst (kinds.map V.str))):=FrS.new bh;have al:upd Hx lc (.lst (kinds.map V.str)) lc=some (.lst (kinds.map V.str)):=zb1;have cw:lc≠so:=vj3 (zb4 hc bh);generalize upd Hx lc (.lst (kinds.map V.str))=H3 at f3 al;have t3:=Tup.of0 f3;have b1:=fr.trans f3;have ag:=f3 _ _ wz1 hc;have ch:clL H (kdOf ks tr) tr kinds z.2=(kinds.filter (below tr ck)).map fun x=>((ansOf (kdOf ks tr) tr x cd).getD "",cd):=by unfold clL;rw[ec]
     refine zm5 (xs:=kinds.map V.str) (RcJ K H3 so kn a4 kinds ns [some (.ref p),some (.ref a),some (.ref mn),some (.ref a4),some (.ref so),some (.ref kn),some (.int m1),_,some (.ref bd),some (.ref z.2)] (fun x=>((ansOf (kdOf ks tr) tr x cd).getD "",cd)) tr ck (qs.map (·.1))) ⟨_,_,qs,rfl,FrS.refl,ag,fun q h=>(hq q h).keep t3,rfl⟩ ?_ ?_ ?_
     .rintro j σ Hy hj ⟨_,_,_,_,fy,_⟩;exact SqL.of (fy _ _ (by simpa using cw) al)
     .rintro j x σ Hy hx ⟨b9,ay,qj,rfl,fy,ak,af,a8⟩;rw[wz5,wz8]at hx;obtain⟨y,hy,rfl⟩:=hx;have d3:=vb0 hy;obtain⟨l,ad⟩:=hU y (md.kt y d3).1;have az:=(Tup.of0 b1).trans (fy.tup1 ag);have eF:((kinds.take (j+1)).filter (below tr ck)).map (fun x=>((ansOf (kdOf ks tr) tr x cd).getD "",cd))=((kinds.take j).filter (below tr ck)).map (fun x=>((ansOf (kdOf ks tr) tr x cd).getD "",cd))++([y].filter (below tr ck)).map (fun x=>((ansOf (kdOf ks tr) tr x cd).getD "",cd)):=by
       rw[vc5,hy,ub3,wz9];rfl
      have da:↑qj<=200:=by
       have h1:=vg1 List.length a8;have h2:=zw1 (((kinds.take j).filter (below tr ck)).map (fun x=>((ansOf (kdOf ks tr) tr x cd).getD "",cd))) (qs.map (·.1));have h3:=vm4 (below tr ck) (kinds.take j);rw[lqm]at h1;rw[lqm,lqm]at h2;rw[vc2]at h3;lia
      refine⟨_,rfl,z.2,_,_,.str ck,rfl,rfl,SqT.of (az _ _ hw),rfl,_,rfl,_,rfl,p,y,tr,l,rfl,hK.keepT az,hT,aq,ad,fun la Hz fz b7=>⟨la,_,rfl,.inl (SqL.of b7),rfl,zg0 _,_,rfl,?_⟩⟩;show if inV (.str ck) (l.map V.str)=true then _ else _
      rw[zj8];have tz:=Tup.of0 fz;have bw:=az.trans tz;have b8:FrS [so] H3 Hz:=fy.trans (fz.mono (fun _ h=>absurd h wz1));have bp:=fz _ _ wz1 ak;refine ite2 (fun c4=>?_) (fun c4=>?_)
      rotate_left
      .rw[zt8 hT ad]at c4;exists _,_,qj,rfl,b8,bp,fun q h=>(af q h).keep tz;rw[eF,vt2 c4,vr0,List.map_nil,vh4];exact a8
      have bc:ck∈l:=vb3 c4;rw[zt8 hT ad]at c4;obtain⟨r,er,_⟩:=zw2 hL hT hzz ad bc;have e5:ansF (kdOf ks tr) cd l=some r:=by
       unfold ansOf at er;rwa [yc1 hT ad]at er
      have c9:DeedsAt Hz p (kdOf ks tr):=co.keep ((b1.own b8 aj));refine⟨_,rfl,_,rfl,_,rfl,z.2,_,_,.str cd,rfl,rfl,SqT.of (bw _ _ hw),rfl,p,y,cd,r,kdOf ks tr,l,rfl,c9,by rw[bf];exact hT,by rw[bf];exact aq,by rw[bf];exact ad,e5,d2,fun Hv fv=>?_⟩;have tv:=Tup.of0 fv;refine⟨_,rfl,z.2,_,_,.str cd,rfl,rfl,SqT.of ((bw.trans tv) _ _ hw),rfl,s2,fun a9 d1=>?_⟩;have fn:FrS [] Hz (upd Hv a9 (.tup [V.str r,V.str cd])):=fv.trans (FrS.new d1);have ac:upd Hv a9 (.tup [V.str r,V.str cd]) a9=some (.tup [V.str r,V.str cd]):=zb1;generalize upd Hv a9 (.tup [V.str r,V.str cd])=Hw at fn ac;have tw:=tz.trans (Tup.of0 fn);have ao:=fn _ _ wz1 bp;have br:FrS [so] H3 Hw:=b8.trans (fn.mono (fun _ h=>absurd h wz1));exists _,rfl,_,rfl,a9,so,(r,cd),qj,rfl,rfl,SqT.of ac,.inl (SqL.of ao),BT.pd fun q h=>(af q h).keep tw,_,rfl;rw[Bool.true_xor];have eN:((kinds.take (j+1)).filter (below tr ck)).map (fun x=>((ansOf (kdOf ks tr) tr x cd).getD "",cd))=((kinds.take j).filter (below tr ck)).map (fun x=>((ansOf (kdOf ks tr) tr x cd).getD "",cd))++[(r,cd)]:=by
       rw[eF,vt3 c4,vr0,vf5,er,List.map_nil];rfl
      refine ite2 (fun c5=>?_) (fun c5=>?_)
      .have c5:(r,cd)∉qj.map (·.1):=by simpa using c5
       have tl:Tup Hw (upd Hw so (.lst ((qj.map fun q=>V.ref q.2)++[V.ref a9]))):=Tup.lst ao;exists _,rfl,.inl ⟨rfl,_,SqL.of ao⟩,_,rfl,so,_,_,rfl,rfl,ao,zb8 (by rw[lqm];lia);exists _,_,qj++[((r,cd),a9)],rfl,br.put' (.head _),by rw[zb1,wz9];rfl,fun q h=>?_
       .rcases vc4.mp h with h | h
        .exact(af q h).keep (tw.trans tl)
        .rw[vc7.mp h];exact .inl (tl _ _ ac)
       .rw[eN,zt6,<-a8,wz9];simp only[vd0 c5];rfl
      .have c5:(r,cd)∈qj.map (·.1):=by simpa using c5
       exists _,_,qj,rfl,br,ao,fun q h=>(af q h).keep tw;rw[eN,zt6,<-a8];simp only[vd3 c5]
     .rintro σ Hy ⟨b9,ay,qj,rfl,fy,ak,af,a8⟩;rw[lqm,vb2 (wz6 _),<-ch]at a8;have ty:=fy.tup1 ag;have bt:=zq6 (clL H (kdOf ks tr) tr kinds z.2) (qs.map (·.1));have cq:∀n∈clL H (kdOf ks tr) tr kinds z.2,n∈qj.map (·.1):=fun n h=>by rw[a8];exact(zg1 _ _ _).mpr (.inr h)
      have cr:MdOk H (kdOf ks tr) tr L ss (qj.map (·.1)) kinds:=by
       have h1:=md.call be a3;refine h1.perm ?_ (List.Perm.refl _);rw[a8];refine(vw6 (yj5 _ _ md.nc) h1.nc).mpr fun n=>?_;rw[zg1,zg1,zg1]
       constructor
       .exact fun h=>h.elim .inl fun h=>.inr (.inr h)
       .exact fun h=>h.elim .inl fun h=>h.elim (fun h=>nomatch h) .inr
      rw[<-a8,lqm,lqm]at bt;refine⟨_,_,_,_,_,qj,kinds,rfl,b1.own fy aj,tp.trans (t3.trans ty),fy _ _ (by simpa using cz) (f3 _ _ wz1 a5),ak,af,fy _ _ (by simpa using vj3 ap) (f3 _ _ wz1 hk),cr,by lia,fun e=>snoc (fun y hy=>?_) fun _=>⟨fun k hk=>absurd hk (am k),cq⟩⟩;have e1:=bt.2 (by lia);rw[e1];have el:↑qj=↑qs:=by have:=vg1 List.length e1;rwa [lqm,lqm]at this
      exact l2 (by rw[<-el];exact e) y hy
   .rintro σ Hy ⟨y7,y8,y9,d7,cj,a6,a0,rfl,ce,a9,au,cs,b6,cb,cf,d5,bs⟩;rw[lqm,bz]at bs;exists ⟨_,y7,y8,y9,d7,cj,a6,a0,rfl,ce,a9,au,cs,b6,cb,cf,d5,bs⟩;show(1000-((↑qs+↑kinds:Nat):Int)).toNat<(1000-m).toNat;lia
  .have e:((↑qs+↑kinds:Nat):Int)=m:=by
    cases h:decide (V.int m=V.int ((↑qs+↑kinds:Nat):Int))with
    | true=>exact(V.int.inj (vb3 h)).symm
    | false=>rw[h]at c;exact absurd rfl c
   have c1:=l2 e;rw[vb2 (wz6 _)]at c1;refine⟨_,rfl,so,qs,rfl,SqL.of hc,BT.pd hq,by lia,md.nc,fun la a6 b7 pq sq=>⟨la,_,rfl,.inl ⟨SqL.of zb1,fun ca c8=>?_⟩⟩⟩;have fA:FrS [] Hx (upd (upd Hx la (.lst (a6.map fun q=>V.ref q.2))) ca (.tup (a6.map fun q=>V.ref q.2))):=(FrS.new b7).trans (FrS.new c8);have bj:upd (upd Hx la (.lst (a6.map fun q=>V.ref q.2))) ca (.tup (a6.map fun q=>V.ref q.2)) ca=some (.tup (a6.map fun q=>V.ref q.2)):=zb1;generalize upd (upd Hx la (.lst (a6.map fun q=>V.ref q.2))) ca (.tup (a6.map fun q=>V.ref q.2))=HA at fA bj;refine⟨_,rfl,kn,kinds,rfl,SqL.of (fA _ _ wz1 hk),by lia,fun lb a0 cv pk sk=>⟨lb,_,rfl,.inl ⟨SqL.of zb1,fun ka d4=>⟨s2,fun r au=>?_⟩⟩⟩⟩;have fB:FrS [] HA (upd (upd HA lb (.lst (a0.map V.str))) ka (.tup (a0.map V.str))):=(FrS.new cv).trans (FrS.new d4);have bn:upd (upd HA lb (.lst (a0.map V.str))) ka (.tup (a0.map V.str)) ka=some (.tup (a0.map V.str)):=zb1;generalize upd (upd HA lb (.lst (a0.map V.str))) ka (.tup (a0.map V.str))=HB at fB bn au;have fC:FrS [] HB (upd HB r (.tup [V.ref ca,V.ref ka])):=FrS.new au;have fx:=fA.trans (fB.trans fC);refine q r a6 a0 _ (fr.trans fx) ⟨ca,ka,zb1,(fB.trans fC) _ _ wz1 bj,fun q b6=>(hq q (pq.mem_iff.mp b6)).keep (Tup.of0 fx),fC _ _ wz1 bn,md.perm (pq.map _) pk,fun y hy=>(c1 y hy).perm (pq.map _) pk,sk,sq⟩
 .intro σ Hx R R' hR hc;obtain⟨v1,h1,v2,h2,a1,q1,e1,e2,v3,h3,a2,k2,e3,e4,i1,j1,e5,e6,e7,b,e9,hq⟩:=hc;exact⟨v1,h1,v2,h2,a1,q1,e1,e2,v3,h3,a2,k2,e3,e4,i1,j1,e5,e6,e7,b,e9,hR _ _ hq⟩
end
abbrev sLaw:Stmt:=top 43
inductive SpLaw(K:Fg)(vs:List V)(H:Hp)(Q:VK):Prop
 | mk(a:Addr)(ns:List Int)(h1:vs=[.ref a])(h2:SqL K H a (ns.map V.int))(h3:↑ns<=63)(h4:∀H',Q (.bl true) H'):SpLaw K vs H Q
def wd9(K:Fg):Sp:=fun vs H Q _=>SpLaw K vs H Q
def leS(a b:Str):Prop:=a.cps.toList<=b.cps.toList
def wh5(h:(!PySem.Spec.ltCps b.cps.toList a.cps.toList)=true):leS a b:=by
 rw[PyProof.Rows.ltCps_eq]at h;unfold leS;exact List.not_lt.mp (by simpa using h)
def wf6(h:leS a b)(g:leS b a):a=b:=by
 have e:=List.le_antisymm h g;cases a with | mk x=>cases b with | mk y=>exact vg1 Str.mk (Array.toList_inj.mp e)
def ys5:∀{l:List Str}{p:Str},PyProof.Rows.risingS p l=true->(p::l).Pairwise leS
 | [],_,_=>List.pairwise_singleton _ _
 | x::r,p,h=>by
  unfold PyProof.Rows.risingS at h;rw[vp4]at h;have h2:=ys5 h.2;refine List.Pairwise.cons (fun y hy=>?_) h2;rcases vb4.mp hy with rfl | hy
  .exact wh5 h.1
  .exact List.le_trans (wh5 h.1) ((List.pairwise_cons.mp h2).1 y hy)
def yp3(h:PyProof.Rows.sortedS l=true):l.Pairwise leS:=by
 cases l with
 | nil=>exact .nil
 | cons x r=>exact ys5 h
def Sat.keep(f:Tup H H')(hr:RowIs Z H q.2):Sat H' kd tr ts come kinds q↔Sat H kd tr ts come kinds q:=by
 obtain⟨e1,e2⟩:=yn6 (ts:=ts) (kd:=kd) (tr:=tr) (ss:=kinds) hr f;unfold Sat;rw[e1,e2]
def xq9(f:Tup H H')(hI:∀q∈L,RowIs Z H q.2)(md:MdOk H kd tr L ss come kinds)(a5:∀q∈L,Sat H kd tr ss come kinds q)(so:PyProof.Rows.sortedS kinds=true)(a0:MdOk H' kd tr L ss come' kinds')(a3:∀q∈L,Sat H' kd tr ss come' kinds' q)(a4:PyProof.Rows.sortedS kinds'=true):(∀n,n∈come'↔n∈come)/\kinds'=kinds:=by
 obtain⟨a1,a2⟩:=md.ls come' kinds' a0.m0 fun q hq=>(Sat.keep f (hI q hq)).mp (a3 q hq);obtain⟨b1,b2⟩:=a0.ls come kinds md.m0 fun q hq=>(Sat.keep f (hI q hq)).mpr (a5 q hq);exact⟨fun n=>⟨b1 n,a1 n⟩,List.Perm.eq_of_pairwise (fun _ _ _ _ a b=>wf6 a b) (yp3 a4) (yp3 so) ((vw6 a0.nk md.nk).mpr fun k=>⟨b2 k,a2 k⟩)⟩
def xz2{qs a0:List (Pr×Addr)}(s:qs.Pairwise (fun a b=>pLt b.1 a.1=false))(s':a0.Pairwise (fun a b=>pLt b.1 a.1=false))(n:(qs.map (·.1)).Nodup)(n':(a0.map (·.1)).Nodup)(e:∀x,x∈a0.map (·.1)↔x∈qs.map (·.1)):a0.map (·.1)=qs.map (·.1):=
 List.Perm.eq_of_pairwise (le:=fun a b=>pLt b a=false) (fun _ _ _ _ a b=>yt6 b a) (vn4.mpr s') (vn4.mpr s) ((vw6 n' n).mpr e)
def xn8:∀ss:List Str,A2 (Sm K H 1) (ss.map V.str) (ss.map V.str)
 | []=>.nil
 | s::ss=>.cons (.inl (.inl ⟨s,rfl,rfl⟩)) (xn8 ss)
def sm_qs:∀{qs a0:List (Pr×Addr)},a0.map (·.1)=qs.map (·.1)->(∀q∈a0,BT K H q.2 q.1)->(∀q∈qs,BT K H q.2 q.1)->A2 (Sm K H 1) (a0.map fun q=>V.ref q.2) (qs.map fun q=>V.ref q.2)
 | [],[],_,_,_=>.nil
 | [],_::_,h,_,_=>by simp at h
 | _::_,[],h,_,_=>by simp at h
 | q::qs,q'::a0,h,h1,h2=>by
  obtain⟨e,es⟩:=List.cons.inj (show q'.1::a0.map (·.1)=q.1::qs.map (·.1) from h);have b:=h1 q' (.head _);rw[e]at b;exact .cons (.inr ⟨q'.2,q.2,_,_,rfl,rfl,b,h2 q (.head _),.cons (.inl ⟨_,rfl,rfl⟩) (.cons (.inl ⟨_,rfl,rfl⟩) .nil),by show 2<=1000000;decide⟩) (sm_qs es (fun x hx=>h1 x (.tail _ hx)) fun x hx=>h2 x (.tail _ hx))
inductive LawI(K:Fg)(a:Addr)(ns:List Int)(i:Nat)(σ:St)(Hx:Hp):Prop
 | mk(x1 x2 x3 x4 x5 x6:Option V)(h1:σ=[some (.ref a),x1,x2,x3,x4,x5,x6])(h2:SqL K Hx a (ns.map V.int)):LawI K a ns i σ Hx
inductive TuI(K:Fg)(H0 H1:Hp)(a hd p:Addr)(kx:V)(t0:Int)(i:Nat)(σ:St)(Hx:Hp):Prop
 | mk(x4 x5 x6:Option V)(d m t r:Int)(h1:σ=[some (.ref a),some kx,some (.ref hd),some (.ref p),x4,x5,x6])(kp:∀b o,H0 b=some o->Hx b=some o)(tp:Tup H1 Hx)(hh:Hand Hx hd d m t r)(ht:t<=t0+20*(i:Int)):TuI K H0 H1 a hd p kx t0 i σ Hx
def yw1:zd0 ["_law_script","_law_k",qH,"_law_program_here","_law_turn","_law_there_here","_law_due"] ["_law_script"] (zc1 sLaw):=fsc
def ok_law(F:Fun K "law" "law" sLaw f fd)(HN:Cal P w K mg base k "_law_hand" ["_law_script","_law_k"] (xx8 K))(PR:Cal P w K mg base k "_law_program" [qH,"_law_most"] xn0)(O:Cal P w K mg base k "_law_of" qC (spOf K))(TH:Cal P w K mg base k "_law_there" xw5 yv9)(DU:Cal P w K mg base k "_law_reach" xj4 (yh6 K))(SA:Cal P w K mg base k "_law_same" yk9 (spSm K 3))(BY:Cal P w K mg base k "made_paper" wp8 (yh6 K))(ml:mg "len"=none)(mr:mg "range"=none)(mx:mg "max"=none)(mn:mg "min"=none):FnOk P w K mg base CX0 (k+1) f fd ["_law_script"] (wd9 K):=by
 refine F.ok yw1 (fun vs H Q E h=>?_) (fun ay A outer s H vs Q E hr h=>?_)
 .obtain⟨a,ns,rfl,_⟩:=h;rfl
 obtain⟨a,ns,rfl,hS,b9,q⟩:=h;have b3:(A.deeper (PyProof.Rows.envOfC "law" (zc1 sLaw) s⁻¹ f ay)).units+2+1<cLine:=by have:=hr.units;lia
 exists _,zb3 (zf9 vd5 rfl (zm2 rfl mr (zb0 (zc5 (xm2 rfl) rfl mx (by rfl') (zb0 zb6 (zb0 (zc5 (xq5 rfl) rfl mn (by rfl') (zb0 (zc5 zd5 rfl ml vg7 (zb0 (pv 0) zb2)) (zb0 zb6 zb2))) zb2))) zb2)) (gL 1 yw1.nd)
   (zb3 (sL 2 yw1.nd (zb9 HN hr rfl (zb0 (pv 0) (zb0 (pv 1) zb2))))
   (zb3 (sL 3 yw1.nd (zb9 PR hr rfl (zb0 (pv 2) (zb0 (zb9 O hr rfl (zb0 (pv 2) (zb0 (zd7 (zf3 (zf3 (zf3 zb2)))) zb2))) zb2))))
   (zb7 (zf9 vd5 rfl (zm2 rfl mr (zb0 zb6 zb2)) (gL 4 yw1.nd)
    (zb3 (sL 5 yw1.nd (zb9 TH hr rfl (zb0 (pv 2) (zb0 (pv 3) zb2))))
    (zb3 (sL 6 yw1.nd (zb9 DU hr rfl (zb0 (pv 3) (zb0 (pv 5) zb2))))
    (zb7 (zg8 (PW.pt (xh7 (wj7 (zx4 (zb9 SA hr rfl (zb0 (zb9 BY hr rfl (zb0 (pv 3) (zb0 (pv 5) zb2))) (zb0 (pv 6) zb2))))) (yh3 (zc2 (op_neD (n:=2) b3) (zb9 BY hr rfl (zb0 (pv 3) (zb0 (pv 5) zb2))) (pv 6) (zd6 _))))) (zb7 (zd1 xg8)) zd4)))))))))
  (zb7 (zd1 xg8))
 ac_rfl
 have s3:3<=sizeLine:=vb5 (zb8 (by decide));exists _,rfl,a,_,rfl,.inl hS,_,_,rfl,_,_,rfl;obtain⟨nk,aw,bk⟩:∃nk:Int,(if (if (4:Int)<((↑(ns.map V.int):Nat):Int) then(4:Int) else((↑(ns.map V.int):Nat):Int)) > 1 then(if (4:Int)<((↑(ns.map V.int):Nat):Int) then(4:Int) else((↑(ns.map V.int):Nat):Int)) else 1)=nk/\nk<=4/\1<=nk:=by
  exists _,rfl,?_
  .split <;> (try split) <;> lia
  .split <;> (try split) <;> lia
 rw[aw];refine⟨nk,rfl,by lia,by lia,?_⟩;refine zp2 (lo:=0) (n:=nk.toNat) (LawI K a ns) ⟨_,_,_,_,_,_,rfl,hS⟩ ?_ (fun σ Hx _=>q Hx);rintro i σ Hx hi ⟨x1,x2,x3,x4,x5,x6,rfl,ah⟩;refine⟨_,rfl,_,rfl,a,ns,i,by rw[Int.zero_add];rfl,ah,b9,by lia,fun hd d m al hok=>?_⟩;generalize V.int (0+(i:Nat))=b7;have ag:Hand (upd Hx hd (hl d m 0 0)) hd d m 0 0:=Hand.at hok;refine⟨_,rfl,_,rfl,s3,fun pi a3=>?_⟩;have a0:pi≠hd:=fun z=>by rw[z,ag.1]at a3;cases a3
 have au:Hand (upd (upd Hx hd (hl d m 0 0)) pi (.lst [V.int 12,V.int 30,V.int 80])) hd d m 0 0:=⟨by rw[zb5 (vj3 a0)];exact ag.1,ag.2⟩;refine⟨hd,pi,d,m,0,0,_,rfl,au,by decide,a0,SqL.of zb1,by simp,by show 3<1000;decide,fun y db mb tb hy cb eb=>?_⟩;obtain⟨mo,rfl,b8⟩:∃mo:Int,y=.int mo/\0<=mo/\mo<=80:=by
  simp only[vb4,wz1,vj2]at hy;rcases hy with rfl | rfl | rfl
  .exact⟨12,rfl,by decide,by decide⟩
  .exact⟨30,rfl,by decide,by decide⟩
  .exact⟨80,rfl,by decide,by decide⟩
 have a7:Hx pi=none:=by rw[zb5 a0]at a3;exact a3
 refine⟨hd,mo,db,mb,tb,0,rfl,b8,Hand.at cb,by lia,fun p ks m0 tr Z H1 d1 m1 t1 r1 f1 hP hK hT a1 hL hN hh ht=>?_⟩;have k1:∀b o,Hx b=some o->H1 b=some o:=fun b o e=>by
  have nb:b≠hd:=zb4 e al;have np:b≠pi:=zb4 e a7;refine f1 b o (by simpa using nb) ?_;rw[zb5 nb,zb5 np,zb5 nb];exact e
 have hI:=zz6 hP.rows;have ax:=zn1 hP.rows;have ai:=hP.many;refine⟨3,rfl,by decide,by decide,?_⟩;refine zp2 (lo:=0) (n:=(3:Int).toNat) (TuI K Hx H1 a hd p b7 t1) ⟨_,_,_,d1,m1,t1,r1,rfl,k1,(fun _ _ h=>h),hh,by lia⟩ ?_ ?_
 .rintro j σ Hy hj ⟨_,_,_,dy,my,ty,ry,rfl,kp,tp,ac,b5⟩;have bi:j<3:=hj;refine⟨_,rfl,_,rfl,hd,p,dy,my,ty,ry,tr,rfl,ac,by lia,hK.keepT tp,hT,a1,hL.keep tp,fun aa ss H2 d2 m2 t2 f2 ad a5 hU bj ak bl=>?_⟩;have a9:Tup H1 H2:=tp.trans (f2.tup1 ac.1);have b0:∀b o,Hx b=some o->H2 b=some o:=fun b o e=>f2 b o (by simpa using zb4 e al) (kp b o e)
  have a4:=hP.keep a9;have ab:=hK.keepT a9;have am:=zz6 a4.rows;refine⟨_,rfl,_,rfl,p,aa,ks,m0,tr,ss,Z,rfl,a4,ab,hT,a1,hN,ad,hU,a5,fun bd c3 k3 H3 f3 ⟨cd,b4,b1,av,bg,ap,af,a8,bf,be⟩=>?_⟩;have t3:=Tup.of0 f3;obtain⟨az,bh⟩:=af.few hN hT a1 am a5 hU;rw[lqm]at az;have again:∀{H4 H5:Hp}{bb:Addr}{c4:List (Pr×Addr)}{k4:List Str},Tup H2 H4->Tup H3 H5->MdIs K H4 H5 bb (kdOf ks tr) tr (zj3 (zh3 ks m0)) ss c4 k4->SmT K H5 (Sm K H5 2) (.ref bb) (.ref bd):=fun {H4 H5 bb c4 k4} t4 t5 ⟨cb,kb,as,ar,ba,ao,aj,ae,b2,an⟩=>by
   obtain⟨e1,rfl⟩:=xq9 t4 am af a8 bf aj ae b2;have e2:=xz2 be an af.nc aj.nc e1;have e3:=vg1 List.length e2;rw[lqm,lqm]at e3;exact⟨bb,bd,_,_,rfl,rfl,.inl as,.inl (t5 _ _ b1),.cons (.inr ⟨cb,cd,_,_,rfl,rfl,.inl ar,.inl (t5 _ _ av),sm_qs e2 ba fun q h=>(bg q h).keep t5,by rw[lqm];lia⟩) (.cons (.inr ⟨kb,b4,_,_,rfl,rfl,.inl ao,.inl (t5 _ _ ap),xn8 _,by rw[lqm];lia⟩) .nil),by show 2<=1000000;decide⟩
  refine⟨_,rfl,_,rfl,p,aa,ks,m0,tr,ss,Z,rfl,a4.keep t3,ab.keepT t3,hT,a1,hN,t3 _ _ ad,hU,a5,fun bb c4 k4 H4 f4 aq=>?_⟩;have t4:=Tup.of0 f4;refine⟨_,rfl,.ref bb,.ref bd,rfl,.inr (again t3 t4 aq),fun H5 f5=>⟨_,rfl,?_⟩⟩;have t5:=Tup.of0 f5;have a2:=t3.trans (t4.trans t5);refine⟨_,rfl,_,rfl,p,aa,ks,m0,tr,ss,Z,rfl,a4.keep a2,ab.keepT a2,hT,a1,hN,a2 _ _ ad,hU,a5,fun bc c6 k6 H6 f6 b6=>?_⟩;have t6:=Tup.of0 f6;exists _,rfl,again a2 ((t4.trans t5).trans t6) b6,_,rfl;have a6:=((f3.trans f4).trans f5).trans f6;exact⟨_,_,_,d2,m2,t2,ry,rfl,fun b o e=>a6 b o wz1 (b0 b o e),a9.trans (Tup.of0 a6),⟨a6 _ _ wz1 ak.1,ak.2⟩,by lia⟩
 .rintro σ Hy ⟨_,_,_,dy,my,ty,ry,rfl,kp,tp,ac,b5⟩;exact⟨_,_,_,_,_,_,rfl,ww4 ah kp⟩
section
variable{k:Nat}{nm:Str}{st:Stmt}{ps:List Str}{sp:Sp}
inductive Fx(K:Fg)(nm:Str)(st:Stmt):Prop
 | mk {f:Addr} {od an:Option Addr} {sl:Array (Option Value)} {oc kV dc pm cd ct:Value} (a:PySem.W.nsIn K mainGlobals nm=some (some (.ref f))) (l:K.lookup f=some ⟨oc,od,.func (PySem.W.fnOf nm nm (zr5 st) (zg6 st) (zc1 st) .none kV dc pm an cd ct),sl⟩) (c:PySem.W.codeIn K cd nm=true) (k:PySem.W.keepIn K (.ref f)=true):Fx K nm st
structure Fy(K:Fg)(mg:Str->Option Value)(nm:Str)(st:Stmt)(ps:List Str)(f:Addr)(fd:FuncData):Prop where
 F:Fun K nm nm st f fd
 b:Binds K fd ps []
 k:PySem.W.keepIn K (.ref f)=true
 m:mg nm=some (.ref f)
def Fx.y{h:Heap}(p:Fx K nm st)(X:K.In h)(G:h.Ns mainGlobals mg)(hb:∀(kV a0 pm:Value)(an:Option Addr)(a1 ct:Value)(us:List Value),↑us=↑ps->bindArgs (PySem.W.fnOf nm nm (zr5 st) (zg6 st) (zc1 st) .none kV a0 pm an a1 ct) ⟨us,[]⟩=pure (ps.zip us)):∃f fd,Fy K mg nm st ps f fd:=by
 obtain⟨a,l,c,k⟩:=p;have F:=wj2 (st:=st) l c k;exact⟨_,_,F,F.binds hb,k,PySem.W.mg_of X G a⟩
def Fy.c(y:Fy K mg nm st ps f fd)(h:FnOk P w K mg base CX0 k f fd ps sp):Cal P w K mg base k nm ps sp:=⟨f,fd,h,y.b,y.k,y.m⟩
def ln1{P:List Value->Prop}(h:∀a,P [a])(us:List Value)(hl:↑us=1):P us:=match us,hl with | [a],_=>h a
def ln2{P:List Value->Prop}(h:∀a b,P [a,b])(us:List Value)(hl:↑us=2):P us:=match us,hl with | [a,b],_=>h a b
def ln3{P:List Value->Prop}(h:∀a b c,P [a,b,c])(us:List Value)(hl:↑us=3):P us:=match us,hl with | [a,b,c],_=>h a b c
def ln4{P:List Value->Prop}(h:∀a b c d,P [a,b,c,d])(us:List Value)(hl:↑us=4):P us:=match us,hl with | [a,b,c,d],_=>h a b c d
def ln5{P:List Value->Prop}(h:∀a b c d e,P [a,b,c,d,e])(us:List Value)(hl:↑us=5):P us:=match us,hl with | [a,b,c,d,e],_=>h a b c d e
def ln6{P:List Value->Prop}(h:∀a b c d e f,P [a,b,c,d,e,f])(us:List Value)(hl:↑us=6):P us:=match us,hl with | [a,b,c,d,e,f],_=>h a b c d e f
def wg0(F:Fun K "_law_rows" "_law_rows" wg3 f fd):FnOk P w K mg base CX0 (k+1) f fd yg7 (yf0 0):=F.ok xb3 (fun _ _ _ _ h=>h.elim) fun _ _ _ _ _ _ _ _ _ h=>h.elim
def xv0(F:Fun K "_law_flat" "_law_flat" wb0 f fd):FnOk P w K mg base CX0 (k+1) f fd pLis (yr6 0):=F.ok zv2 (fun _ _ _ _ h=>h.elim) fun _ _ _ _ _ _ _ _ _ h=>h.elim
def xt7(F:Fun K "lay" "lay" sLay f fd):FnOk P w K mg base CX0 (k+1) f fd pLay (xp7 0):=F.ok xx3 (fun _ _ _ _ h=>h.elim) fun _ _ _ _ _ _ _ _ _ h=>h.elim
end
def xv7{K:Fg}{a:Addr}{od:Option Addr}{x y:Str}{t1 t2 n:Nat}{sl:Array (Option Value)}(l:K.lookup a=some ⟨.type "tuple",od,.seq #[.str x t1,.str y t2] n,sl⟩)(H:Hp):SqT K H a [.str x,.str y]:=
 .inr ⟨_,_,_,l,rfl,rfl,sz9 rfl,.cons ⟨_,rfl⟩ (.cons ⟨_,rfl⟩ .nil)⟩
def all_mk{l:PySem.W.OpenLaw}{w:World}{K:Fg}{h:Heap}{mg:Str->Option Value}{fa:Addr}(X:K.In h)(G:h.Ns mainGlobals mg)(bm:mg "law"=some (.ref fa))
  {am ah:Addr} {bx bz:Option Addr} {bs bq:Array (Option Value)} {b2 b3 nm bl b1 nh:Nat}
  (p1:Fx K "elders" yv7)
  (p2:Fx K "is_below" xm5)
  (p3:Fx K "all_below" wq1)
  (p4:Fx K "deed_of" yw8)
  (p5:Fx K "answer" yz1)
  (p6:Fx K "bodies" yw5)
  (p7:Fx K "rows_within" yx3)
  (p8:Fx K "lay" sLay)
  (p9:Fx K "numbered" wx4)
  (c0:Fx K "kinds_by" yk2)
  (c5:Fx K "bodies_by" yf4)
  (c7:Fx K "made_paper" wr0)
  (bw:Fx K "_law_hand" wv8)
  (bc:Fx K "_law_take" wt0)
  (be:Fx K "_law_of" sOf)
  (c1:Fx K "_law_words" zs5)
  (c2:Fx K "_law_tree" wt5)
  (bv:Fx K "_law_world" zx6)
  (bp:Fx K "_law_line" ww3)
  (b5:Fx K "_law_has" sHas)
  (b6:Fx K "_law_variable" sVar)
  (bn:Fx K "_law_target" sTgt)
  (bd:Fx K "_law_make" ws2)
  (bo:Fx K "_law_args" ww9)
  (c4:Fx K "_law_call" ww1)
  (ba:Fx K "_law_field" xk5)
  (bt:Fx K "_law_row" sRow)
  (bk:Fx K "_law_rows" wg3)
  (c6:Fx K "_law_deed" wn7)
  (bg:Fx K "_law_program" wp4)
  (br:Fx K "_law_there" xm3)
  (b9:Fx K "_law_flat" wb0)
  (b4:Fx K "_law_numbered" wx0)
  (c3:Fx K "_law_up" sUp)
  (bi:Fx K "_law_finds" xk3)
  (bh:Fx K "_law_reach" xv5)
  (bj:Fx K "_law_same" xr9)
  (bf:Fx K "law" sLaw)
  (aM:PySem.W.nsIn K mainGlobals "MAIN"=some (some (.ref am))) (lM:K.lookup am=some ⟨.type "tuple",bx,.seq #[.str "" b2,.str "" b3] nm,bs⟩)
  (aH:PySem.W.nsIn K mainGlobals "HOLDERS"=some (some (.ref ah))) (lH:K.lookup ah=some ⟨.type "tuple",bz,.seq #[.str "either" bl,.str "again" b1] nh,bq⟩)
  (z:∀x∈(["len","abs","int","range","tuple","dict","list","any","zip","enumerate","sorted","max","min","reversed","all","isinstance","bool","str"]:List Str),PySem.W.nsIn K mainGlobals x=some none):
  ∃fd:FuncData,(∀(s:Shared)(v:Value),BindsTo s fd ⟨[v],[]⟩ [("_law_script",v)])/\∀base:Heap,K.In base->base.Ns mainGlobals mg->FnOk l.prog w K mg base CX0 65 fa fd ["_law_script"] (wd9 K):=by
 have mM:=PySem.W.mg_of X G aM;have mH:=PySem.W.mg_of X G aH;obtain⟨_,_,y1⟩:=p1.y (ps:=["program","kind"]) X G fun _ _ _ _ _ _=>ln2 fun _ _=>rfl;obtain⟨_,_,y2⟩:=p2.y (ps:=["program","one","other"]) X G fun _ _ _ _ _ _=>ln3 fun _ _ _=>rfl;obtain⟨_,_,y3⟩:=p3.y (ps:=["program","kinds","other"]) X G fun _ _ _ _ _ _=>ln3 fun _ _ _=>rfl;obtain⟨_,_,y4⟩:=p4.y (ps:=["program","kind","deed"]) X G fun _ _ _ _ _ _=>ln3 fun _ _ _=>rfl;obtain⟨_,_,y5⟩:=p5.y (ps:=["program","kind","deed"]) X G fun _ _ _ _ _ _=>ln3 fun _ _ _=>rfl;obtain⟨_,_,y6⟩:=p6.y (ps:=["program"]) X G fun _ _ _ _ _ _=>ln1 fun _=>rfl;obtain⟨_,_,y7⟩:=p7.y (ps:=["row"]) X G fun _ _ _ _ _ _=>ln1 fun _=>rfl;obtain⟨_,_,y8⟩:=p8.y (ps:=["body","rows","found"]) X G fun _ _ _ _ _ _=>ln3 fun _ _ _=>rfl;obtain⟨_,_,y9⟩:=p9.y (ps:=["program"]) X G fun _ _ _ _ _ _=>ln1 fun _=>rfl;obtain⟨_,_,ax⟩:=c0.y (ps:=["there","row"]) X G fun _ _ _ _ _ _=>ln2 fun _ _=>rfl;obtain⟨_,_,a9⟩:=c5.y (ps:=["program","kinds","row"]) X G fun _ _ _ _ _ _=>ln3 fun _ _ _=>rfl;obtain⟨_,_,au⟩:=c7.y (ps:=["program","there"]) X G fun _ _ _ _ _ _=>ln2 fun _ _=>rfl;obtain⟨_,_,aa⟩:=bw.y (ps:=["_law_script","_law_k"]) X G fun _ _ _ _ _ _=>ln2 fun _ _=>rfl;obtain⟨_,_,ac⟩:=bc.y (ps:=["_law_hand_here","_law_many"]) X G fun _ _ _ _ _ _=>ln2 fun _ _=>rfl;obtain⟨_,_,a6⟩:=be.y (ps:=["_law_hand_here","_law_some"]) X G fun _ _ _ _ _ _=>ln2 fun _ _=>rfl;obtain⟨_,_,ak⟩:=c1.y (ps:=["_law_hand_here","_law_many"]) X G fun _ _ _ _ _ _=>ln2 fun _ _=>rfl;obtain⟨_,_,a5⟩:=c2.y (ps:=["_law_hand_here"]) X G fun _ _ _ _ _ _=>ln1 fun _=>rfl;obtain⟨_,_,ao⟩:=bv.y (ps:=["_law_hand_here"]) X G fun _ _ _ _ _ _=>ln1 fun _=>rfl;obtain⟨_,_,a4⟩:=bp.y (ps:=["_law_world_here","_law_kind"]) X G fun _ _ _ _ _ _=>ln2 fun _ _=>rfl;obtain⟨_,_,aq⟩:=b5.y (ps:=["_law_world_here","_law_kind","_law_deed_here"]) X G fun _ _ _ _ _ _=>ln3 fun _ _ _=>rfl;obtain⟨_,_,ad⟩:=b6.y (ps:=["_law_hand_here","_law_world_here","_law_env"]) X G fun _ _ _ _ _ _=>ln3 fun _ _ _=>rfl;obtain⟨_,_,ai⟩:=bn.y (ps:=["_law_hand_here","_law_world_here","_law_env"]) X G fun _ _ _ _ _ _=>ln3 fun _ _ _=>rfl;obtain⟨_,_,ap⟩:=bd.y (ps:=["_law_hand_here","_law_world_here","_law_env"]) X G fun _ _ _ _ _ _=>ln3 fun _ _ _=>rfl;obtain⟨_,_,aw⟩:=bo.y (ps:=["_law_hand_here","_law_world_here","_law_env","_law_above","_law_deed_here"]) X G fun _ _ _ _ _ _=>ln5 fun _ _ _ _ _=>rfl;obtain⟨_,_,aj⟩:=c4.y (ps:=["_law_hand_here","_law_world_here","_law_env","_law_level"]) X G fun _ _ _ _ _ _=>ln4 fun _ _ _ _=>rfl;obtain⟨_,_,ab⟩:=ba.y (ps:=["_law_hand_here","_law_world_here","_law_env"]) X G fun _ _ _ _ _ _=>ln3 fun _ _ _=>rfl;obtain⟨_,_,a7⟩:=bt.y (ps:=["_law_hand_here","_law_world_here","_law_env","_law_level","_law_deep"]) X G fun _ _ _ _ _ _=>ln5 fun _ _ _ _ _=>rfl;obtain⟨_,_,a0⟩:=bk.y (ps:=["_law_hand_here","_law_world_here","_law_env","_law_level","_law_deep","_law_most"]) X G fun _ _ _ _ _ _=>ln6 fun _ _ _ _ _ _=>rfl;obtain⟨_,_,ae⟩:=c6.y (ps:=["_law_hand_here","_law_world_here","_law_kind","_law_level"]) X G fun _ _ _ _ _ _=>ln4 fun _ _ _ _=>rfl;obtain⟨_,_,ar⟩:=bg.y (ps:=["_law_hand_here","_law_most"]) X G fun _ _ _ _ _ _=>ln2 fun _ _=>rfl;obtain⟨_,_,af⟩:=br.y (ps:=["_law_hand_here","_law_program_here"]) X G fun _ _ _ _ _ _=>ln2 fun _ _=>rfl;obtain⟨_,_,a1⟩:=b9.y (ps:=["_law_rows_here"]) X G fun _ _ _ _ _ _=>ln1 fun _=>rfl;obtain⟨_,_,ay⟩:=b4.y (ps:=["_law_program_here"]) X G fun _ _ _ _ _ _=>ln1 fun _=>rfl;obtain⟨_,_,as⟩:=c3.y (ps:=["_law_program_here","_law_kind"]) X G fun _ _ _ _ _ _=>ln2 fun _ _=>rfl;obtain⟨_,_,av⟩:=bi.y (ps:=["_law_program_here","_law_kind","_law_deed_here"]) X G fun _ _ _ _ _ _=>ln3 fun _ _ _=>rfl;obtain⟨_,_,az⟩:=bh.y (ps:=["_law_program_here","_law_there_here"]) X G fun _ _ _ _ _ _=>ln2 fun _ _=>rfl;obtain⟨_,_,a2⟩:=bj.y (ps:=["_law_found","_law_due"]) X G fun _ _ _ _ _ _=>ln2 fun _ _=>rfl;have zz:∀x∈(["len","abs","int","range","tuple","dict","list","any","zip","enumerate","sorted","max","min","reversed","all","isinstance","bool","str"]:List Str),mg x=none:=fun x hx=>PySem.W.mg_none_of X G (z x hx);simp only[List.forall_mem_cons]at zz;obtain⟨z1,z2,z3,z4,z5,z6,z7,z8,z9,ag,a3,bu,bb,b8,b7,a8,al,b0,_⟩:=zz;obtain @⟨_,_,an,_,_,kV,dc,pm,cd,ct,a,ll,c,kk⟩:=bf;cases bm.symm.trans (PySem.W.mg_of X G a);refine⟨PySem.W.fnOf "law" "law" (zr5 sLaw) (zg6 sLaw) (zc1 sLaw) .none kV dc pm an cd ct,fun s v=>.of_eq rfl,fun base _ _=>?_⟩;have Tk:∀k:Nat,Cal l.prog w K mg base (k+1) _ _ zh6:=fun k=>ac.c (wr9 ac.F);have Of:∀k:Nat,Cal l.prog w K mg base (k+2) _ _ (spOf K):=fun k=>a6.c (ok_of a6.F (Tk k) z1);have Wd:∀k:Nat,Cal l.prog w K mg base (k+2) _ _ yj8:=fun k=>ak.c (wc4 ak.F (Tk k) z1 z4 z3);have Tr:∀k:Nat,Cal l.prog w K mg base (k+3) _ _ xm6:=fun k=>a5.c (wn6 a5.F (Tk (k+1)) (Of k) (Wd k) z1 ag);have Wo:∀k:Nat,Cal l.prog w K mg base (k+4) _ _ yx9:=fun k=>ao.c (wf5 ao.F (Tk (k+2)) (Of (k+1)) (Wd (k+1)) (Tr k) z6 z4 z3);have Li:∀k:Nat,Cal l.prog w K mg base (k+1) _ _ yp9:=fun k=>a4.c (wq7 a4.F z6);have Ha:∀k:Nat,Cal l.prog w K mg base (k+2) _ _ wt7:=fun k=>aq.c (ok_has aq.F (Li k) z8);have Va:∀k:Nat,Cal l.prog w K mg base (k+3) _ _ ys0:=fun k=>ad.c (ok_var ad.F (Tk (k+1)) (Of k) z7);have Tg:∀k:Nat,Cal l.prog w K mg base (k+3) _ _ yv2:=fun k=>ai.c (ok_tgt ai.F (Of k));have Ma:∀k:Nat,Cal l.prog w K mg base (k+4) _ _ xd3:=fun k=>ap.c (wr6 ap.F (Tk (k+2)) (Of (k+1)) (Tg k));have Ar:∀k:Nat,Cal l.prog w K mg base (k+4) _ _ xk2:=fun k=>aw.c (wv6 aw.F (Tk (k+2)) (Of (k+1)) (Va k) (Li (k+2)) z5);have Ca:∀k:Nat,Cal l.prog w K mg base (k+5) _ _ ys1:=fun k=>aj.c (wn8 aj.F (Tk (k+3)) (Of (k+2)) (Va (k+1)) (Li (k+3)) (Tg (k+1)) (Ha (k+2)) (Ma k) (Ar k));have Fi:∀k:Nat,Cal l.prog w K mg base (k+4) _ _ yx1:=fun k=>ab.c (wf3 ab.F (Tk (k+2)) (Of (k+1)) (Va k) (Tg k));have Rn:∀k:Nat,Cal l.prog w K mg base (k+1) _ _ (yf0 0):=fun k=>a0.c (wg0 a0.F);have Row:∀(n k:Nat),Cal l.prog w K mg base (k+5) "_law_rows" yg7 (yf0 n)->Cal l.prog w K mg base (k+6) "_law_row" pRow (ws8 n):=fun n k R=>a7.c (ok_row a7.F (Tk (k+4)) (Of (k+3)) (Va (k+2)) (Tg (k+2)) (Ma (k+1)) (Fi (k+1)) (Ca k) R z4 z1 z5);have Rows:∀(n k:Nat),Cal l.prog w K mg base (k+7+2*n) "_law_rows" yg7 (yf3 n):=by
  intro n
  induction n with
  | zero=>intro k;exact a0.c (xt5 a0.F (Tk (k+5)) (Row 0 k (Rn (k+4))) z4 z5)
  | succ n ih=>
   intro k;have R1:=Row (n+1) (k+2+2*n) (by have:=ih k;rwa [show k+2+2*n+5=k+7+2*n by lia]);have R2:Cal l.prog w K mg base (k+2+2*n+6+1) "_law_rows" yg7 (yf3 (n+1)):=a0.c (xt5 a0.F (by have:=Tk (k+2+2*n+5);exact this) R1 z4 z5);rwa [show k+7+2*(n+1)=k+2+2*n+6+1 by lia]
 have R4:∀k:Nat,Cal l.prog w K mg base (k+15) "_law_rows" yg7 (yf3 4):=fun k=>Rows 4 k;have De:∀k:Nat,Cal l.prog w K mg base (k+16) _ _ xd5:=fun k=>ae.c (wr8 ae.F (Tk (k+14)) (Of (k+13)) (Va (k+12)) (R4 k) z1 z7 z9 z6 z5);have Pr:∀k:Nat,Cal l.prog w K mg base (k+17) _ _ xn0:=fun k=>ar.c (wr7 ar.F (Tk (k+15)) (Of (k+14)) (Wo (k+12)) (De k) (R4 (k+1)) z1 z4 z5 a3);have Hn:∀k:Nat,Cal l.prog w K mg base (k+1) _ _ (xx8 K):=fun k=>aa.c (wt4 aa.F z1 z2 z3);have Bo:∀k:Nat,Cal l.prog w K mg base (k+1) _ _ (ym0 K):=fun k=>y6.c (xw0 y6.F mM (xv7 lM) z5);have Wi:∀k:Nat,Cal l.prog w K mg base (k+1) _ _ yj6:=fun k=>y7.c (xw7 y7.F mH (xv7 lH));have Ly:∀(n k:Nat),Cal l.prog w K mg base (k+2+n) "lay" pLay (xz0 n):=by
  intro n
  induction n with
  | zero=>intro k;exact y8.c (wm7 y8.F (Wi k) (y8.c (xt7 y8.F)) z1 z5)
  | succ n ih=>intro k;exact y8.c (wm7 y8.F (by have:=Wi (k+1+n);rwa [show k+1+n+1=k+2+n by lia]at this) (ih k) z1 z5)
 have Ls:∀(n k:Nat),Cal l.prog w K mg base (k+2+n) "_law_flat" pLis (zz7 n):=by
  intro n
  induction n with
  | zero=>intro k;exact a1.c (yr4 a1.F (a1.c (xv0 a1.F)))
  | succ n ih=>intro k;exact a1.c (yr4 a1.F (ih k))
 have Nu:∀k:Nat,Cal l.prog w K mg base (k+7) _ _ (xx1 K):=fun k=>y9.c (ws0 y9.F (Bo (k+5)) (Ly 4 k) z5);have El:∀k:Nat,Cal l.prog w K mg base (k+1) _ _ zz8:=fun k=>y1.c (xm0 y1.F z5);have Be:∀k:Nat,Cal l.prog w K mg base (k+2) _ _ yk7:=fun k=>y2.c (wc7 y2.F (El k));have AB:∀k:Nat,Cal l.prog w K mg base (k+3) _ _ xs3:=fun k=>y3.c (wn3 y3.F (Be k));have Th:∀k:Nat,Cal l.prog w K mg base (k+2) _ _ yv9:=fun k=>af.c (wc6 af.F (Tk k) z5 a3);have N2:∀k:Nat,Cal l.prog w K mg base (k+7) _ _ (xw2 K):=fun k=>ay.c (ws9 ay.F (Ls 4 k) ag);have Up:∀k:Nat,Cal l.prog w K mg base (k+1) _ _ spUp:=fun k=>as.c (ok_up as.F z6);have DO:∀k:Nat,Cal l.prog w K mg base (k+1) _ _ ym3:=fun k=>y4.c (xq0 y4.F);have An:∀k:Nat,Cal l.prog w K mg base (k+2) _ _ yb3:=fun k=>y5.c (xr4 y5.F (El k) (DO k) b8);have KB:∀k:Nat,Cal l.prog w K mg base (k+1) _ _ yd3:=fun k=>ax.c (xh3 ax.F);have BB:∀k:Nat,Cal l.prog w K mg base (k+4) _ _ zv3:=fun k=>a9.c (yv1 a9.F (An (k+1)) (AB k));have MP:∀k:Nat,Cal l.prog w K mg base (k+8) _ _ (yh6 K):=fun k=>au.c (wz0 au.F (Nu k) (KB (k+6)) (BB (k+3)) mM (xv7 lM) z5 a3 z1 z7);have Fn:∀k:Nat,Cal l.prog w K mg base (k+2) _ _ yt3:=fun k=>av.c (wc9 av.F (Up k) z6);have Sa:∀(n k:Nat),Cal l.prog w K mg base (k+1+n) "_law_same" yk9 (spSm K n):=by
  intro n
  induction n with
  | zero=>intro k;exact a2.c (xc6 a2.F a8 z5 al b0 z3)
  | succ n ih=>intro k;exact a2.c (ok_sm a2.F (ih k) a8 z5 al b0 z3 z1 b7 z9)
 have Re:∀k:Nat,Cal l.prog w K mg base (k+8) _ _ (yh6 K):=fun k=>az.c (xz7 az.F (N2 k) (Up (k+6)) (Fn (k+5)) z5 a3 z1 z7);exact ok_law (wj2 (st:=sLaw) ll c kk) (Hn 63) (Pr 47) (Of 62) (Th 62) (Re 56) (Sa 3 60) (MP 56) z1 z4 bu bb
def walk{l:PySem.W.OpenLaw}{q:Program}{a0:List Str}{XP:(Str->Option Value)->Heap->Prop}{YP:World->Heap->Prop}{d:DefRec}{K:Params->Fg}(hn:l.most=some 63)(a1:d.params.defaults=[])
  (hY:∀(w:World)(h:Heap),YP w h->(K w.params).In h)
  (F:∀(w:World)(mg:Str->Option Value)(fa:Addr)(h:Heap),(K w.params).In h->h.Ns mainGlobals mg->mg d.name=some (.ref fa)->
   ∃fd:FuncData,(∀(s:Shared)(u:Value),BindsTo s fd ⟨[u],[]⟩ [("_law_script",u)])/\∀base:Heap,(K w.params).In base->base.Ns mainGlobals mg->FnOk l.prog w (K w.params) mg base CX0 65 fa fd ["_law_script"] (wd9 (K w.params))):
  PySem.W.WalkO q a0 XP YP l.row.toRowW d [] (fun f vs=>PySem.call f vs):=
 L2.wv0 (n:=63) (k:=65) (x:="_law_script") (CX:=fun _=>CX0) (sp:=fun w=>wd9 (K w.params)) hn (by decide) a1 ⟨rfl,by decide,by decide⟩ hY F (fun _ _ a ns hl _ hS=>⟨a,ns,rfl,hS,hl,fun _=>rfl⟩) fun _ _ _ _ _ z=>z
end Gn
namespace PySem.W.Fast
def tw10429406382552859609:=0
def tw14907607020234719572:=0
def tw10029055354535994774:=0
def tw12345976014851361774:=0
def tw9824923404958641422:=0
def tw6591692140551904952:=0
def tw4051008953305817859:=0
def tw9965513538509909919:=0
def tw16233069287276501915:=0
def tw14748982419332510960:=0
def tw1909871716307059528:=0
def tw10988692585818228244:=0
def tw12876107671379809550:=0
def tw6926315425745389722:=0
def tw7501059761004054940:=0
def tw2829229382734372239:=0
def tw3994392025666209218:=0
def tw13898970714595337807:=0
def tw4070823403951937615:=0
def tw16109663783384814332:=0
def tw11296237915792000457:=0
def tw2973404772118236139:=0
def tw14623375853340906159:=0
def tw16180372700651823863:=0
def tw1098362307667843395:=0
def tw14306288307534111752:=0
def tw10861194529922504549:=0
def tw10158352257002528587:=0
def tw11952070912765038346:=0
def tw10586042950250380220:=0
def tw15041891983902674448:=0
def tw9774666852609924639:=0
def tw6455293972404262514:=0
def tw10166112270016949014:=0
def tw11122037148139535085:=0
def tw5901625906829900405:=0
def tw11268930640636938170:=0
def tw12324920172943818404:=0
def tw3775137984388817150:=0
def tw9566371016073343396:=0
def tw16828532363390513053:=0
def tw9559051553013189389:=0
def tw6167653230752193992:=0
def tw7151491882113881858:=0
def tw3545345666598162031:=0
def tw2039496644134584845:=0
def tw8589630414315463728:=0
def tw1154171071746832790:=0
def tw18397159046343480336:=0
def tw11141906118421327044:=0
def tw10059488674445805493:=0
def tw858232331842170021:=0
def tw2693618754836405219:=0
def tw2141930962706456765:=0
def tw6795407252684111933:=0
def tw7503028561206276079:=0
def tw11896606970502501037:=0
def tw5850164626536301249:=0
def tw13586558695766236672:=0
def tw6601569977253764164:=0
def tw12205366443394043524:=0
def tw708274805665760005:=0
def tw6318449190952538532:=0
def tw8560312436301582209:=0
def tw4674995648031468923:=0
def tw12783184327625637479:=0
def tw8368155738011989358:=0
def tw17088330738771711308:=0
def tw17602857025506639081:=0
def tw4548529540675544588:=0
def tw7953648800024332370:=0
def tw3095608579233836429:=0
def tw5323653678884883268:=0
def tw13971940549266661866:=0
def tw7040403360981011772:=0
def tw5370152566929935240:=0
def tw1366249136289341349:=0
def tw4524789605367035991:=0
def tw11913484645322642374:=0
def tw3644148325821900402:=0
def tw16157364742925063434:=0
def tw4425894557416318262:=0
def tw6235527997105705736:=0
def tw15152175383884243645:=0
def tw11241292816786289203:=0
def tw3590110196856736753:=0
def tw2384459465508968011:=0
def tw12612835156826613990:=0
def tw4315992921392085489:=0
def tw2224699264368011537:=0
def tw4621805470369691541:=0
def tw10971914542513684314:=0
def tw8618373370868616412:=0
def tw12298185037975026620:=0
def tw7335561541328540900:=0
def tw13680138202408739653:=0
def tw5739771425633854220:=0
def tw224530036130221744:=0
def tw4908899124607968652:=0
def tw11414147878004391370:=0
def tw11536608906240135261:=0
def tw15575100805500102971:=0
def tw6005543482218903629:=0
def tw16563595670772301210:=0
def tw14700670845874263832:=0
def tw2605647173832095713:=0
def tw2008366329892050991:=0
def tw14490601244129375366:=0
def tw6396603792128791481:=0
def tw11666008727744509545:=0
def tw7628431714380700387:=0
def tw15831910563849934444:=0
def tw3336824388155735076:=0
def tw15990396057937151198:=0
def tw15076459232987447926:=0
end PySem.W.Fast
open PySem PySem.W PyProof.Rows
set_option maxRecDepth 100000 in
set_option maxHeartbeats 0 in
theorem PySem.Challenge.cw_surecall_k14_made_bodies_and_kinds_holds : PySem.Challenge.rw_surecall_k14_made_bodies_and_kinds.Holds := by
 w_on;o_law;k_head;(case hw=>w_witness2)
 k_fill
 refine Gn.walk (l:=PySem.Challenge.rw_surecall_k14_made_bodies_and_kinds) rfl rfl (fun w h Y=>PySem.W.kIn_of Y) ?F
 case F=>
  intro w mg fa h KX G a0;refine' Gn.all_mk KX G a0 ⟨?a1,?l1,?c1,?k1⟩ ⟨?a2,?l2,?c2,?k2⟩ ⟨?a3,?l3,?c3,?k3⟩ ⟨?a4,?l4,?c4,?k4⟩ ⟨?a5,?l5,?c5,?k5⟩ ⟨?a6,?l6,?c6,?k6⟩ ⟨?a7,?l7,?c7,?k7⟩ ⟨?a8,?l8,?c8,?k8⟩ ⟨?a9,?l9,?c9,?k9⟩ ⟨?a10,?l10,?c10,?k10⟩ ⟨?a11,?l11,?c11,?k11⟩ ⟨?a12,?l12,?c12,?k12⟩ ⟨?a13,?l13,?c13,?k13⟩ ⟨?a14,?l14,?c14,?k14⟩ ⟨?a15,?l15,?c15,?k15⟩ ⟨?a16,?l16,?c16,?k16⟩ ⟨?a17,?l17,?c17,?k17⟩ ⟨?a18,?l18,?c18,?k18⟩ ⟨?a19,?l19,?c19,?k19⟩ ⟨?a20,?l20,?c20,?k20⟩ ⟨?a21,?l21,?c21,?k21⟩ ⟨?a22,?l22,?c22,?k22⟩ ⟨?a23,?l23,?c23,?k23⟩ ⟨?a24,?l24,?c24,?k24⟩ ⟨?a25,?l25,?c25,?k25⟩ ⟨?a26,?l26,?c26,?k26⟩ ⟨?a27,?l27,?c27,?k27⟩ ⟨?a28,?l28,?c28,?k28⟩ ⟨?a29,?l29,?c29,?k29⟩ ⟨?a30,?l30,?c30,?k30⟩ ⟨?a31,?l31,?c31,?k31⟩ ⟨?a32,?l32,?c32,?k32⟩ ⟨?a33,?l33,?c33,?k33⟩ ⟨?a34,?l34,?c34,?k34⟩ ⟨?a35,?l35,?c35,?k35⟩ ⟨?a36,?l36,?c36,?k36⟩ ⟨?a37,?l37,?c37,?k37⟩ ⟨?a38,?l38,?c38,?k38⟩ ?aM ?lM ?aH ?lH ?z
  (case a1 | l1 | c1 | k1=>k_is)
  (case a2 | l2 | c2 | k2=>k_is)
  (case a3 | l3 | c3 | k3=>k_is)
  (case a4 | l4 | c4 | k4=>k_is)
  (case a5 | l5 | c5 | k5=>k_is)
  (case a6 | l6 | c6 | k6=>k_is)
  (case a7 | l7 | c7 | k7=>k_is)
  (case a8 | l8 | c8 | k8=>k_is)
  (case a9 | l9 | c9 | k9=>k_is)
  (case a10 | l10 | c10 | k10=>k_is)
  (case a11 | l11 | c11 | k11=>k_is)
  (case a12 | l12 | c12 | k12=>k_is)
  (case a13 | l13 | c13 | k13=>k_is)
  (case a14 | l14 | c14 | k14=>k_is)
  (case a15 | l15 | c15 | k15=>k_is)
  (case a16 | l16 | c16 | k16=>k_is)
  (case a17 | l17 | c17 | k17=>k_is)
  (case a18 | l18 | c18 | k18=>k_is)
  (case a19 | l19 | c19 | k19=>k_is)
  (case a20 | l20 | c20 | k20=>k_is)
  (case a21 | l21 | c21 | k21=>k_is)
  (case a22 | l22 | c22 | k22=>k_is)
  (case a23 | l23 | c23 | k23=>k_is)
  (case a24 | l24 | c24 | k24=>k_is)
  (case a25 | l25 | c25 | k25=>k_is)
  (case a26 | l26 | c26 | k26=>k_is)
  (case a27 | l27 | c27 | k27=>k_is)
  (case a28 | l28 | c28 | k28=>k_is)
  (case a29 | l29 | c29 | k29=>k_is)
  (case a30 | l30 | c30 | k30=>k_is)
  (case a31 | l31 | c31 | k31=>k_is)
  (case a32 | l32 | c32 | k32=>k_is)
  (case a33 | l33 | c33 | k33=>k_is)
  (case a34 | l34 | c34 | k34=>k_is)
  (case a35 | l35 | c35 | k35=>k_is)
  (case a36 | l36 | c36 | k36=>k_is)
  (case a37 | l37 | c37 | k37=>k_is)
  (case a38 | l38 | c38 | k38=>k_is)
  (case aM | lM | aH | lH=>k_is)
  simp only[List.forall_mem_cons];refine⟨?_,?_,?_,?_,?_,?_,?_,?_,?_,?_,?_,?_,?_,?_,?_,?_,?_,?_,fun _ h=>nomatch h⟩ <;> k_is
#print axioms PySem.Challenge.cw_surecall_k14_made_bodies_and_kinds_holds
end
