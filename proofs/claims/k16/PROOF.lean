import PyProof.Rows.All
import Wide.All
import OpenK.AllK
import Wide.FinOn
import Lean
import PyProof.EqAt
import PyProof.EqKinds
import PyProof.TupleCall
import PyProof.NeKinds
import KE.KSortTup
import PySem.Challenge.RW_surecall_k16_whole_made_is_least
set_option Elab.async false
set_option linter.all false
set_option maxRecDepth 100000
def wq8:=@PySem.wpAny_bind
def wq9:=@List.getElem?_eq_getElem
def wr0:=@List.not_mem_nil
def wr1:=@List.getElem?_eq_some_iff
def wr2:=@List.length_append
def wr3:=@List.getElem?_map
def wr4:=@PySem.Heap.get?_push_of_some
def wr5:=@Nat.le_refl
def wr6:=@Option.map_eq_some_iff
def wr7:=@PySem.wpAny_pure
def wr8:=@List.take_of_length_le
def wr9:=@List.map_append
def ws0:=@of_decide_eq_true
def ws1:=@PySem.Heap.lt_size
def ws2:=@List.mem_map
def ws3:=@Nat.le_of_lt
def ws4:=@List.mem_of_getElem?
def ws5:=@List.mem_cons
def ws6:=@Nat.ne_of_lt
def ws7:=@List.take_add_one
def ws8:=@List.length_singleton
def ws9:=@List.size_toArray
def wt0:=@PySem.Heap.get?_push_size
def wt1:=@Or.inl
def wt2:=@Bool.false_ne_true
def wt3:=@List.length_cons
def wt4:=@List.length_take
def wt5:=@PyProof.Rows.wpS_bind
def wt6:=@Nat.zero_le
def wt7:=@List.append_assoc
def wt8:=@decide_eq_true
def wt9:=@List.mem_append
def wv0:=@PySem.PassesOwn.never
def wv1:=@List.mem_singleton
def wv2:=@PySem.F.plainAttrs_list
def wv3:=@PyProof.Rows.wpS_pure
def wv4:=@List.mem_append_right
def wv5:=@if_neg
def wv6:=@PySem.F.slot_list_append
def wv7:=@PySem.F.type_list_append
def wv8:=@decide_eq_false
def wv9:=@Nat.ne_of_gt
def ww0:=@List.all_eq_true
def ww1:=@Array.length_toList
def ww2:=@Nat.lt_of_lt_of_le
def ww3:=@List.map_cons
def ww4:=@if_pos
def ww5:=@List.getElem_mem
def ww6:=@List.mem_cons_of_mem
def ww7:=@List.mem_iff_getElem?
def ww8:=@PySem.wpAny_callSpecial?_slot
def ww9:=@PySem.wpAny_call_entry
def wx0:=@PySem.wpAny_newObj_type
def wx1:=@List.append_nil
def wx2:=@PySem.wpAny_holding
def wx3:=@PySem.wpAny_field
def wx4:=@Array.toList_append
def wx5:=@congrArg
def wx6:=@Nat.le_trans
def wx7:=@Option.some.inj
def wx8:=@List.mem_filter
def wx9:=@List.nodup_cons
def wz0:=@PySem.F.slot_dict_get
def wz1:=@List.getElem?_append_left
def wz2:=@Nat.lt_trans
def wz3:=@Or.inr
def wz4:=@PySem.wpAny_mono
def wz5:=@PyProof.Rows.callWith_type1
def wz6:=@PySem.Calls.spliced_cons
def wz7:=@PySem.Heap.get?_update_self
def wz8:=@List.getElem?_append_right
def wz9:=@PySem.F.plainAttrs_dict
def vb0:=@or_false
def vb1:=@PySem.boot_len
def vb2:=@PyProof.Rows.wpS_forRange
def vb3:=@Ne.symm
def vb4:=@PySem.Heap.get?_update_other
def vb5:=@PySem.Calls.callWith_builtin
def vb6:=@Nat.lt_irrefl
def vb7:=@Bool.false_eq_true
def vb8:=@PySem.wpAny_setField_rec
def vb9:=@List.length_nil
def vc0:=@List.getElem_of_mem
def vc1:=@PySem.builtinLookup_eq_fast
def vc2:=@List.take_append_drop
def vc3:=@List.length_filter_le
def vc4:=@List.flatMap_append
def vc5:=@PySem.wpAny_seqItems
def vc6:=@List.drop_eq_getElem_cons
def vc7:=@List.length_drop
def vc8:=@List.map_map
def vc9:=@PySem.F.slot_dict_keyiterator_next
def vd0:=@List.filter_nil
def vd1:=@PySem.Calls.evalArgs_plain
def vd2:=@List.mem_of_mem_take
def vd3:=@List.getD_eq_getElem?_getD
def vd4:=@PySem.F.entry_dict_get
def vd5:=@PySem.Calls.spliced_nil
def vd6:=@PySem.mem_of_lookup
def vd7:=@PySem.wpAny_dictEntries
def vd8:=@List.nodup_nil
def vd9:=@Bool.eq_iff_iff
def vf0:=@Array.getElem?_toList
def vf1:=@PySem.wpAny_specialOf
def vf2:=@List.getElem?_eq_none
def vf3:=@List.mem_cons_self
def vf4:=@PySem.wpAny_rule
def vf5:=@PySem.wpAny_comprehension_free
def vf6:=@PySem.wpAny_typeNameOfWhole_keyiter
def vf7:=@PySem.Around.under_plainId
def vf8:=@PySem.wpAny_attempt
def vf9:=@List.length_eq_zero_iff
def vg0:=@List.filter_cons_of_neg
def vg1:=@List.filter_cons_of_pos
def vg2:=@Int.toNat_natCast
def vg3:=@PySem.wpAny_Call_method
def vg4:=@Nat.lt_of_succ_lt
def vg5:=@PySem.Heap.SameBut.update
def vg6:=@PySem.F.slot_zip_next
def vg7:=@PySem.typeLookup_type
def vg8:=@List.map_congr_left
def vg9:=@if_false
def vh0:=@PySem.F.slot_NoneType_hash
def vh1:=@PySem.F.slot_tuple_iterator_next
def vh2:=@Array.perm_iff_toList_perm
def vh3:=@Bool.and_eq_true
def vh4:=@PySem.tupleKind_room_in1
def vh5:=@List.Perm.append_left
def vh6:=@List.perm_append_comm
def vh7:=@Int.emod_lt_of_pos
def vh8:=@List.getElem?_zip_eq_some
def vh9:=@List.mem_of_find?_eq_some
def vj0:=@List.mem_append_left
def vj1:=@PySem.wpAny_truthy_bool
def vj2:=@PySem.wpAny_passesOwn
def vj3:=@PyProof.Rows.slot_tuple_getitem
def vj4:=@True.intro
def vj5:=@Array.size_append
def vj6:=@PySem.call_meetsIn
def vj7:=@Nat.lt_or_ge
def vj8:=@PySem.wpAny_standAt
def vj9:=@PySem.sizeLine_eq
def vk0:=@List.replicate_succ
def vk1:=@List.length_reverse
def vk2:=@List.getElem?_cons_zero
def vk3:=@List.any_eq_true
def vk4:=@PySem.wpAny_isInstance
def vk5:=@decide_eq_true_iff
def vk6:=@List.filter_append
def vk7:=@List.length_zipIdx
def vk8:=@Sum.inr.inj
def vk9:=@List.of_mem_zip
def vm0:=@List.find?_cons
def vm1:=@PySem.F.type_dict_get
def vm2:=@List.forIn_cons
def vm3:=@PySem.codeAny_builtin
def vm4:=@PySem.wpAny_notOrdered_dict
def vm5:=@List.length_zip
def vm6:=@Int.emod_nonneg
def vm7:=@Array.toList_push
def vm8:=@List.flatMap_cons
def vm9:=@PySem.F.slot_tuple_getitem
def vn0:=@Array.toList_reverse
def vn1:=@Array.getElem?_eq_getElem
def vn2:=@PySem.Calls.call_function_entry
def vn3:=@Bool.false_xor
def vn4:=@PySem.isSubtype_type
def vn5:=@List.getElem_inj
def vn6:=@List.lookup_cons
def vn7:=@PyProof.Rows.wpS_mono
def vn8:=@List.mem_flatMap
def vn9:=@beq_eq_false_iff_ne
def vp0:=@List.filterMap_cons
def vp1:=@PySem.F.plain_extend_loop
def vp2:=@List.reverse_append
def vp3:=@List.length_pos_iff
def vp4:=@PySem.F.slot_list_getattribute
def vp5:=@PySem.F.slot_list_extend
def vp6:=@PySem.F.type_list_extend
def vp7:=@PySem.wpAny_Call_Name_kw
def vp8:=@List.any_cons
def vp9:=@PySem.F.args_dict_get_2
def vq0:=@PySem.F.args_dict_get_3
def vq1:=@Nat.min_eq_left
def vq2:=@PySem.wpAny_dictEpoch
def vq3:=@List.zip_cons_cons
def vq4:=@PySem.size_of_entries
def vq5:=@List.find?_eq_none
def vq6:=@List.map_take
def vq7:=@List.flatten_cons
def vq8:=@List.ext_getElem?
def vq9:=@PySem.F.args_zip_next_1
def vr0:=@Option.some.injEq
def vr1:=@PySem.Paired.length
def vr2:=@PySem.plainId_quiet
def vr3:=@List.map_drop
def vr4:=@PyProof.Rows.wpS_modify
def vr5:=@PyProof.Rows.wpS_get
theorem lqm{α β:Type}{f:α->β}{l:List α}:(l.map f).length=l.length:=by simp
section
namespace L2
open PySem PySem.Spec PyProof.Rows
variable{prog:Program}{w:World}{A:Around}{E:Value->Shared->Prop}{s:Shared}
variable{X:Cx}
abbrev Key:=Sum Int Str
def zt0:Key->Value->Bool
 | .inl k,v=>Value.isInt k v
 | .inr x,v=>Value.isStrOf x v
def keyH(w:World):Key->Int
 | .inl k=>hashInt k
 | .inr x=>hashStr w x
theorem zd8:∀{k:Key}{v:Value},zt0 k v=true->(∃i t,k=Sum.inl i/\v=Value.int i t)∨(∃x t,k=Sum.inr x/\v=Value.str x t)
 | .inl i,v,h=>by
  obtain⟨t,e⟩:=Value.isInt_shape (k:=i) (v:=v) h;exact .inl ⟨i,t,rfl,e⟩
 | .inr x,v,h=>by
  obtain⟨t,e⟩:=Value.isStrOf_shape (x:=x) (v:=v) h;exact .inr ⟨x,t,rfl,e⟩
theorem xm2(i:Int)(t:Tok):zt0 (.inl i) (.int i t)=true:=by simp[zt0,Value.isInt]
theorem xf1(x:Str)(t:Tok):zt0 (.inr x) (.str x t)=true:=by simp[zt0,Value.isStrOf]
theorem key_ll(a b:Int):decide ((Sum.inl a:Key)=Sum.inl b)=(a == b):=by
 by_cases e:a=b
 ·subst e;simp
 ·have h:¬(Sum.inl a:Key)=Sum.inl b:=fun q=>e (Sum.inl.inj q);rw[wv8 h];exact(vn9.mpr e).symm
theorem key_rr(a b:Str):decide ((Sum.inr a:Key)=Sum.inr b)=decide (a=b):=by
 by_cases e:a=b
 ·subst e;simp
 ·have h:¬(Sum.inr a:Key)=Sum.inr b:=fun q=>e (vk8 q);rw[wv8 h,wv8 e]
theorem key_lr(a:Int)(b:Str):decide ((Sum.inl a:Key)=Sum.inr b)=false:=wv8 (fun q=>nomatch q)
theorem key_rl(a:Str)(b:Int):decide ((Sum.inr a:Key)=Sum.inl b)=false:=wv8 (fun q=>nomatch q)
def zc7(prog:Program)(w:World):PySem.KeyKind prog w Key where
 is:=zt0
 hash:=keyH w
 inj:=fun v a b ha hb=>by
  rcases zd8 ha with ⟨i,t,rfl,rfl⟩ | ⟨x,t,rfl,rfl⟩
  ·rcases zd8 hb with ⟨j,u,rfl,e⟩ | ⟨y,u,rfl,e⟩
   ·injection e with e1 _;rw[e1]
   ·exact nomatch e
  ·rcases zd8 hb with ⟨j,u,rfl,e⟩ | ⟨y,u,rfl,e⟩
   ·exact nomatch e
   ·injection e with e1 _;rw[e1]
 byValue:=fun k v h=>by
  rcases zd8 h with ⟨i,t,rfl,rfl⟩ | ⟨x,t,rfl,rfl⟩ <;> rfl
 pyHash:=fun hv h=>by
  rcases zd8 hv with ⟨i,t,rfl,rfl⟩ | ⟨x,t,rfl,rfl⟩
  ·exact wpAny_pyHash_int h
  ·exact wpAny_pyHash_str h
 eqBool:=fun hu hv h=>by
  rcases zd8 hu with ⟨i,t,rfl,rfl⟩ | ⟨x,t,rfl,rfl⟩
  ·rcases zd8 hv with ⟨j,u,rfl,rfl⟩ | ⟨y,u,rfl,rfl⟩
   ·rw[key_ll]at h;exact wpAny_eqBool_int h
   ·rw[key_lr]at h;exact SeqAt.EqAt.int_str i t y u _ _ _ _ h
  ·rcases zd8 hv with ⟨j,u,rfl,rfl⟩ | ⟨y,u,rfl,rfl⟩
   ·rw[key_rl]at h;exact SeqAt.EqAt.str_int x t j u _ _ _ _ h
   ·rw[key_rr]at h;exact wpAny_eqBool_str h
 «strs»:=fun k x t v h=>by
  rcases zd8 h with ⟨i,u,rfl,e⟩ | ⟨y,u,rfl,e⟩
  ·exact nomatch e
  ·injection e with e1 _;subst e1;cases v <;> rfl
theorem ys8(prog:Program)(w:World)(i:Int)(t:Tok):(zc7 prog w).is (.inl i) (.int i t)=true:=xm2 i t
theorem yv4(prog:Program)(w:World)(x:Str)(t:Tok):(zc7 prog w).is (.inr x) (.str x t)=true:=xf1 x t
inductive V where
 | non | bl (b:Bool) | int (i:Int) | str (x:Str) | byt (b:Array UInt8) | flt (b:UInt64) | ref (a:Addr) | ty (n:String)
 deriving DecidableEq
def RelV:V->Value->Prop
 | .non,u=>u=Value.none
 | .bl b,u=>u=Value.bool b
 | .int i,u=>∃t,u=Value.int i t
 | .str x,u=>∃t,u=Value.str x t
 | .byt b,u=>∃t,u=Value.bytes b t
 | .flt b,u=>∃t,u=Value.float b t
 | .ref a,u=>u=Value.ref a
 | .ty n,u=>u=Value.type n
abbrev Vals:List V->List Value->Prop:=Paired RelV
theorem Vals.length{xs:List V}{us:List Value}(r:Vals xs us):xs.length=us.length:=vr1 r
theorem Vals.get:∀{xs:List V}{us:List Value}{i:Nat}{x:V},Vals xs us->xs[i]?=some x->∃u,us[i]?=some u/\RelV x u
 | _,_,_,_,.nil,e=>by simp at e
 | _,_,0,_,.cons r _,e=>by simp at e;subst e;exact⟨_,rfl,r⟩
 | _,_,i+1,x,.cons _ t,e=>by
  obtain⟨u,h1,h2⟩:=Vals.get (i:=i) (x:=x) t (by simpa using e);exact⟨u,by simpa using h1,h2⟩
theorem Vals.set{x:V}{u:Value}(r:RelV x u):∀{xs:List V}{us:List Value}(i:Nat),Vals xs us->Vals (xs.set i x) (us.set i u)
 | _,_,_,.nil=>.nil
 | _,_,0,.cons _ t=>.cons r t
 | _,_,i+1,.cons q t=>.cons q (Vals.set r i t)
theorem Vals.append:∀{xs ys:List V}{us ws:List Value},Vals xs us->Vals ys ws->Vals (xs++ys) (us++ws)
 | _,_,_,_,.nil,s=>s
 | _,_,_,_,.cons r t,s=>.cons r (Vals.append t s)
theorem Vals.take:∀{xs:List V}{us:List Value}(n:Nat),Vals xs us->Vals (xs.take n) (us.take n)
 | _,_,0,_=>.nil
 | _,_,_+1,.nil=>.nil
 | _,_,n+1,.cons r t=>.cons r (Vals.take n t)
theorem Vals.drop:∀{xs:List V}{us:List Value}(n:Nat),Vals xs us->Vals (xs.drop n) (us.drop n)
 | _,_,0,r=>r
 | _,_,_+1,.nil=>.nil
 | _,_,n+1,.cons _ t=>Vals.drop n t
def RelO:Option V->Option Value->Prop
 | some v,some u=>RelV v u
 | none,none=>True
 | _,_=>False
def KV{κ:Type}:List (κ×V)->List (κ×Value)->Prop:=Paired fun(p:κ×V) (q:κ×Value)=>p.1=q.1/\RelV p.2 q.2
def kV:Key->V
 | .inl i=>.int i
 | .inr x=>.str x
inductive HO where
 /-- a list -/
 | lst (xs:List V)
 /-- a tuple (never changes) -/
 | tup (xs:List V)
 /-- a dict whose keys are ints and texts;one whose keys are tuples of ints and texts (the empty one is both) -/
 | dK (kvs:List (Key×V)) | dT (kvs:List (List Key×V))
 /-- a set of ints: its members,its size -/
 | set (S:Int->Bool) (n:Nat)
 /-- an instance of the class at C,its dict at dx,its attributes -/
 | ins (C dx:Addr) (fs:List (Str×V))
 /-- the dict of the instance at x -/
 | own (x:Addr)
 /-- the dict of an exception -/
 | xd (fs:List (Str×V))
 /-- a bound method,f of x -/
 | met (f x:Addr)
 /-- a range object lo,lo+1,.. below hi -/
 | rng (lo hi:Int)
 /-- a thing that is known to the object (the script;a dict while a loop walks it): read,never written while it is so -/
 | frz (o:Obj) (u:HO)
 /-- a code object's table -/
 | tbl (ps:Array Value)
 /-- any other thing,by what is true of its one object (a def of one's own: SetO a S n:=HO.ext fun h=>..) -/
 | ext (φ:Heap->Prop)
abbrev Hp:=Addr->Option HO
def upd(H:Hp)(a:Addr)(o:HO):Hp:=fun b=>if b=a then some o else H b
theorem zb1{H:Hp}{a:Addr}{o:HO}:upd H a o a=some o:=by unfold upd;rw[ww4 rfl]
theorem zb5{H:Hp}{a b:Addr}{o:HO}(h:b≠a):upd H a o b=H b:=by unfold upd;rw[wv5 h]
theorem zq5{H:Hp}{a:Addr}{o u:HO}:upd (upd H a o) a u=upd H a u:=by
 funext b;unfold upd;split <;> rfl
theorem wn9{H:Hp}{a b:Addr}{o u:HO}(h:H a=some o)(h':H b=some u)(d:o≠u):a≠b:=by
 intro e;subst e;rw[h]at h';exact d (wx7 h')
theorem zb4{H:Hp}{a b:Addr}{o:HO}(h:H a=some o)(h':H b=none):a≠b:=by
 intro e;subst e;rw[h]at h';cases h'
def DN(h:Heap)(a:Addr):Prop:=∃o,h.get? a=some o/\o.dict=none
section
variable(P:Program)(w:World)
def ObjOk(H:Hp)(h:Heap)(a:Addr):HO->Prop
 | .lst xs=>xs.length<=sizeLine/\∃(its:List Value)(n:Nat),Vals xs its/\h.get? a=some {cls:=.type "list",data:=.seq its.toArray n}
 | .tup xs=>(xs.length<=sizeLine/\DN h a)/\∃its:List Value,Vals xs its/\IsTup h a its.toArray
 | .dK kvs=>kvs.length<=sizeLine/\(a == sysModules)=false/\∃vs,KV kvs vs/\h.DictOf (zc7 P w) a vs
 | .dT kvs=>kvs.length<=sizeLine/\(a == sysModules)=false/\∃xs:List (List Key×Addr×Value),
   Paired (fun(p:List Key×V) (q:List Key×Addr×Value)=>p.1=q.1/\H q.2.1=some (.tup (p.1.map kV))/\RelV p.2 q.2.2) kvs xs/\
   ∃o es ep,h.get? a=some o/\o.ExactDict/\o.data=.dict es ep/\es.toList=xs.map (entryOfKey (tupleKind (zc7 P w)))/\(xs.map (·.1)).Nodup
 | .set S n=>h.SetOf (intKind P w) a S n
 | .ins C dx fs=>H dx=some (.own a)/\fs.length<=1000/\dx≠a/\h.get? a=some (PySem.W.instObj C dx)/\
   ∃mA,h.Ns1 dx mA/\(∀f,RelO (fs.lookup f) (mA f))/\PySem.Within mA (fs.map (·.1))
 | .own _=>∃o,h.get? a=some o
 | .xd fs=>∃mA,h.Ns1 a mA/\∀f,RelO (fs.lookup f) (mA f)
 | .rng lo hi=>∃t u v,h.get? a=some {cls:=.type "range",data:=.fields #[.int lo t,.int hi u,.int 1 v]}
 | .frz o u=>h.get? a=some o/\ObjOk H h a u
 | .tbl ps=>h.get? a=some {cls:=.none,data:=.fields ps}
 | .met f x=>h.get? a=some (PySem.W.methodObj (.ref f) (.ref x))
 | .ext φ=>φ h/\(∃o,h.get? a=some o)/\∀h1 h2:Heap,φ h1->(∀o,h1.get? a=some o->h2.get? a=some o)->φ h2
def HOk(H:Hp)(h:Heap):Prop:=∀a o,H a=some o->ObjOk P w H h a o
end
section
variable{P:Program}{w:World}{H H':Hp}{h h':Heap}{a:Addr}{o:HO}
theorem ObjOk.lt(x:ObjOk P w H h a o):a<h.objs.size:=by
 cases o with
 | lst xs=>obtain⟨_,_,_,_,e⟩:=x;exact ws1 e
 | tup xs=>obtain⟨_,_,_,p⟩:=x;exact p.lt
 | dK kvs=>obtain⟨_,_,_,_,o,_,_,e,_⟩:=x;exact ws1 e
 | dT kvs=>obtain⟨_,_,_,_,o,_,_,e,_⟩:=x;exact ws1 e
 | set S n=>obtain⟨o,_,_,_,e,_⟩:=x;exact ws1 e
 | ins C dx fs=>obtain⟨_,_,_,e,_⟩:=x;exact ws1 e
 | own y=>obtain⟨_,e⟩:=x;exact ws1 e
 | xd fs=>obtain⟨_,⟨_,_,_,e,_⟩,_⟩:=x;exact ws1 e
 | rng lo hi=>obtain⟨_,_,_,e⟩:=x;exact ws1 e
 | frz ob u=>obtain⟨e,_⟩:=x;exact ws1 e
 | tbl ps=>exact ws1 (show h.get? a=some _ from x)
 | met f y=>exact ws1 (show h.get? a=some _ from x)
 | ext φ=>obtain⟨_,⟨_,e⟩,_⟩:=x;exact ws1 e
theorem Paired.mapP{α β:Type}{F G:α->β->Prop}:∀{l₁:List α}{l₂:List β},Paired F l₁ l₂->(∀a b,F a b->G a b)->Paired G l₁ l₂
 | _,_,.nil,_=>.nil
 | _,_,.cons r t,f=>.cons (f _ _ r) (Paired.mapP t f)
theorem ObjOk.stay(x:ObjOk P w H h a o)(k:∀b u,(b=a∨H b=some (.own a))->h.get? b=some u->h'.get? b=some u)
  (ho:∀b,H b=some (.own a)->H' b=some (.own a)) (ht:∀b xs,H b=some (.tup xs)->H' b=some (.tup xs)):ObjOk P w H' h' a o:=by
 induction o with
 | lst xs=>obtain⟨z,its,n,r,e⟩:=x;exact⟨z,its,n,r,k _ _ (.inl rfl) e⟩
 | tup xs=>obtain⟨⟨z,od,e0,c0⟩,y⟩:=x;obtain⟨its,r,ob,e,c⟩:=y;exact⟨⟨z,od,k _ _ (.inl rfl) e0,c0⟩,its,r,ob,k _ _ (.inl rfl) e,c⟩
 | dK kvs=>obtain⟨z,y,vs,r,ob,es,ep,e,c⟩:=x;exact⟨z,y,vs,r,ob,es,ep,k _ _ (.inl rfl) e,c⟩
 | dT kvs=>
  obtain⟨z,y,xs,r,ob,es,ep,e,c⟩:=x;exact⟨z,y,xs,Paired.mapP r fun p q z=>⟨z.1,ht _ _ z.2.1,z.2.2⟩,ob,es,ep,k _ _ (.inl rfl) e,c⟩
 | set S n=>obtain⟨ob,es,ep,t,e,c⟩:=x;exact⟨ob,es,ep,t,k _ _ (.inl rfl) e,c⟩
 | ins C dx fs=>
  obtain⟨d,z,ne,e,mA,⟨od,es,ep,e2,c⟩,r⟩:=x;exact⟨ho _ d,z,ne,k _ _ (.inl rfl) e,mA,⟨od,es,ep,k _ _ (.inr d) e2,c⟩,r⟩
 | own y=>obtain⟨ob,e⟩:=x;exact⟨ob,k _ _ (.inl rfl) e⟩
 | xd fs=>obtain⟨mA,⟨od,es,ep,e,c⟩,r⟩:=x;exact⟨mA,⟨od,es,ep,k _ _ (.inl rfl) e,c⟩,r⟩
 | rng lo hi=>obtain⟨t,u,v,e⟩:=x;exact⟨t,u,v,k _ _ (.inl rfl) e⟩
 | frz ob u ih=>obtain⟨e,q⟩:=x;exact⟨k _ _ (.inl rfl) e,ih q⟩
 | tbl ps=>
  have e:h.get? a=some {cls:=.none,data:=.fields ps}:=x;show h'.get? a=some {cls:=.none,data:=.fields ps};exact k a _ (.inl rfl) e
 | met f y=>
  have e:h.get? a=some (PySem.W.methodObj (.ref f) (.ref y)):=x;show h'.get? a=some (PySem.W.methodObj (.ref f) (.ref y));exact k a _ (.inl rfl) e
 | ext φ=>obtain⟨p,⟨o,e⟩,st⟩:=x;exact⟨st _ _ p fun o q=>k _ _ (.inl rfl) q,⟨o,k _ _ (.inl rfl) e⟩,st⟩
theorem HOk.lt(x:HOk P w H h)(e:H a=some o):a<h.objs.size:=(x a o e).lt
theorem HOk.fresh(x:HOk P w H h)(e:h.objs.size<=a):H a=none:=by
 cases q:H a with
 | none=>rfl
 | some u=>exact absurd (ww2 (x.lt q) e) (vb6 _)
theorem HOk.kept(x:HOk P w H h)(k:∀b u,h.get? b=some u->h'.get? b=some u):HOk P w H h':=fun a o e=>
 (x a o e).stay (fun b u _ q=>k b u q) (fun _ q=>q) fun _ _ q=>q
theorem HOk.laid(x:HOk P w H h)(k:∀b u,h.get? b=some u->h'.get? b=some u)(hp:h.objs.size<=a)(new:ObjOk P w (upd H a o) h' a o):HOk P w (upd H a o) h':=fun b u e=>by
 have hn:=x.fresh hp
 by_cases hb:b=a
 ·subst hb;rw[zb1]at e;cases e;exact new
 ·rw[zb5 hb]at e;exact(x b u e).stay (fun c v _ q=>k c v q) (fun c q=>by rw[zb5 (zb4 q hn)];exact q) fun c xs q=>by rw[zb5 (zb4 q hn)];exact q
end
def Rd(H:Hp)(a:Addr)(u:HO):Prop:=H a=some u∨∃o,H a=some (.frz o u)
theorem Rd.of{H:Hp}{a:Addr}{u:HO}(h:H a=some u):Rd H a u:=.inl h
theorem Rd.ok{P:Program}{w:World}{H:Hp}{h:Heap}{a:Addr}{u:HO}(r:Rd H a u)(x:HOk P w H h):ObjOk P w H h a u:=by
 rcases r with r | ⟨o,r⟩
 ·exact x a u r
 ·obtain⟨_,q⟩:=x a _ r;exact q
def Mut:Option HO->Prop
 | some (.lst _)=>True
 | some (.dK _)=>True
 | some (.dT _)=>True
 | some (.set _ _)=>True
 | some (.ins _ _ _)=>True
 | some (.ext _)=>True
 | _=>False
section
variable{P:Program}{w:World}{H:Hp}{h h':Heap}{x e:Addr}{o':HO}
theorem HOk.write(ok:HOk P w H h)(mu:Mut (H x))(he:e=x∨H e=some (.own x))(k:∀b u,b≠e->h.get? b=some u->h'.get? b=some u)(heo:∃u,h'.get? e=some u)
  (new:ObjOk P w (upd H x o') h' x o'):HOk P w (upd H x o') h':=fun b u q=>by
 have nown:∀c y,H c=some (.own y)->c≠x:=fun c y r z=>by subst z;rw[r]at mu;exact mu
 have ntup:∀c xs,H c=some (.tup xs)->c≠x:=fun c xs r z=>by subst z;rw[r]at mu;exact mu
 by_cases hb:b=x
 ·subst hb;rw[zb1]at q;cases q;exact new
 ·rw[zb5 hb]at q
  by_cases hbe:b=e
  ·have q':H b=some (.own x):=by
    rcases he with z | z
    ·exact absurd (hbe.trans z) hb
    ·rw[hbe];exact z
   rw[q]at q';cases q';obtain⟨v,hv⟩:=heo;exact⟨v,by rw[hbe];exact hv⟩
  ·refine(ok b u q).stay (fun c v hc r=>k c v ?_ r) (fun c r=>by rw[zb5 (nown c b r)];exact r) fun c xs r=>by rw[zb5 (ntup c xs r)];exact r
   rcases hc with rfl | hc
   ·exact hbe
   ·rintro rfl;rcases he with z | z
    ·exact nown c b hc z
    ·rw[hc]at z;cases z;exact hb rfl
end
structure Un(fs ex:List Addr)(H H':Hp)(h h':Heap):Prop where
 keep:∀b o,h.get? b=some o->H b=none->b∉fs->b∉ex->h'.get? b=some o
 slot:∀b o,h.get? b=some o->H b=none->b∈fs->b∉ex->∃sl,h'.get? b=some {o with slots:=sl}
 free:∀b o,h.get? b=some o->H b=none->b∉ex->H' b=none
 there:∀b o,h.get? b=some o->b∉ex->∃o',h'.get? b=some o'
 tups:∀b xs,H b=some (.tup xs)->H' b=some (.tup xs)
 frzs:∀b o u,H b=some (.frz o u)->H' b=some (.frz o u)
 tbls:∀b ps,H b=some (.tbl ps)->∃more,H' b=some (.tbl (ps++more))
section
variable{fs fs' ex ex':List Addr}{H H1 H2:Hp}{h h1 h2 h':Heap}{a x e:Addr}{o:HO}
theorem Un.any(u:Un fs ex H H1 h h1){b:Addr}{ob:Obj}(q:h.get? b=some ob)(n:H b=none)(hx:b∉ex):∃sl,h1.get? b=some {ob with slots:=sl}:=by
 by_cases hb:b∈fs
 ·exact u.slot b ob q n hb hx
 ·exact⟨ob.slots,u.keep b ob q n hb hx⟩
theorem Un.kept(k:∀b u,h.get? b=some u->h'.get? b=some u):Un fs ex H H h h':=
 ⟨fun b ob q _ _ _=>k b ob q,fun b ob q _ _ _=>⟨ob.slots,k b ob q⟩,fun _ _ _ n _=>n,fun b ob q _=>⟨ob,k b ob q⟩,fun _ _ q=>q,fun _ _ _ q=>q,fun _ ps q=>⟨#[],by rw[q];simp⟩⟩
theorem Un.refl:Un fs ex H H h h:=Un.kept fun _ _ q=>q
theorem Un.laid(k:∀b u,h.get? b=some u->h'.get? b=some u)(hp:h.objs.size<=a)(hn:H a=none):Un fs ex H (upd H a o) h h' where
 keep:=fun b u q _ _ _=>k b u q
 slot:=fun b u q _ _ _=>⟨u.slots,k b u q⟩
 free:=fun b u q n _=>by rw[zb5 (ws6 (ww2 (ws1 q) hp))];exact n
 there:=fun b u q _=>⟨u,k b u q⟩
 tups:=fun b xs q=>by rw[zb5 (zb4 q hn)];exact q
 frzs:=fun b u xs q=>by rw[zb5 (zb4 q hn)];exact q
 tbls:=fun b ps q=>⟨#[],by rw[zb5 (zb4 q hn),q];simp⟩
theorem Un.write(mu:Mut (H x))(he:e=x∨H e=some (.own x))(k:∀b u,b≠e->h.get? b=some u->h'.get? b=some u)(heo:∃u,h'.get? e=some u):Un fs ex H (upd H x o) h h':=by
 have hx:∀b,H b=none->b≠x:=fun b n z=>by subst z;rw[n]at mu;exact mu
 have hb:∀b,H b=none->b≠e:=fun b n z=>by
  subst z;rcases he with r | r
  ·exact hx b n r
  ·rw[n]at r;cases r
 have hm:∀b u,H b=some u->¬Mut (some u)->b≠x:=fun b u q nm z=>by subst z;rw[q]at mu;exact nm mu
 refine⟨fun b u q n _ _=>k b u (hb b n) q,fun b u q n _ _=>⟨u.slots,k b u (hb b n) q⟩,fun b u q n _=>by rw[zb5 (hx b n)];exact n,fun b u q _=>?_,
  fun b xs q=>by rw[zb5 (hm b _ q fun z=>z)];exact q,fun b u xs q=>by rw[zb5 (hm b _ q fun z=>z)];exact q,fun b ps q=>⟨#[],by rw[zb5 (hm b _ q fun z=>z),q];simp⟩⟩
 by_cases hbe:b=e
 ·subst hbe;exact heo
 ·exact⟨u,k b u hbe q⟩
end
def trk(h:Heap)(H:Hp):List Addr:=(List.range h.objs.size).filter fun a=>(H a).isSome
def hidT(h:Heap)(H:Hp):Heap:=PySem.W.hideAll h (trk h H)
theorem xf4(h:Heap)(H:Hp):(hidT h H).objs.size=h.objs.size:=PySem.W.hideAll_size _ _
theorem xt0{h:Heap}{H:Hp}{b:Addr}{o:Obj}(e:h.get? b=some o)(n:H b=none):(hidT h H).get? b=some o:=
 PySem.W.hideAll_get _ e fun hm=>by
  have q:(H b).isSome=true:=(wx8.mp hm).2;rw[n]at q;simp at q
theorem wf8{h:Heap}{H:Hp}{b:Addr}{o:Obj}(e:(hidT h H).get? b=some o):h.get? b=some o/\H b=none:=by
 have e':h.get? b=some o:=PySem.W.of_hideAll (trk h H) e;refine⟨e',?_⟩;cases q:H b with
 | none=>rfl
 | some x=>
  have hm:b∈trk h H:=wx8.mpr ⟨List.mem_range.mpr (ws1 e'),by simp[q]⟩;have z:(hidT h H).get? b=none:=PySem.W.hideAll_none (trk h H) hm;rw[z]at e;cases e
def wj1(g h:Heap)(L:Addr):List (Addr×Obj):=(List.range h.objs.size).filterMap fun a=>if a=L∨(g.get? a).isSome=true then none else(h.get? a).map fun o=>(a,o)
def rest(g h:Heap)(L d:Addr):List (Addr×Obj):=(wj1 g h L).filter fun p=>decide (p.1≠d)
structure Mod(K:PySem.W.Frag)(mg:Str->Option Value)(base:Heap):Prop where
 kin:K.In base
 glob:base.Ns mainGlobals mg
 blt:∃mb,base.Ns builtinsNs mb/\∀x:Str,x≠"__name__"->mb x=bootBuiltins x
 nolimit:base.NoLimit
structure Cx where
 prog:Program
 w:World
 K:PySem.W.Frag
 mg:Str->Option Value
 base:Heap
 A:Around
 N:List Str
 s₀:Shared
 H₀:Hp
 env:Env
 outer:List Env
 stack:List Env
 ex:List Addr
 fn:Str->Bool
 calm:Bool
 pn:List (Addr×Obj)
 xe:Value->Shared->Prop
def frs(l:List Env):List Addr:=l.filterMap (·.frame)
abbrev Cx.fs(X:Cx):List Addr:=frs X.outer
def Vis(sc:Scope)(x:Str):Prop:=sc.names.lookup x=some .local∨sc.names.lookup x=some .cell∨sc.names.lookup x=some .free
def Loc(sc:Scope)(x:Str):Prop:=sc.names.lookup x=some .local∨sc.names.lookup x=some .cell
def Look(env:Env)(h:Heap)(m:Str->Option Value)(x:Str)(u:Value):Prop:=
 (env.kindOf x=some .local/\m x=some u)∨((env.kindOf x=some .cell∨env.kindOf x=some .free)/\∃c,env.cells.lookup x=some c/\h.IsCell c (some u))
structure Cx.Ok(X:Cx):Prop where
 mod:Mod X.K X.mg X.base
 kind:X.env.scope.kind=.function
 glob:X.env.globals=mainGlobals
 blt:X.env.builtins=builtinsNs
 above:X.s₀.heap.objs.size<=X.env.locals
 inj:∀x y c,X.env.cells.lookup x=some c->X.env.cells.lookup y=some c->x=y
 has:∀x,(X.env.kindOf x=some .cell∨X.env.kindOf x=some .free)->∃c,X.env.cells.lookup x=some c
 cab:∀x c,X.fn x=true->X.env.cells.lookup x=some c->X.s₀.heap.objs.size<=c
 hd:X.calm=true->X.A.handled=none
 frames:X.A.frames=some X.stack
 stk:X.stack=X.outer∨(X.stack=X.env::X.outer/\X.env.frame=some X.env.locals)
 exf:∀b∈X.ex,b≠X.env.locals/\∀x c,X.env.cells.lookup x=some c->c≠b
 bs:∀b o,X.base.get? b=some o->X.s₀.heap.get? b=some o/\X.H₀ b=none
 bsz:X.base.objs.size<=X.s₀.heap.objs.size
 noex:∀b o,X.base.get? b=some o->b∉X.ex
 exfs:∀b∈X.ex,b∉X.fs
 funs:X.s₀.heap.FunFrames X.base X.outer
 frf:∀b∈X.fs,X.H₀ b=none
structure Inv(X:Cx)(pins:List (Addr×Obj))(σ:List (Option V))(H:Hp)(s:Shared):Prop where
 ok:X.Ok
 os:s.os=X.s₀.os
 bare:AllBare s.gens
 base:Un X.fs X.ex X.H₀ H X.s₀.heap s.heap
 loc:∃m,s.heap.Ns X.env.locals m/\∀(i:Nat)(x:Str)(v:V),X.N[i]?=some x->σ[i]?=some (some v)->Vis X.env.scope x->∃u,RelV v u/\Look X.env s.heap m x u
 cell:∀x c,X.env.cells.lookup x=some c->∃v,s.heap.IsCell c v
 free:H X.env.locals=none
 freeC:∀x c,X.env.cells.lookup x=some c->H c=none
 pin:∀p∈X.pn++pins,s.heap.get? p.1=some p.2/\H p.1=none/\p.1≠X.env.locals/\p.1∉X.fs/\∀v,p.2.data≠.cell v
 hok:HOk X.prog X.w H s.heap
 len:σ.length=X.N.length
section
variable{pins:List (Addr×Obj)}{σ:List (Option V)}{H H':Hp}{s:Shared}{h':Heap}
theorem Cx.Ok.nofr(ok:X.Ok){b:Addr}{o:Obj}(e:X.base.get? b=some o):b∉X.fs:=fun hb=>by
 have:=(ok.funs.mem hb).1;rw[e]at this;cases this
theorem Inv.bs(I:Inv X pins σ H s):∀b o,X.base.get? b=some o->s.heap.get? b=some o/\H b=none:=fun b o e=>
 ⟨I.base.keep b o (I.ok.bs b o e).1 (I.ok.bs b o e).2 (I.ok.nofr e) (I.ok.noex b o e),I.base.free b o (I.ok.bs b o e).1 (I.ok.bs b o e).2 (I.ok.noex b o e)⟩
theorem Inv.bk(I:Inv X pins σ H s):∀b o,X.base.get? b=some o->s.heap.get? b=some o:=fun b o e=>(I.bs b o e).1
theorem Inv.mod(I:Inv X pins σ H s):Mod X.K X.mg X.base:=I.ok.mod
theorem Inv.kIn(I:Inv X pins σ H s):X.K.In s.heap:=I.ok.mod.kin.keeps I.bk
theorem Inv.lt(I:Inv X pins σ H s):X.env.locals<s.heap.objs.size:=let ⟨_,hn,_⟩:=I.loc;hn.lt
theorem Inv.sz(I:Inv X pins σ H s):X.s₀.heap.objs.size<=s.heap.objs.size:=wx6 I.ok.above (ws3 I.lt)
theorem Inv.nofs(I:Inv X pins σ H s){a:Addr}(h:s.heap.objs.size<=a):a∉X.fs:=fun hb=>by
 obtain⟨_,o,ho,_⟩:=I.ok.funs.mem hb;exact absurd (ww2 (ws1 ho) (wx6 I.sz h)) (vb6 _)
theorem Inv.cne(I:Inv X pins σ H s):∀x c,X.env.cells.lookup x=some c->c≠X.env.locals:=fun x c e z=>by
 obtain⟨v,o,ho,hd⟩:=I.cell x c e;obtain⟨m,⟨o',es,ep,ho',hd',_⟩,_⟩:=I.loc;rw[z,ho']at ho;cases ho;rw[hd']at hd;cases hd
theorem Inv.funs(I:Inv X pins σ H s):s.heap.FunFrames X.base X.outer:=by
 have all:∀(l:List Env),(∀b∈frs l,b∈X.fs)->X.s₀.heap.FunFrames X.base l->s.heap.FunFrames X.base l:=by
  intro l
  induction l with
  | nil=>intro _ _;trivial
  | cons env r ih=>
   intro hs hl;obtain⟨hk,⟨L,o,hf,hn,ho,hd⟩,hr⟩:=hl;have hL:L∈X.fs:=hs L (by unfold frs;rw[vp0,hf];exact vf3);obtain⟨sl,e⟩:=I.base.slot L o ho (I.ok.frf L hL) hL fun z=>I.ok.exfs L z hL;exact⟨hk,⟨L,_,hf,hn,e,hd⟩,ih (fun b hb=>hs b (by unfold frs;rw[vp0,hf];exact ww6 _ hb)) hr⟩
 exact all X.outer (fun _ hb=>hb) I.ok.funs
theorem Inv.stack(I:Inv X pins σ H s):s.heap.FunFrames X.base X.stack:=by
 rcases I.ok.stk with e | ⟨e,hf⟩
 ·rw[e];exact I.funs
 ·rw[e];obtain⟨m,hn,_⟩:=I.loc;refine .cons (by rw[I.ok.kind];decide) hf hn ?_ I.funs;exact Heap.get?_none_of_le (wx6 I.ok.bsz I.ok.above)
theorem Inv.stkSub(I:Inv X pins σ H s):∀b∈frs X.stack,b∈X.env.locals::X.fs:=fun b hb=>by
 rcases I.ok.stk with e | ⟨e,hf⟩
 ·rw[e]at hb;exact ww6 _ hb
 ·rw[e]at hb;unfold frs at hb;rw[vp0,hf]at hb;exact hb
theorem Inv.stkFree(I:Inv X pins σ H s):∀b∈frs X.stack,H b=none:=fun b hb=>by
 rcases ws5.mp (I.stkSub b hb)with e | hb
 ·rw[e];exact I.free
 ·obtain⟨_,o,ho,_⟩:=I.ok.funs.mem hb;exact I.base.free b o ho (I.ok.frf b hb) fun z=>I.ok.exfs b z hb
theorem Inv.step{g':Array GenState}{t':Nat}{d':Drawn}{ch:List Addr}(I:Inv X pins σ H s)
  (hch:∀b∈ch,(b∈X.ex∨X.s₀.heap.objs.size<=b)/\b≠X.env.locals/\(∀x c,X.env.cells.lookup x=some c->c≠b)/\∀p∈X.pn++pins,p.1≠b)
  (keep:∀b o,b≠X.env.locals->b∉X.fs->b∉ch->s.heap.get? b=some o->H b=none->h'.get? b=some o)
  (slot:∀b o,b≠X.env.locals->b∈X.fs->b∉ch->s.heap.get? b=some o->H b=none->∃sl,h'.get? b=some {o with slots:=sl}) (free:∀b o,b∉ch->s.heap.get? b=some o->H b=none->H' b=none)
  (there:∀b o,b∉ch->s.heap.get? b=some o->∃o',h'.get? b=some o')
  (tups:∀b xs,H b=some (.tup xs)->H' b=some (.tup xs)) (frzs:∀b o u,H b=some (.frz o u)->H' b=some (.frz o u)) (tbls:∀b ps,H b=some (.tbl ps)->∃more,H' b=some (.tbl (ps++more)))
  (ns:∀m,s.heap.Ns X.env.locals m->h'.Ns X.env.locals m) (hok:HOk X.prog X.w H' h') (hg:AllBare g'):
  Inv X pins σ H' {s with heap:=h',gens:=g',drawn:=d',toks:=t'}:=by
 have neL:∀b o,X.s₀.heap.get? b=some o->b≠X.env.locals:=fun b o e=>ws6 (ww2 (ws1 e) I.ok.above);have neC:∀b o,X.s₀.heap.get? b=some o->b∉X.ex->b∉ch:=fun b o e hx hb=>by
  rcases(hch b hb).1 with z | z
  ·exact hx z
  ·exact absurd (ww2 (ws1 e) z) (vb6 _)
 have cellK:∀x c,X.env.cells.lookup x=some c->∀v,s.heap.IsCell c v->h'.IsCell c v:=fun x c e v ⟨o,ho,hd⟩=>by
  have nch:c∉ch:=fun z=>(hch c z).2.2.1 x c e rfl
  by_cases hc:c∈X.fs
  ·obtain⟨sl,q⟩:=slot c o (I.cne x c e) hc nch ho (I.freeC x c e);exact⟨_,q,hd⟩
  ·exact⟨o,keep c o (I.cne x c e) hc nch ho (I.freeC x c e),hd⟩
 refine⟨I.ok,I.os,hg,⟨fun b o e n hb hx=>?_,fun b o e n hb hx=>?_,fun b o e n hx=>?_,fun b o e hx=>?_,fun b xs e=>tups b xs (I.base.tups b xs e),fun b o xs e=>frzs b o xs (I.base.frzs b o xs e),fun b ps e=>?_⟩,?_,fun x c e=>?_,?_,fun x c e=>?_,fun p hp=>?_,hok,I.len⟩
 ·exact keep b o (neL b o e) hb (neC b o e hx) (I.base.keep b o e n hb hx) (I.base.free b o e n hx)
 ·obtain⟨sl,e1⟩:=I.base.slot b o e n hb hx;obtain⟨sl',e2⟩:=slot b _ (neL b o e) hb (neC b o e hx) e1 (I.base.free b o e n hx);exact⟨sl',e2⟩
 ·obtain⟨o',e1⟩:=I.base.there b o e hx;exact free b o' (neC b o e hx) e1 (I.base.free b o e n hx)
 ·obtain⟨o',e1⟩:=I.base.there b o e hx;exact there b o' (neC b o e hx) e1
 ·obtain⟨m1,e1⟩:=I.base.tbls b ps e;obtain⟨m2,e2⟩:=tbls b _ e1;exact⟨m1++m2,by rw[e2,Array.append_assoc]⟩
 ·obtain⟨m,hn,hl⟩:=I.loc;refine⟨m,ns m hn,fun i x v e1 e2 e3=>?_⟩;obtain⟨u,r,l⟩:=hl i x v e1 e2 e3;refine⟨u,r,?_⟩;rcases l with l | ⟨k,c,e,z⟩
  ·exact .inl l
  ·exact .inr ⟨k,c,e,cellK x c e _ z⟩
 ·obtain⟨v,z⟩:=I.cell x c e;exact⟨v,cellK x c e v z⟩
 ·obtain⟨m,⟨o,_,_,ho,_⟩,_⟩:=I.loc;exact free _ o (fun z=>(hch _ z).2.1 rfl) ho I.free
 ·obtain⟨v,o,ho,hd⟩:=I.cell x c e;exact free c o (fun z=>(hch c z).2.2.1 x c e rfl) ho (I.freeC x c e)
 ·obtain⟨e,n,ne,nf,d⟩:=I.pin p hp;have nch:p.1∉ch:=fun z=>(hch p.1 z).2.2.2 p hp rfl;exact⟨keep p.1 p.2 ne nf nch e n,free p.1 p.2 nch e n,ne,nf,d⟩
theorem Inv.un{t':Nat}(I:Inv X pins σ H s)(u:Un X.fs [] H H' s.heap h')(hok:HOk X.prog X.w H' h'):Inv X pins σ H' {s with heap:=h',toks:=t'}:=by
 obtain⟨m,⟨o,es,ep,ho,r⟩,_⟩:=id I.loc;obtain⟨sl,hL⟩:=u.any ho I.free (by simp);exact I.step (g':=s.gens) (d':=s.drawn) (ch:=[]) (fun _ z=>nomatch z) (fun b o _ hb _ e n=>u.keep b o e n hb (by simp)) (fun b o _ hb _ e n=>u.slot b o e n hb (by simp)) (fun b o _ e n=>u.free b o e n (by simp)) (fun b o _ e=>u.there b o e (by simp)) u.tups u.frzs u.tbls (fun m' hm=>by
  obtain⟨o',es',ep',ho',r'⟩:=hm;rw[ho]at ho';cases ho';exact⟨_,es',ep',hL,r'⟩) hok I.bare
theorem Inv.call{g':Array GenState}{t':Nat}{d':Drawn}{ch:List Addr}(I:Inv X pins σ H s)(u:Un (frs X.stack) ch H H' s.heap h')(hok:HOk X.prog X.w H' h')(hg:AllBare g')
  (hch:∀b∈ch,(b∈X.ex∨X.s₀.heap.objs.size<=b)/\b≠X.env.locals/\(∀x c,X.env.cells.lookup x=some c->c≠b)/\∀p∈X.pn++pins,p.1≠b):
  Inv X pins σ H' {s with heap:=h',gens:=g',drawn:=d',toks:=t'}:=by
 obtain⟨m,⟨o,es,ep,ho,r⟩,_⟩:=id I.loc;obtain⟨sl,hL⟩:=u.any ho I.free fun z=>(hch _ z).2.1 rfl;exact I.step (ch:=ch) hch (fun b o hL hb hc e n=>u.keep b o e n (fun z=>(ws5.mp (I.stkSub b z)).elim hL hb) hc) (fun b o _ _ hc e n=>u.any e n hc) (fun b o hc e n=>u.free b o e n hc) (fun b o hc e=>u.there b o e hc) u.tups u.frzs u.tbls (fun m' hm=>by
  obtain⟨o',es',ep',ho',r'⟩:=hm;rw[ho]at ho';cases ho';exact⟨_,es',ep',hL,r'⟩) hok hg
theorem Inv.turned{t':Nat}{it:Addr}(I:Inv X pins σ H s)(k:∀b o,b≠it->s.heap.get? b=some o->h'.get? b=some o)(hn:H it=none)(hL:it≠X.env.locals)
  (h1:it∈X.ex∨X.s₀.heap.objs.size<=it) (h2:∀x c,X.env.cells.lookup x=some c->c≠it) (h3:∀p∈X.pn++pins,p.1≠it):Inv X pins σ H {s with heap:=h',toks:=t'}:=by
 have nit:∀b u,H b=some u->b≠it:=fun b u e z=>by rw[z,hn]at e;cases e
 refine I.step (g':=s.gens) (d':=s.drawn) (ch:=[it]) (fun b hb=>?_) (fun b o _ _ hc e _=>k b o (fun z=>hc (by simp[z])) e) (fun b o _ _ hc e _=>⟨o.slots,k b o (fun z=>hc (by simp[z])) e⟩) (fun _ _ _ _ n=>n)
  (fun b o hc e=>⟨o,k b o (fun z=>hc (by simp[z])) e⟩) (fun _ _ e=>e) (fun _ _ _ e=>e) (fun b ps e=>⟨#[],by rw[e];simp⟩) (fun m hm=>?_) (fun b u e=>?_) I.bare
 ·have e:b=it:=by simpa using hb
  subst e;exact⟨h1,hL,h2,h3⟩
 ·obtain⟨o,es,ep,ho,r⟩:=hm;exact⟨o,es,ep,k _ o (vb3 hL) ho,r⟩
 ·refine(I.hok b u e).stay (fun c v hc q=>k c v ?_ q) (fun _ q=>q) fun _ _ q=>q;rcases hc with z | z
  ·rw[z];exact nit b u e
  ·exact nit c _ z
theorem Inv.tok(I:Inv X pins σ H s)(t:Nat):Inv X pins σ H {s with toks:=t}:=I.un (h':=s.heap) (t':=t) Un.refl I.hok
theorem Inv.kept{t':Nat}(I:Inv X pins σ H s)(k:∀b u,s.heap.get? b=some u->h'.get? b=some u):Inv X pins σ H {s with heap:=h',toks:=t'}:=I.un (Un.kept k) (I.hok.kept k)
theorem Inv.laid{a:Addr}{o:HO}{t':Nat}(I:Inv X pins σ H s)(k:∀b u,s.heap.get? b=some u->h'.get? b=some u)(hp:s.heap.objs.size<=a)(new:ObjOk X.prog X.w (upd H a o) h' a o):
  Inv X pins σ (upd H a o) {s with heap:=h',toks:=t'}:=I.un (Un.laid k hp (I.hok.fresh hp)) (I.hok.laid k hp new)
theorem Inv.write{x e:Addr}{o:HO}{t':Nat}(I:Inv X pins σ H s)(mu:Mut (H x))(he:e=x∨H e=some (.own x))(k:∀b u,b≠e->s.heap.get? b=some u->h'.get? b=some u)(heo:∃u,h'.get? e=some u)
  (new:ObjOk X.prog X.w (upd H x o) h' x o):Inv X pins σ (upd H x o) {s with heap:=h',toks:=t'}:=I.un (Un.write mu he k heo) (I.hok.write mu he k heo new)
theorem Inv.pins_of{pins':List (Addr×Obj)}(I:Inv X pins σ H s)(h:∀p∈pins',s.heap.get? p.1=some p.2/\H p.1=none/\p.1≠X.env.locals/\p.1∉X.fs/\∀v,p.2.data≠.cell v):Inv X pins' σ H s:=
 ⟨I.ok,I.os,I.bare,I.base,I.loc,I.cell,I.free,I.freeC,fun p hp=>(wt9.mp hp).elim (fun z=>I.pin p (vj0 _ z)) (h p),I.hok,I.len⟩
theorem yz5{N:List Str}(hN:N.Nodup){i j:Nat}{x:Str}(a:N[i]?=some x)(b:N[j]?=some x):i=j:=by
 obtain⟨h1,e1⟩:=wr1.mp a;obtain⟨h2,e2⟩:=wr1.mp b;exact(vn5 hN).mp (e1.trans e2.symm)
theorem zz4{M:Model}{A:Around}{E:Value->Shared->Prop}{i:Nat}{x:Str}{v:V}{u:Value}{Q:Unit->Shared->Prop}(I:Inv X pins σ H s)(hN:X.N.Nodup)(hi:X.N[i]?=some x)(hx:Loc X.env.scope x)(r:RelV v u)
  (h:∀s',Inv X pins (σ.set i (some v)) H s'->(∃a,Heap.SameBut a s.heap s'.heap/\(a=X.env.locals∨X.env.cells.lookup x=some a))->Q () s') (hf:X.fn x=true∨X.env.scope.names.lookup x=some .local:=by first | exact .inl rfl | exact .inr rfl | assumption):wpAny M A (storeName X.env x u) Q E s:=by
 obtain⟨m,hn,hl⟩:=id I.loc;have hcls:(X.env.scope.kind == .class || (X.env.scope.kind == .module && X.env.locals != X.env.globals))=false:=by rw[I.ok.kind];rfl
 have hiσ:i<σ.length:=by rw[I.len];exact(wr1.mp hi).1
 have cne:=I.cne;have tracked:∀{a:Addr}{h':Heap},(∃o,s.heap.get? a=some o/\H a=none)->Heap.SameBut a s.heap h'->HOk X.prog X.w H h':=fun {a h'} ha hs b ob e=>by
  obtain⟨_,_,hfree⟩:=ha;refine(I.hok b ob e).stay (fun c w' hc q=>(hs.2 c ?_).trans q) (fun _ q=>q) fun _ _ q=>q;rintro rfl;rcases hc with rfl | hc
  ·rw[hfree]at e;cases e
  ·rw[hfree]at hc;cases hc
 rcases hx with hk | hk
 ·refine wpAny_storeName_local hk hn (fun h' hn' hs=>?_) hcls;obtain⟨oL,_,_,hoL,_⟩:=id hn;refine h _ ⟨I.ok,I.os,I.bare,⟨fun b o e n hb hx=>?_,fun b o e n hb hx=>?_,I.base.free,fun b o e hx=>?_,I.base.tups,I.base.frzs,I.base.tbls⟩,⟨_,hn',fun j y v' e1 e2 e3=>?_⟩,fun y c e=>?_,I.free,I.freeC,fun p hp=>?_,tracked ⟨oL,hoL,I.free⟩ hs,by simpa using I.len⟩ ⟨_,hs,.inl rfl⟩
  ·exact(hs.2 b (ws6 (ww2 (ws1 e) I.ok.above))).trans (I.base.keep b o e n hb hx)
  ·obtain⟨sl,e1⟩:=I.base.slot b o e n hb hx;exact⟨sl,(hs.2 b (ws6 (ww2 (ws1 e) I.ok.above))).trans e1⟩
  ·obtain⟨o',e1⟩:=I.base.there b o e hx;exact⟨o',(hs.2 b (ws6 (ww2 (ws1 e) I.ok.above))).trans e1⟩
  ·by_cases hj:j=i
   ·subst hj;rw[hi]at e1;cases e1;rw[List.getElem?_set_self hiσ]at e2;cases e2;exact⟨u,r,.inl ⟨hk,by simp⟩⟩
   ·rw[List.getElem?_set_ne (vb3 hj)]at e2;obtain⟨u',r',q⟩:=hl j y v' e1 e2 e3;refine⟨u',r',?_⟩;rcases q with ⟨k,e⟩ | ⟨k,c,e,z⟩
    ·refine .inl ⟨k,?_⟩;have:y≠x:=fun e=>hj (yz5 hN e1 (e▸hi));simp[this,e]
    ·exact .inr ⟨k,c,e,z.sameBut hs (cne y c e)⟩
  ·obtain⟨w',z⟩:=I.cell y c e;exact⟨w',z.sameBut hs (cne y c e)⟩
  ·obtain⟨e,n,ne,nf,d⟩:=I.pin p hp;exact⟨(hs.2 p.1 ne).trans e,n,ne,nf,d⟩
 ·have hfn:X.fn x=true:=by
   rcases hf with z | z
   ·exact z
   ·rw[z]at hk;cases hk
  obtain⟨c,hc⟩:=I.ok.has x (.inl hk);obtain⟨w',z⟩:=I.cell x c hc;refine wpAny_storeName_cell I.ok.kind hk hc z (fun h' hc' hs=>?_);obtain⟨oc,hoc,hocd⟩:=id z;refine h {s with heap:=h'} ⟨I.ok,I.os,I.bare,⟨fun b o e n hb hx=>?_,fun b o e n hb hx=>?_,I.base.free,fun b o e hx=>?_,I.base.tups,I.base.frzs,I.base.tbls⟩,⟨m,hn.sameBut hs (vb3 (cne x c hc)),fun j y v' e1 e2 e3=>?_⟩,fun y c' e=>?_,I.free,I.freeC,fun p hp=>?_,tracked ⟨oc,hoc,I.freeC x c hc⟩ hs,by simpa using I.len⟩ ⟨c,hs,.inr hc⟩
  ·exact(hs.2 b (ws6 (ww2 (ws1 e) (I.ok.cab x c hfn hc)))).trans (I.base.keep b o e n hb hx)
  ·obtain⟨sl,e1⟩:=I.base.slot b o e n hb hx;exact⟨sl,(hs.2 b (ws6 (ww2 (ws1 e) (I.ok.cab x c hfn hc)))).trans e1⟩
  ·obtain⟨o',e1⟩:=I.base.there b o e hx;exact⟨o',(hs.2 b (ws6 (ww2 (ws1 e) (I.ok.cab x c hfn hc)))).trans e1⟩
  ·by_cases hj:j=i
   ·subst hj;rw[hi]at e1;cases e1;rw[List.getElem?_set_self hiσ]at e2;cases e2;exact⟨u,r,.inr ⟨.inl hk,c,hc,hc'⟩⟩
   ·rw[List.getElem?_set_ne (vb3 hj)]at e2;obtain⟨u',r',q⟩:=hl j y v' e1 e2 e3;refine⟨u',r',?_⟩;rcases q with q | ⟨k,c',e,z'⟩
    ·exact .inl q
    ·refine .inr ⟨k,c',e,z'.sameBut hs ?_⟩;rintro rfl;exact hj (yz5 hN e1 (I.ok.inj _ _ _ e hc▸hi))
  ·by_cases hcc:c'=c
   ·subst hcc;exact⟨_,hc'⟩
   ·obtain⟨w2,z2⟩:=I.cell y c' e;exact⟨w2,z2.sameBut hs hcc⟩
  ·obtain⟨e,n,ne,nf,d⟩:=I.pin p hp;refine⟨(hs.2 p.1 ?_).trans e,n,ne,nf,d⟩;intro q;rw[q,hoc]at e;have q':oc=p.2:=wx7 e;exact d w' (by rw[←q'];exact hocd)
theorem zx5{M:Model}{A:Around}{E:Value->Shared->Prop}{i:Nat}{x:Str}{v:V}{u:Value}{Q:Unit->Shared->Prop}(I:Inv X pins σ H s)(hN:X.N.Nodup)(hi:X.N[i]?=some x)(hx:Loc X.env.scope x)(r:RelV v u)
  (h:∀s',Inv X pins (σ.set i (some v)) H s'->Q () s') (hf:X.fn x=true∨X.env.scope.names.lookup x=some .local:=by first | exact .inl rfl | exact .inr rfl | assumption):wpAny M A (storeName X.env x u) Q E s:=
 zz4 I hN hi hx r (fun s' I' _=>h s' I') hf
end
abbrev XK:=Value->Option Addr->Hp->Prop
abbrev St:=List (Option V)
abbrev VK:=V->Hp->Prop
abbrev TE:=St->Hp->VK->Prop
abbrev TT:=St->Hp->(Bool->Hp->Prop)->Prop
abbrev TA:=St->Hp->(List V->Hp->Prop)->Prop
structure Ends where
 nx:St->Hp->Prop
 rt:VK
 bk:St->Hp->Prop:=fun _ _=>False
 ct:St->Hp->Prop:=fun _ _=>False
abbrev TS:=Ends->St->Hp->Prop
def EP(X:Cx)(pins:List (Addr×Obj))(σ:St)(Q:VK)(u:Value)(s':Shared):Prop:=∃v H',Inv X pins σ H' s'/\RelV v u/\Q v H'
def TP(X:Cx)(pins:List (Addr×Obj))(σ:St)(Q:Bool->Hp->Prop)(b:Bool)(s':Shared):Prop:=∃H',Inv X pins σ H' s'/\Q b H'
def AP(X:Cx)(pins:List (Addr×Obj))(σ:St)(Q:List V->Hp->Prop)(us:List Value)(s':Shared):Prop:=∃vs H',Inv X pins σ H' s'/\Vals vs us/\Q vs H'
def SP(X:Cx)(pins:List (Addr×Obj))(D:Ends)(f:Flow)(s':Shared):Prop:=
 match f with
 | .next=>∃σ' H',Inv X pins σ' H' s'/\D.nx σ' H'
 | .brk=>∃σ' H',Inv X pins σ' H' s'/\D.bk σ' H'
 | .cont=>∃σ' H',Inv X pins σ' H' s'/\D.ct σ' H'
 | .ret u=>∃v σ' H',Inv X pins σ' H' s'/\RelV v u/\D.rt v H'
def PE(X:Cx)(e:Expr)(t:TE):Prop:=
 ∀(pins:List (Addr×Obj))(s:Shared)(σ:St)(H:Hp)(Q:VK),Inv X pins σ H s->t σ H Q->wpAny (model X.prog X.w) X.A (eval e X.env) (EP X pins σ Q) X.xe s
def PT(X:Cx)(e:Expr)(t:TT):Prop:=
 ∀(pins:List (Addr×Obj))(s:Shared)(σ:St)(H:Hp)(Q:Bool->Hp->Prop),Inv X pins σ H s->t σ H Q->wpAny (model X.prog X.w) X.A (isTrue e X.env (eval e X.env)) (TP X pins σ Q) X.xe s
def PW(X:Cx)(e:Expr)(t:TT):Prop:=
 ∀(whole:Sem Value)(pins:List (Addr×Obj))(s:Shared)(σ:St)(H:Hp)(Q:Bool->Hp->Prop),Inv X pins σ H s->t σ H Q->wpAny (model X.prog X.w) X.A (isTrue e X.env whole) (TP X pins σ Q) X.xe s
theorem PW.pt{X:Cx}{e:Expr}{t:TT}(h:PW X e t):PT X e t:=h _
def PA(X:Cx)(es:List Expr)(t:TA):Prop:=
 ∀(pos:Pos)(pins:List (Addr×Obj))(s:Shared)(σ:St)(H:Hp)(Q:List V->Hp->Prop),Inv X pins σ H s->t σ H Q->wpAny (model X.prog X.w) X.A (spliced (backTo pos (starEach es X.env))) (AP X pins σ Q) X.xe s
def PS(X:Cx)(st:Stmt)(t:TS):Prop:=
 ∀(pins:List (Addr×Obj))(s:Shared)(σ:St)(H:Hp)(D:Ends),Inv X pins σ H s->t D σ H->wpAny (model X.prog X.w) X.A (exec st X.env) (SP X pins D) X.xe s
def PSs(X:Cx)(st:List Stmt)(t:TS):Prop:=
 ∀(pins:List (Addr×Obj))(s:Shared)(σ:St)(H:Hp)(D:Ends),Inv X pins σ H s->t D σ H->wpAny (model X.prog X.w) X.A (execs st X.env) (SP X pins D) X.xe s
theorem thn{α:Type}{t:Sem α}{Q Q':α->Shared->Prop}{M:Model}{A:Around}{E:Value->Shared->Prop}{s:Shared}(h:wpAny M A t Q E s)(hQ:∀a s,Q a s->Q' a s):wpAny M A t Q' E s:=wz4 h hQ fun _ _ x=>x
def tVar(i:Nat):TE:=fun σ H Q=>∃v,σ[i]?=some (some v)/\Q v H
def tC(v:V):TE:=fun _ H Q=>Q v H
theorem xp5{i:Nat}{x:Str}{pos:Pos}(hN:X.N[i]?=some x)(hv:Vis X.env.scope x)(hd:(x == ("__debug__":Str))=false:=by decide)(hcd:(x == ("__classdict__":Str))=false:=by decide):PE X (.Name x pos) (tVar i):=by
 intro pins s σ H Q I h;obtain⟨v,e,h⟩:=h;obtain⟨m,hn,hl⟩:=I.loc;obtain⟨u,r,l⟩:=hl i x v hN e hv;have fin:EP X pins σ Q u s:=⟨v,H,I,r,h⟩;rcases l with ⟨hk,hm⟩ | ⟨hk,c,hc,hcell⟩
 ·exact wpAny_Name (wpAny_loadName_local I.ok.kind hk hn hm fin) hd
 ·rcases hk with hk | hk
  ·exact wpAny_Name (wpAny_loadName_cell I.ok.kind hk hc hcell fin) hd
  ·exact wpAny_Name (wpAny_loadName_free I.ok.kind hk hc hcell fin hcd) hd
theorem zb6{i j pos}:PE X (.Constant (.int i) j pos) (tC (.int i)):=fun _ _ _ H _ I h=>wpAny_Constant_int ⟨.int i,H,I.tok _,⟨_,rfl⟩,h⟩
theorem zw1{b j pos}:PE X (.Constant (.bool b) j pos) (tC (.bl b)):=fun _ _ _ H _ I h=>Constant_bool ⟨.bl b,H,I,rfl,h⟩
theorem yq3{j pos}:PE X (.Constant .none j pos) (tC .non):=fun _ _ _ H _ I h=>Constant_none ⟨.non,H,I,rfl,h⟩
theorem zd4{x j pos}:PE X (.Constant (.str x) j pos) (tC (.str x)):=fun _ _ _ H _ I h=>Calls.Constant_str ⟨.str x,H,I.tok _,⟨_,rfl⟩,h⟩
def Gl(X:Cx)(x:Str):Prop:=X.env.kindOf x=some .globalImplicit
theorem xr5{E:Value->Shared->Prop}{pins:List (Addr×Obj)}{s:Shared}{σ:St}{H:Hp}{x:Str}{u:Value}{pos:Pos}{Q:Value->Shared->Prop}(I:Inv X pins σ H s)(hg:Gl X x)(hm:X.mg x=some u)(h:Q u s)
  (hd:(x == ("__debug__":Str))=false:=by decide):wpAny (model X.prog X.w) X.A (eval (.Name x pos) X.env) Q E s:=
 Calls.Name_function_global I.ok.kind hg (Calls.loadGlobal_global (by rw[I.ok.glob];exact I.mod.glob.keeps I.bk) hm h) hd
theorem zv5{E:Value->Shared->Prop}{pins:List (Addr×Obj)}{s:Shared}{σ:St}{H:Hp}{x:Str}{u:Value}{pos:Pos}{Q:Value->Shared->Prop}(I:Inv X pins σ H s)(hg:Gl X x)(hm:X.mg x=none)(hv:bootBuiltins x=some u)(h:Q u s)
  (hn:x≠"__name__":=by decide) (hd:(x == ("__debug__":Str))=false:=by decide):wpAny (model X.prog X.w) X.A (eval (.Name x pos) X.env) Q E s:=by
 obtain⟨mb,h1,h2⟩:=I.mod.blt;exact Calls.Name_function_global I.ok.kind hg (Calls.loadGlobal_builtin (by rw[I.ok.glob];exact I.mod.glob.keeps I.bk) hm (by rw[I.ok.blt];exact h1.keeps I.bk) ((h2 x hn).trans hv) h) hd
theorem yr7{x:Str}{v:V}{u:Value}{pos:Pos}(hg:Gl X x)(hm:X.mg x=some u)(r:RelV v u)(hd:(x == ("__debug__":Str))=false:=by decide):PE X (.Name x pos) (tC v):=
 fun _ _ _ H _ I h=>xr5 I hg hm ⟨v,H,I,r,h⟩ hd
variable{a b:Expr}{ta tb:TE}{pos:Pos}
def PC(X:Cx)(op:CmpOp)(a b:Expr)(t:TE):Prop:=
 ∀(pins:List (Addr×Obj))(s:Shared)(σ:St)(H:Hp)(Q:VK),Inv X pins σ H s->t σ H Q->
  wpAny (model X.prog X.w) X.A (eval a X.env) (fun v s₁=>wpAny (model X.prog X.w) X.A (eval b X.env) (fun u s₂=>wpAny (model X.prog X.w) X.A (compareOp op v u) (EP X pins σ Q) X.xe s₂) X.xe s₁) X.xe s
theorem yx6(b:Expr){op:CmpOp}(h:op≠.In)(h2:op≠.NotIn):behindInMarks op b=false:=by
 have e1:(op == CmpOp.In)=false:=by cases op <;> first | rfl | exact absurd rfl h
 have e2:(op == CmpOp.NotIn)=false:=by cases op <;> first | rfl | exact absurd rfl h2
 cases b <;> simp[behindInMarks,e1,e2]
def tIsN(ta:TE):TE:=fun σ H Q=>ta σ H fun x H1=>Q (.bl (decide (x=.non))) H1
def tNotN(ta:TE):TE:=fun σ H Q=>ta σ H fun x H1=>Q (.bl (!decide (x=.non))) H1
theorem RelV.none_iff{x:V}{v:Value}(r:RelV x v):(v == Value.none)=decide (x=.non):=by
 cases x with
 | non=>cases r;rfl
 | bl _=>cases r;rfl
 | int _=>obtain⟨t,rfl⟩:=r;rfl
 | str _=>obtain⟨t,rfl⟩:=r;rfl
 | byt _=>obtain⟨t,rfl⟩:=r;rfl
 | flt _=>obtain⟨t,rfl⟩:=r;rfl
 | ref _=>cases r;rfl
 | ty _=>cases r;rfl
theorem xh5{j pos'}(ha:PE X a ta):PC X .Is a (.Constant .none j pos') (tIsN ta):=by
 intro pins s σ H Q I h;refine thn (ha pins s σ H _ I h) fun v s1 ⟨x,H1,I1,r1,q1⟩=>?_;exact Constant_none (is_none_gen ⟨.bl _,H1,I1,by rw[r1.none_iff];rfl,q1⟩)
theorem zt8{j pos'}(ha:PE X a ta):PC X .IsNot a (.Constant .none j pos') (tNotN ta):=by
 intro pins s σ H Q I h;refine thn (ha pins s σ H _ I h) fun v s1 ⟨x,H1,I1,r1,q1⟩=>?_;exact Constant_none (isnot_none_gen ⟨.bl _,H1,I1,by rw[r1.none_iff];rfl,q1⟩)
def tB(t:TE):TT:=fun σ H Q=>t σ H fun x H1=>∃c,x=.bl c/\Q c H1
theorem pe_cmp{op:CmpOp}{t:TE}(h:PC X op a b t)(h1:behindInMarks op b=false:=by first | exact yx6 _ (by decide) (by decide) | rfl):PE X (.Compare a [op] [b] pos) t:=fun pins s σ H Q I hw=>wpAny_Compare1 (h pins s σ H Q I hw) h1
theorem zs5{op:CmpOp}{t:TE}(h:PC X op a b t)(h1:behindInMarks op b=false:=by first | exact yx6 _ (by decide) (by decide) | rfl):PT X (.Compare a [op] [b] pos) (tB t):=by
 intro pins s σ H Q I hw;refine wpAny_isTrue_Compare1 (thn (h pins s σ H _ I hw) fun v s1 h1=>thn h1 fun u s2 h2=>thn h2 fun c s3 ⟨x,H1,I1,r1,q1⟩=>?_) h1;obtain⟨d,rfl,q⟩:=q1;cases r1;exact vj1 ⟨H1,I1,q⟩
theorem yg1{e:Expr}{t:TE}(h:PE X e t)(he:∀whole,isTrue e X.env whole=(do let v ←whole;standAt e.pos;holding [v] (truthy v)):=by intro _;rfl):PT X e (tB t):=by
 intro pins s σ H Q I hw;refine isTrue_plain (thn (h pins s σ H _ I hw) fun v s1 ⟨x,H1,I1,r1,q1⟩=>?_) (he _);obtain⟨d,rfl,q⟩:=q1;cases r1;exact vj1 ⟨H1,I1,q⟩
variable{tA tB':TT}{rest:List Expr}
def tAnd(t u:TT):TT:=fun σ H Q=>t σ H fun c H1=>if c=true then u σ H1 Q else Q false H1
def tOr(t u:TT):TT:=fun σ H Q=>t σ H fun c H1=>if c=true then Q true H1 else u σ H1 Q
def tNot(t:TT):TT:=fun σ H Q=>t σ H fun c H1=>Q (!c) H1
theorem zk0(ha:PT X a tA):PW X (.BoolOp .And [a] pos) tA:=by
 intro wh pins s σ H Q I h;refine isTrue_and (thn (ha pins s σ H Q I h) fun c s1 e=>?_);cases c with
 | true=>exact isTrue_and_nil e
 | false=>exact e
theorem yn1(ha:PT X a tA):PW X (.BoolOp .Or [a] pos) tA:=by
 intro wh pins s σ H Q I h;refine isTrue_or (thn (ha pins s σ H Q I h) fun c s1 e=>?_);cases c with
 | false=>exact isTrue_or_nil e
 | true=>exact e
theorem zk4(ha:PT X a tA)(hb:PW X (.BoolOp .And (b::rest) pos) tB'):PW X (.BoolOp .And (a::b::rest) pos) (tAnd tA tB'):=by
 intro wh pins s σ H Q I h;refine isTrue_and (thn (ha pins s σ H _ I h) fun c s1 ⟨H1,I1,q1⟩=>?_);cases c with
 | true=>exact hb wh pins s1 σ H1 Q I1 q1
 | false=>exact⟨H1,I1,q1⟩
theorem xq7(ha:PT X a tA)(hb:PW X (.BoolOp .Or (b::rest) pos) tB'):PW X (.BoolOp .Or (a::b::rest) pos) (tOr tA tB'):=by
 intro wh pins s σ H Q I h;refine isTrue_or (thn (ha pins s σ H _ I h) fun c s1 ⟨H1,I1,q1⟩=>?_);cases c with
 | true=>exact⟨H1,I1,q1⟩
 | false=>exact hb wh pins s1 σ H1 Q I1 q1
theorem pt_not(ha:PT X a tA):PT X (.UnaryOp .Not a pos) (tNot tA):=by
 intro pins s σ H Q I h;exact isTrue_not (ha pins s σ H (fun c H1=>Q (!c) H1) I h)
def tAndV(ta tb:TE):TE:=fun σ H Q=>ta σ H fun x H1=>∃c,x=.bl c/\if c=true then tb σ H1 Q else Q (.bl false) H1
def tNotV(ta:TE):TE:=fun σ H Q=>ta σ H fun x H1=>∃c,x=.bl c/\Q (.bl (!c)) H1
theorem pe_one{op}{t:TE}(h:PE X a t):PE X (.BoolOp op [a] pos) t:=fun pins s σ H Q I hw=>BoolOp_one (h pins s σ H Q I hw)
theorem pe_and(ha:PE X a ta)(hb:PE X (.BoolOp .And (b::rest) pos) tb):PE X (.BoolOp .And (a::b::rest) pos) (tAndV ta tb):=by
 intro pins s σ H Q I h;refine BoolOp_and (thn (ha pins s σ H _ I h) fun v s1 ⟨x,H1,I1,r1,q1⟩=>?_);obtain⟨c,rfl,q1⟩:=q1;cases r1;refine vj1 ?_;cases c with
 | true=>exact hb pins s1 σ H1 Q I1 q1
 | false=>exact⟨.bl false,H1,I1,rfl,q1⟩
theorem pe_not(ha:PE X a ta):PE X (.UnaryOp .Not a pos) (tNotV ta):=by
 intro pins s σ H Q I h;refine UnaryOp_ (thn (ha pins s σ H _ I h) fun v s1 ⟨x,H1,I1,r1,q1⟩=>?_);obtain⟨c,rfl,q1⟩:=q1;cases r1;exact not_of (vj1 ⟨.bl (!c),H1,I1,rfl,q1⟩)
def tIf(t:TT)(ta tb:TE):TE:=fun σ H Q=>t σ H fun c H1=>if c=true then ta σ H1 Q else tb σ H1 Q
theorem xv6{c:Expr}(hc:PT X c tA)(ha:PE X a ta)(hb:PE X b tb):PE X (.IfExp c a b pos) (tIf tA ta tb):=by
 intro pins s σ H Q I h;refine wpAny_IfExp (thn (hc pins s σ H _ I h) fun d s1 ⟨H1,I1,q1⟩=>?_);cases d with
 | true=>exact ha pins s1 σ H1 Q I1 q1
 | false=>exact hb pins s1 σ H1 Q I1 q1
def SqL(K:PySem.W.Frag)(H:Hp)(a:Addr)(xs:List V):Prop:=
 Rd H a (.lst xs)∨
  ∃(o:Obj)(its:Array Value)(n:Nat),K.lookup a=some o/\o.cls=.type "list"/\o.dict=none/\o.data=.seq its n/\its.size<=sizeLine/\Vals xs its.toList
def SqT(K:PySem.W.Frag)(H:Hp)(a:Addr)(xs:List V):Prop:=
 Rd H a (.tup xs)∨
  ∃(o:Obj)(its:Array Value)(n:Nat),K.lookup a=some o/\o.cls=.type "tuple"/\o.data=.seq its n/\its.size<=sizeLine/\Vals xs its.toList
def absV:Value->Option V
 | .none=>some .non
 | .bool b=>some (.bl b)
 | .int i _=>some (.int i)
 | .str x _=>some (.str x)
 | .bytes b _=>some (.byt b)
 | .float b _=>some (.flt b)
 | .ref a=>some (.ref a)
 | .type n=>some (.ty n)
 | _=>none
theorem RelV.abs{x:V}{u:Value}(r:RelV x u):absV u=some x:=by
 cases x with
 | non=>cases r;rfl
 | bl _=>cases r;rfl
 | int _=>obtain⟨t,rfl⟩:=r;rfl
 | str _=>obtain⟨t,rfl⟩:=r;rfl
 | byt _=>obtain⟨t,rfl⟩:=r;rfl
 | flt _=>obtain⟨t,rfl⟩:=r;rfl
 | ref _=>cases r;rfl
 | ty _=>cases r;rfl
theorem RelV.inj{x y:V}{u:Value}(r:RelV x u)(q:RelV y u):x=y:=wx7 (r.abs.symm.trans q.abs)
theorem Vals.inj:∀{xs ys:List V}{us:List Value},Vals xs us->Vals ys us->xs=ys
 | _,_,_,.nil,.nil=>rfl
 | _,_,_,.cons r t,.cons r' t'=>by rw[r.inj r',Vals.inj t t']
section
variable{pins:List (Addr×Obj)}{σ:St}{H:Hp}{s:Shared}{a:Addr}{xs ys:List V}
theorem SqL.of{K:PySem.W.Frag}(h:H a=some (.lst xs)):SqL K H a xs:=.inl (.inl h)
theorem SqT.of{K:PySem.W.Frag}(h:H a=some (.tup xs)):SqT K H a xs:=.inl (.inl h)
theorem Inv.list(I:Inv X pins σ H s)(h:SqL X.K H a xs):∃its:List Value,Vals xs its/\PlainL s.heap a its.toArray/\xs.length<=sizeLine:=by
 rcases h with h | ⟨o,its,n,hk,hc,hd,hs,hz,r⟩
 ·obtain⟨z,its,n,r,e⟩:=h.ok I.hok;exact⟨its,r,⟨_,n,e,rfl,rfl,rfl⟩,z⟩
 ·refine⟨its.toList,r,⟨o,n,I.kIn a o hk,hc,hd,by simpa using hs⟩,?_⟩;have e:=r.length;simp only[ww1]at e;lia
theorem Inv.tuple(I:Inv X pins σ H s)(h:SqT X.K H a xs):∃its:List Value,Vals xs its/\IsTup s.heap a its.toArray/\xs.length<=sizeLine:=by
 rcases h with h | ⟨o,its,n,hk,hc,hs,hz,r⟩
 ·obtain⟨z,its,r,p⟩:=h.ok I.hok;exact⟨its,r,p,z.1⟩
 ·refine⟨its.toList,r,⟨o,I.kIn a o hk,hc,n,by simpa using hs⟩,?_⟩;have e:=r.length;simp only[ww1]at e;lia
theorem Inv.list_inj(I:Inv X pins σ H s)(h:SqL X.K H a xs)(h':SqL X.K H a ys):xs=ys:=by
 obtain⟨its,r,⟨o,n,e,_,_,d⟩,_⟩:=I.list h;obtain⟨its',r',⟨o',n',e',_,_,d'⟩,_⟩:=I.list h';rw[e]at e';cases e';rw[d]at d';injection d' with d1 _;have:its=its':=by simpa using wx5 Array.toList d1
 subst this;exact r.inj r'
theorem Inv.tuple_inj(I:Inv X pins σ H s)(h:SqT X.K H a xs)(h':SqT X.K H a ys):xs=ys:=by
 obtain⟨its,r,⟨o,e,_,n,d⟩,_⟩:=I.tuple h;obtain⟨its',r',⟨o',e',_,n',d'⟩,_⟩:=I.tuple h';rw[e]at e';cases e';rw[d]at d';injection d' with d1 _;have:its=its':=by simpa using wx5 Array.toList d1
 subst this;exact r.inj r'
end
abbrev Cx.wish(X:Cx)(E:Value->Shared->Prop):Cx:={X with xe:=E}
abbrev Cx.nox(X:Cx):Cx:=X.wish fun _ _=>False
theorem Cx.Ok.wish{X:Cx}(ok:X.Ok)(E:Value->Shared->Prop):(X.wish E).Ok:=
 ⟨ok.mod,ok.kind,ok.glob,ok.blt,ok.above,ok.inj,ok.has,ok.cab,ok.hd,ok.frames,ok.stk,ok.exf,ok.bs,ok.bsz,ok.noex,ok.exfs,ok.funs,ok.frf⟩
theorem Cx.Ok.unwish{X:Cx}{E:Value->Shared->Prop}(ok:(X.wish E).Ok):X.Ok:=
 ⟨ok.mod,ok.kind,ok.glob,ok.blt,ok.above,ok.inj,ok.has,ok.cab,ok.hd,ok.frames,ok.stk,ok.exf,ok.bs,ok.bsz,ok.noex,ok.exfs,ok.funs,ok.frf⟩
section
variable{pins:List (Addr×Obj)}{σ:St}{H:Hp}{s:Shared}{E:Value->Shared->Prop}
theorem Inv.wish(I:Inv X pins σ H s)(E:Value->Shared->Prop):Inv (X.wish E) pins σ H s:=⟨I.ok.wish E,I.os,I.bare,I.base,I.loc,I.cell,I.free,I.freeC,I.pin,I.hok,I.len⟩
theorem Inv.unwish(I:Inv (X.wish E) pins σ H s):Inv X pins σ H s:=⟨I.ok.unwish,I.os,I.bare,I.base,I.loc,I.cell,I.free,I.freeC,I.pin,I.hok,I.len⟩
theorem SP.unwish{D:Ends}{f:Flow}{s':Shared}(h:SP (X.wish E) pins D f s'):SP X pins D f s':=by
 cases f with
 | next=>obtain⟨σ',H',I,q⟩:=h;exact⟨σ',H',I.unwish,q⟩
 | brk=>obtain⟨σ',H',I,q⟩:=h;exact⟨σ',H',I.unwish,q⟩
 | cont=>obtain⟨σ',H',I,q⟩:=h;exact⟨σ',H',I.unwish,q⟩
 | ret u=>obtain⟨v,σ',H',I,r,q⟩:=h;exact⟨v,σ',H',I.unwish,r,q⟩
theorem PSs.nox{st:List Stmt}{t:TS}(h:PSs X.nox st t):PSs X st t:=fun pins s σ H D I hw=>
 wz4 (h pins s σ H D (I.wish _) hw) (fun _ _ q=>q.unwish) fun _ _ z=>False.elim z
end
section
variable{st:Stmt}{rest:List Stmt}{t u:TS}{e:Expr}{te:TE}{pos:Pos}
def yv3:TS:=fun D σ H=>D.nx σ H
def tSeq(t u:TS):TS:=fun D σ H=>t {D with nx:=u D} σ H
theorem zd5:PSs X [] yv3:=fun _ _ σ H _ I h=>wpAny_execs_nil ⟨σ,H,I,h⟩
theorem zb3(h1:PS X st t)(h2:PSs X rest u):PSs X (st::rest) (tSeq t u):=by
 intro pins s σ H D I h;refine wpAny_execs_cons (thn (h1 pins s σ H {D with nx:=u D} I h) fun f s1 q=>?_);cases f with
 | next=>
  obtain⟨σ',H',I',q⟩:=q;exact h2 pins s1 σ' H' D I' q
 | ret v=>exact q
 | brk=>exact q
 | cont=>exact q
theorem zb7(h1:PS X st t):PSs X [st] t:=by
 intro pins s σ H D I h;refine wpAny_execs_cons (thn (h1 pins s σ H D I h) fun f s1 q=>?_);cases f with
 | next=>exact wpAny_execs_nil q
 | ret v=>exact q
 | brk=>exact q
 | cont=>exact q
theorem Inv.quiet{pins:List (Addr×Obj)}{σ:St}{H:Hp}{s:Shared}(I:Inv X pins σ H s):interactive X.env=false:=by simp[interactive,I.ok.kind]
def xr8(te:TE):TS:=fun D σ H=>te σ H fun _ H1=>D.nx σ H1
theorem zg1(he:PE X e te)(hs:swapsWith e none pos.line X.env=pure false:=by rfl):PS X (.Expr e pos) (xr8 te):=by
 intro pins s σ H D I h;exact wpAny_Expr_any (thn (he pins s σ H _ I h) fun v s1 ⟨x,H1,I1,r1,q1⟩=>⟨σ,H1,I1,q1⟩) I.quiet hs
def tRet(te:TE):TS:=fun D σ H=>te σ H D.rt
theorem zd0(he:PE X e te):PS X (.Return (some e) pos) (tRet te):=by
 intro pins s σ H D I h;exact wpAny_Return_some (thn (he pins s σ H _ I h) fun v s1 ⟨x,H1,I1,r1,q1⟩=>⟨x,σ,H1,I1,r1,q1⟩)
def tIfS(c:TT)(t u:TS):TS:=fun D σ H=>c σ H fun b H1=>if b=true then t D σ H1 else u D σ H1
theorem zh3{c:Expr}{a b:List Stmt}{tc:TT}(hc:PT X c tc)(ha:PSs X a t)(hb:PSs X b u):PS X (.If c a b pos) (tIfS tc t u):=by
 intro pins s σ H D I h;refine wpAny_If (thn (hc pins s σ H _ I h) fun d s1 ⟨H1,I1,q1⟩=>?_);cases d with
 | true=>exact ha pins s1 σ H1 D I1 q1
 | false=>exact hb pins s1 σ H1 D I1 q1
end
abbrev TG:=V->St->Hp->(St->Hp->Prop)->Prop
abbrev TGs:=List V->St->Hp->(St->Hp->Prop)->Prop
def PG(X:Cx)(target:Expr)(t:TG):Prop:=
 ∀(pins:List (Addr×Obj))(s:Shared)(σ:St)(H:Hp)(v:V)(u:Value)(Q:St->Hp->Prop),Inv X pins σ H s->RelV v u->t v σ H Q->
  wpAny (model X.prog X.w) X.A (assign target X.env u) (fun _ s'=>∃σ' H',Inv X pins σ' H' s'/\Q σ' H') X.xe s
def PGs(X:Cx)(ts:List Expr)(t:TGs):Prop:=
 ∀(pins:List (Addr×Obj))(s:Shared)(σ:St)(H:Hp)(vs:List V)(us:List Value)(Q:St->Hp->Prop),Inv X pins σ H s->Vals vs us->t vs σ H Q->
  wpAny (model X.prog X.w) X.A (assignInOrder ((assignEach ts X.env).map (·.2)) us) (fun _ s'=>∃σ' H',Inv X pins σ' H' s'/\Q σ' H') X.xe s
abbrev TSet:=V->V->V->Hp->(Hp->Prop)->Prop
def PSet(X:Cx)(t:TSet):Prop:=
 ∀(pins:List (Addr×Obj))(s:Shared)(σ:St)(H:Hp)(o i v:V)(ov iv u:Value)(Q:Hp->Prop),Inv X pins σ H s->RelV o ov->RelV i iv->RelV v u->t o i v H Q->
  wpAny (model X.prog X.w) X.A (setItem ov iv u) (fun _ s'=>∃H',Inv X pins σ H' s'/\Q H') X.xe s
section
variable{pos:Pos}
def zd9(i:Nat):TG:=fun v σ H Q=>Q (σ.set i (some v)) H
theorem zb9{i:Nat}{x:Str}(hN:X.N.Nodup)(hi:X.N[i]?=some x)(hx:Loc X.env.scope x)(hf:X.fn x=true∨X.env.scope.names.lookup x=some .local:=by first | exact .inl rfl | exact .inr rfl | assumption):PG X (.Name x pos) (zd9 i):=by
 intro pins s σ H v u Q I r h;exact wpAny_assign_Name (zx5 I hN hi hx r (fun s' I'=>⟨_,H,I',h⟩) hf)
def gNil:TGs:=fun vs σ H Q=>vs=[]/\Q σ H
def zk6(t:TG)(u:TGs):TGs:=fun vs σ H Q=>∃v r,vs=v::r/\t v σ H fun σ' H'=>u r σ' H' Q
theorem zg2:PGs X [] gNil:=by
 intro pins s σ H vs us Q I r h;obtain⟨e,h⟩:=h;subst e;cases r;exact assignInOrder_nil ⟨σ,H,I,h⟩
theorem zc1{e:Expr}{es:List Expr}{t:TG}{u:TGs}(h1:PG X e t)(h2:PGs X es u)
  (hs:(assignEach (e::es) X.env).map (·.2)=assign e X.env::(assignEach es X.env).map (·.2):=by rfl):PGs X (e::es) (zk6 t u):=by
 intro pins s σ H vs us Q I r h;obtain⟨v,vr,e1,h⟩:=h;subst e1;cases r with
 | cons r rr=>
  rw[hs];refine assignInOrder_cons (thn (h1 pins s σ H _ _ _ I r h) fun _ s1 ⟨σ1,H1,I1,q1⟩=>?_);exact h2 pins s1 σ1 H1 _ _ Q I1 rr q1
def gTup(K:PySem.W.Frag)(n:Nat)(t:TGs):TG:=fun v σ H Q=>∃a xs,v=.ref a/\SqT K H a xs/\xs.length=n/\t xs σ H Q
theorem zh8{es:List Expr}{k:Nat}{t:TGs}{n:Nat}(hc:X.calm=true)(h:PGs X es t)
  (hn:(assignEach es X.env).length=n:=by rfl) (hst:(assignEach es X.env).findIdx? (·.1)=none:=by rfl):PG X (.Tuple es k pos) (gTup X.K n t):=by
 intro pins s σ H v u Q I r hw;obtain⟨a,xs,e1,hq,hl,hw⟩:=hw;subst e1;cases r;obtain⟨its,rv,ht,hz⟩:=I.tuple hq;refine assign_Tuple_tuple (I.ok.hd hc) ht (by simp[hn,←hl,rv.length]) hst fun h' hx=>?_
 have I1:Inv X pins σ H {s with heap:=h'}:=I.kept (t':=s.toks) fun b o e=>hx b o (ws6 (ws1 e)) e;exact h pins _ σ H xs _ Q I1 (by simpa using rv) hw
def gSub(to ti:TE)(t:TSet):TG:=fun v σ H Q=>to σ H fun o H1=>ti σ H1 fun i H2=>t o i v H2 fun H3=>Q σ H3
theorem yf4{o i:Expr}{to ti:TE}{t:TSet}(ho:PE X o to)(hi:PE X i ti)(hs:PSet X t)
  (ha:∀v,assign (.Subscript o i pos) X.env v=(do
   let ov ←holding [v] (eval o X.env)
   let iv ←holding [v,ov] (eval i X.env)
   standAt pos
   holding [v,ov,iv] (setItem ov iv v)
   release [v,ov,iv] []):=by intro _;rfl):PG X (.Subscript o i pos) (gSub to ti t):=by
 intro pins s σ H v u Q I r h;rw[ha];refine wq8 (wx2 (thn (ho pins s σ H _ I h) fun ov s1 ⟨x,H1,I1,r1,q1⟩=>?_));refine wq8 (wx2 (thn (hi pins s1 σ H1 _ I1 q1) fun iv s2 ⟨y,H2,I2,r2,q2⟩=>?_));refine wq8 (vj8 (wq8 (wx2 (thn (hs pins s2 σ H2 x y v ov iv u _ I2 r1 r2 r q2) fun _ s3 ⟨H3,I3,q3⟩=>?_))));exact wpAny_release ⟨σ,H3,I3,q3⟩
def tAsg(te:TE)(g:TG):TS:=fun D σ H=>te σ H fun x H1=>g x σ H1 D.nx
theorem zr1{tg e:Expr}{te:TE}{g:TG}(he:PE X e te)(hg:PG X tg g)(hs:swapsWithSole [tg] e pos.line X.env=pure false:=by rfl)(hw:swappedStores [tg] e X.env=pure none:=by rfl)
  (h1:(assignEach [tg] X.env).map (·.2)=[assign tg X.env]:=by rfl):PS X (.Assign [tg] e pos) (tAsg te g):=by
 intro pins s σ H D I h;refine wpAny_Assign_stores (thn (he pins s σ H _ I h) fun v s1 ⟨x,H1,I1,r1,q1⟩=>?_) hs hw;rw[h1];exact thn (hg pins s1 σ H1 x v _ I1 r1 q1) fun _ s2 q=>q
theorem zc3{i:Nat}{x:Str}{e:Expr}{te:TE}{pos':Pos}(hN:X.N.Nodup)(hi:X.N[i]?=some x)(hx:Loc X.env.scope x)(he:PE X e te)(hs:swapsWith e (some (.Name x pos')) pos.line X.env=pure false:=by rfl)(hf:X.fn x=true∨X.env.scope.names.lookup x=some .local:=by first | exact .inl rfl | exact .inr rfl | assumption):
  PS X (.Assign [.Name x pos'] e pos) (tAsg te (zd9 i)):=by
 intro pins s σ H D I h;refine wpAny_Assign_Name (thn (he pins s σ H _ I h) fun v s1 ⟨y,H1,I1,r1,q1⟩=>?_) hs;exact zx5 I1 hN hi hx r1 (fun s2 I2=>⟨_,H1,I2,q1⟩) hf
def tPar(i j:Nat)(ta:TA):TS:=fun D σ H=>ta σ H fun vs H1=>∃v w,vs=[v,w]/\D.nx ((σ.set i (some v)).set j (some w)) H1
theorem ps_par{i j:Nat}{x y:Str}{a b:Expr}{ta:TA}{px py pt:Pos}{kt k2 pt2}(hc:X.calm=true)(hN:X.N.Nodup)(hi:X.N[i]?=some x)(hj:X.N[j]?=some y)(hij:i≠j)
  (hx:X.env.scope.names.lookup x=some .local) (hy:X.env.scope.names.lookup y=some .local) (ha:PA X [a,b] ta)
  (hw:swappedStores [.Tuple [.Name x px,.Name y py] kt pt] (.Tuple [a,b] k2 pt2) X.env=pure (some [x,y]))
  (hs:swapsWithSole [.Tuple [.Name x px,.Name y py] kt pt] (.Tuple [a,b] k2 pt2) pos.line X.env=pure false:=by rfl):
  PS X (.Assign [.Tuple [.Name x px,.Name y py] kt pt] (.Tuple [a,b] k2 pt2) pos) (tPar i j ta):=by
 intro pins s σ H D I h;rw[exec_Assign_arm];refine wq8 (vj8 ?_);rw[hs];refine wq8 (wr7 ?_);rw[wv5 (by decide)];refine wq8 (Tuple_ (thn (ha _ pins s σ H _ I h) fun us s1 ⟨vs,H1,I1,r1,q1⟩=>?_));obtain⟨v,w,e1,q1⟩:=q1;subst e1;obtain⟨u1,u2,rfl,rv,rw'⟩:∃u1 u2,us=[u1,u2]/\RelV v u1/\RelV w u2:=by
  cases r1 with
  | cons p q=>
   cases q with
   | cons p' q'=>
    cases q';exact⟨_,_,rfl,p,p'⟩
 refine wx0 ?_ (by show 2<=sizeLine;decide);have I2:Inv X pins σ H1 {s1 with heap:=s1.heap.push {cls:=.type "tuple",data:=.seq [u1,u2].toArray}}:=I1.kept (t':=s1.toks) fun b o e=>wr4 _ e;rw[hw];refine wq8 (wr7 ?_);show wpAny (model X.prog X.w) X.A (do rule "assign.swapped-stores";let items ←unpackItems (.ref s1.heap.objs.size) 2 none;assignInOrder [fun v=>bindName X.env y v,fun v=>bindName X.env x v] items.reverse;pure Flow.next) _ _ _;refine wq8 (vf4 (wq8 (unpackItems_tuple (items:=#[u1,u2]) (I.ok.hd hc) (IsTup.new s1.heap _) fun h' hx'=>?_)));have I3:=I2.kept (h':=h') (t':=s1.toks) fun b o e=>hx' b o (ws6 (ws1 e)) e;show wpAny _ _ (assignInOrder [fun v=>bindName X.env y v,fun v=>bindName X.env x v] [u2,u1] >>= fun _=>pure Flow.next) _ _ _;refine wq8 (assignInOrder_cons (wpAny_bindName (zx5 I3 hN hj (.inl hy) rw' (fun s2 I4=>?_) (.inr hy))));refine assignInOrder_cons (wpAny_bindName (zx5 I4 hN hi (.inl hx) rv (fun s3 I5=>assignInOrder_nil (wr7 ?_)) (.inr hx)));rw[List.set_comm _ _ (vb3 hij)]at I5;exact⟨_,H1,I5,q1⟩
end
section
variable{pos:Pos}
def wc0(c:TT)(tb:TS):TS:=fun D σ H=>∃W:Nat->St->Hp->Prop,(∃m,W m σ H)/\∀m σ H,W m σ H->
 c σ H fun b H1=>if b=true then ∃N:St->Hp->Prop,(∀σ' H',N σ' H'->∃m',m'<m/\W m' σ' H')/\tb {D with nx:=N,ct:=N,bk:=D.nx} σ H1 else D.nx σ H1
theorem zx4{c:Expr}{body:List Stmt}{tc:TT}{tb:TS}(hp:PassesOwn (model X.prog X.w) X.A X.env X.xe)(hc:PT X c tc)(hb:PSs X body tb):PS X (.While c body [] pos) (wc0 tc tb):=by
 intro pins s σ H D I h;obtain⟨W,⟨m0,w0⟩,turn⟩:=h;refine wpAny_While (codeAny_whileLoop (fun n s'=>∃σ' H',Inv X pins σ' H' s'/\W n σ' H') ?_ m0 ⟨σ,H,I,w0⟩);rintro n s1 ⟨σ1,H1,I1,w1⟩;refine vj2 hp (thn (hc pins s1 σ1 H1 _ I1 (turn n σ1 H1 w1)) fun b s2 ⟨H2,I2,q2⟩=>?_);cases b with
 | true=>
  obtain⟨N,hN,q2⟩:=q2;rw[ww4 rfl];refine vj2 hp (thn (hb pins s2 σ1 H2 _ I2 q2) fun f s3 q3=>?_);cases f with
  | next=>
   obtain⟨σ3,H3,I3,n3⟩:=q3;obtain⟨m',hm,w3⟩:=hN σ3 H3 n3;exact⟨m',hm,σ3,H3,I3,w3⟩
  | cont=>
   obtain⟨σ3,H3,I3,n3⟩:=q3;obtain⟨m',hm,w3⟩:=hN σ3 H3 n3;exact⟨m',hm,σ3,H3,I3,w3⟩
  | brk=>exact q3
  | ret v=>exact q3
 | false=>
  rw[wv5 wt2];exact wpAny_execs_nil ⟨σ1,H2,I2,q2⟩
end
structure It where
 go:Nat->Hp->Prop
 yld:Nat->Hp->V->Hp->Prop
 stop:Nat->Hp->Prop
def FpOk(X:Cx)(pins:List (Addr×Obj))(H:Hp)(b:Addr):Prop:=
 H b=none/\b≠X.env.locals/\b∉X.fs/\(b∈X.ex∨X.s₀.heap.objs.size<=b)/\(∀x c,X.env.cells.lookup x=some c->c≠b)/\∀p∈X.pn++pins,p.1≠b
theorem Inv.fpOk{X:Cx}{pins:List (Addr×Obj)}{σ:St}{H H':Hp}{s:Shared}{b:Addr}(I:Inv X pins σ H s)(hb:s.heap.objs.size<=b)(hn:H' b=none):FpOk X pins H' b:=by
 refine⟨hn,wv9 (ww2 I.lt hb),I.nofs hb,.inr (wx6 I.sz hb),fun x c e z=>?_,fun p hp z=>?_⟩
 ·obtain⟨v,q⟩:=I.cell x c e;exact absurd (ww2 q.lt (by rw[z];exact hb)) (vb6 _)
 ·exact absurd (ww2 (ws1 (I.pin p hp).1) (by rw[z];exact hb)) (vb6 _)
structure Turn(P:Program)(w:World)(K:PySem.W.Frag)(tg:Expr)(J:It)(fp:List Addr)(it:Addr)(tn:Nat->Heap->Prop):Prop where
 mem:it∈fp
 obj:∀i h,tn i h->∀b∈fp,∃o,h.get? b=some o/\∀v,o.data≠.cell v
 keep:∀i h h',tn i h->(∀b∈fp,∀o,h.get? b=some o->h'.get? b=some o)->tn i h'
 item:∀(X:Cx),X.prog=P->X.w=w->X.K=K->X.calm=true->∀(i:Nat)(pins:List (Addr×Obj))(s:Shared)(σ:St)(H:Hp)(E:Value->Shared->Prop),Inv X pins σ H s->(∀b∈fp,FpOk X pins H b)->tn i s.heap->J.go i H->
  wpAny (model P w) X.A (pyNext (.ref it)) (fun r s1=>∃u,r=some u/\
   wpAny (model P w) X.A (letOwnedTupleGo tg (.ref it) u) (fun _ s2=>∃x H',Inv X pins σ H' s2/\RelV x u/\J.yld i H x H'/\tn (i+1) s2.heap/\∀b∈fp,H' b=none) E s1) E s
 done:∀(X:Cx),X.prog=P->X.w=w->X.K=K->X.calm=true->∀(i:Nat)(pins:List (Addr×Obj))(s:Shared)(σ:St)(H:Hp)(E:Value->Shared->Prop),Inv X pins σ H s->(∀b∈fp,FpOk X pins H b)->tn i s.heap->J.stop i H->
  wpAny (model P w) X.A (pyNext (.ref it)) (fun r s1=>r=none/\Inv X pins σ H s1) E s
 self:∀(A:Around)(i:Nat)(s:Shared)(Q:Value->Shared->Prop)(E:Value->Shared->Prop),tn i s.heap->Q (.ref it) s->wpAny (model P w) A (pyIter (.ref it)) Q E s
abbrev TI:=St->Hp->(It->Hp->Prop)->Prop
def PIE(X:Cx)(pins:List (Addr×Obj))(σ:St)(tg:Expr)(R:It->Hp->Prop)(itv:Value)(s2:Shared):Prop:=
 ∃(it:Addr)(fp:List Addr)(tn:Nat->Heap->Prop)(J:It)(H':Hp),itv=.ref it/\Inv X pins σ H' s2/\Turn X.prog X.w X.K tg J fp it tn/\tn 0 s2.heap/\(∀b∈fp,FpOk X pins H' b)/\R J H'
def PI(X:Cx)(tg iter:Expr)(wi:TI):Prop:=
 ∀(pins:List (Addr×Obj))(s:Shared)(σ:St)(H:Hp)(R:It->Hp->Prop),Inv X pins σ H s->wi σ H R->
  wpAny (model X.prog X.w) X.A (eval iter X.env) (fun v s1=>wpAny (model X.prog X.w) X.A (pyIter v) (PIE X pins σ tg R) X.xe s1) X.xe s
theorem ys7{M:Model}{A:Around}{E:Value->Shared->Prop}{s:Shared}{tg:Expr}{it:Addr}{u:Value}{o:Obj}{n:String}{vs:Array Value}{Q:Unit->Shared->Prop}(ho:s.heap.get? it=some o)(hc:o.cls=.type n)(hd:o.data=.fields vs)
  (hn:["enumerate","zip","dict_itemiterator","dict_reverseitemiterator","odict_iterator","itertools.zip_longest","itertools.pairwise"].contains n=false) (hQ:Q () s):wpAny M A (letOwnedTupleGo tg (.ref it) u) Q E s:=by
 unfold letOwnedTupleGo;cases tg <;> first
  | exact wr7 hQ
  | (cases u <;> first
    | exact wr7 hQ
    | (refine wq8 (wpAny_load ho ?_);rw[hc,hd];show wpAny M A (if (["enumerate","zip","dict_itemiterator","dict_reverseitemiterator","odict_iterator","itertools.zip_longest","itertools.pairwise"].contains n && vs[0]? == some (rawInt _))=true then _ else _) Q E s;rw[wv5 (by intro h;rw[hn,Bool.false_and]at h;cases h)];exact wr7 hQ))
def Itl(K:PySem.W.Frag)(a:Addr):It:=
 ⟨fun i H=>∃xs x,SqL K H a xs/\xs[i]?=some x,fun i H x H'=>H'=H/\∀xs,SqL K H a xs->xs[i]?=some x,fun i H=>∃xs,SqL K H a xs/\xs.length<=i⟩
def Itt(K:PySem.W.Frag)(a:Addr):It:=
 ⟨fun i H=>∃xs x,SqT K H a xs/\xs[i]?=some x,fun i H x H'=>H'=H/\∀xs,SqT K H a xs->xs[i]?=some x,fun i H=>∃xs,SqT K H a xs/\xs.length<=i⟩
def Itr(lo:Int)(n:Nat):It:=⟨fun i _=>i<n,fun i H x H'=>H'=H/\x=.int (lo+i),fun i _=>n<=i⟩
theorem xn7{P:Program}{w:World}{K:PySem.W.Frag}{tg:Expr}(a it:Addr):Turn P w K tg (Itl K a) [it] it (fun i h=>h.IsListIter it a i) where
 mem:=by simp
 obj:=fun i h st b hb=>by
  have e:b=it:=by simpa using hb
  subst e;obtain⟨o,e,c,d⟩:=st;exact⟨o,e,fun v z=>by rw[d]at z;cases z⟩
 keep:=fun i h h' st k=>st.at fun o e=>k it (by simp) o e
 item:=by
  intro X hP hw hK hc i pins s σ H E I hf st hg;subst hP hw hK;obtain⟨xs,x,hq,hx⟩:=hg;obtain⟨its,rv,p,hz⟩:=I.list hq;obtain⟨u,hu,ru⟩:=rv.get hx;obtain⟨f0,f1,f2,f3,f4,f5⟩:=hf it (by simp);refine wpAny_pyNext_list_item st p.isList (x:=u) (by simpa using hu) fun h' st' sb=>?_
  have I1:Inv X pins σ H {s with heap:=h'}:=I.turned (t':=s.toks) (fun b o hb e=>(sb.2 b hb).trans e) f0 f1 f3 f4 f5;obtain⟨o,e,c,d⟩:=id st';exact⟨u,rfl,ys7 (s:={s with heap:=h'}) e c d (by decide) ⟨x,H,I1,ru,⟨rfl,fun ys hy=>by rw[I.list_inj hy hq];exact hx⟩,st',fun b hb=>(hf b hb).1⟩⟩
 done:=by
  intro X hP hw hK hc i pins s σ H E I hf st hg;subst hP hw hK;obtain⟨xs,hq,hx⟩:=hg;obtain⟨its,rv,p,hz⟩:=I.list hq;obtain⟨f0,f1,f2,f3,f4,f5⟩:=hf it (by simp);have hl:=rv.length;exact wpAny_pyNext_list_end (I.ok.hd hc) st p.isList (by simp;lia) fun h' eb=>⟨rfl,I.turned (t':=s.toks) (fun b o hb e=>eb b o hb e) f0 f1 f3 f4 f5⟩
 self:=fun _ _ _ _ _ st h=>wpAny_pyIter_listiter st h
theorem xd4{P:Program}{w:World}{K:PySem.W.Frag}{tg:Expr}(a it:Addr):Turn P w K tg (Itt K a) [it] it (fun i h=>h.IsTupleIter it a i) where
 mem:=by simp
 obj:=fun i h st b hb=>by
  have e:b=it:=by simpa using hb
  subst e;obtain⟨o,e,c,d⟩:=st;exact⟨o,e,fun v z=>by rw[d]at z;cases z⟩
 keep:=fun i h h' st k=>st.at fun o e=>k it (by simp) o e
 item:=by
  intro X hP hw hK hc i pins s σ H E I hf st hg;subst hP hw hK;obtain⟨xs,x,hq,hx⟩:=hg;obtain⟨its,rv,p,hz⟩:=I.tuple hq;obtain⟨u,hu,ru⟩:=rv.get hx;obtain⟨f0,f1,f2,f3,f4,f5⟩:=hf it (by simp);refine wpAny_pyNext_tuple_item st (show s.heap.IsTuple a its.toArray from p) (x:=u) (by simpa using hu) fun h' st' sb=>?_
  have I1:Inv X pins σ H {s with heap:=h'}:=I.turned (t':=s.toks) (fun b o hb e=>(sb.2 b hb).trans e) f0 f1 f3 f4 f5;obtain⟨o,e,c,d⟩:=id st';exact⟨u,rfl,ys7 (s:={s with heap:=h'}) e c d (by decide) ⟨x,H,I1,ru,⟨rfl,fun ys hy=>by rw[I.tuple_inj hy hq];exact hx⟩,st',fun b hb=>(hf b hb).1⟩⟩
 done:=by
  intro X hP hw hK hc i pins s σ H E I hf st hg;subst hP hw hK;obtain⟨xs,hq,hx⟩:=hg;obtain⟨its,rv,p,hz⟩:=I.tuple hq;obtain⟨f0,f1,f2,f3,f4,f5⟩:=hf it (by simp);have hl:=rv.length;exact wpAny_pyNext_tuple_end (I.ok.hd hc) st (show s.heap.IsTuple a its.toArray from p) (by simp;lia) fun h' eb=>⟨rfl,I.turned (t':=s.toks) (fun b o hb e=>eb b o hb e) f0 f1 f3 f4 f5⟩
 self:=fun _ _ _ _ _ st h=>wpAny_pyIter_tupleiter st h
theorem xb6{P:Program}{w:World}{K:PySem.W.Frag}{tg:Expr}(it:Addr)(lo:Int)(n:Nat):Turn P w K tg (Itr lo n) [it] it (fun i h=>IsRangeIter h it (lo+(i:Nat)*1) ((n:Int)-(i:Nat)) 1) where
 mem:=by simp
 obj:=fun i h st b hb=>by
  have e:b=it:=by simpa using hb
  subst e;exact⟨_,st,fun v z=>by
   have z':Data.fields _=Data.cell v:=z;cases z'⟩
 keep:=fun i h h' st k=>k it (by simp) _ st
 item:=by
  intro X hP hw hK hc i pins s σ H E I hf st hg;subst hP hw hK;obtain⟨f0,f1,f2,f3,f4,f5⟩:=hf it (by simp);have W:=Walks.range (prog:=X.prog) (w:=X.w) (I.ok.hd hc) it lo 1 n;refine W.item i s _ _ hg st fun v h' tk hv st' kk=>?_;obtain⟨t,rfl⟩:=hv;have I1:Inv X pins σ H {s with heap:=h',toks:=tk}:=I.turned (fun b o hb e=>kk b o (by simpa using hb) e) f0 f1 f3 f4 f5;refine⟨_,rfl,ys7 (s:={s with heap:=h',toks:=tk}) (n:="range_iterator") st' rfl rfl (by decide) ⟨.int (lo+i),H,I1,⟨t,?_⟩,⟨rfl,rfl⟩,st',fun b hb=>(hf b hb).1⟩⟩;rw[Int.mul_one]
 done:=by
  intro X hP hw hK hc i pins s σ H E I hf st hg;subst hP hw hK;obtain⟨f0,f1,f2,f3,f4,f5⟩:=hf it (by simp);exact wpAny_pyNext_range_end (I.ok.hd hc) st (by have:n<=i:=hg;lia) fun h' eb=>⟨rfl,I.turned (t':=s.toks) (fun b o hb e=>eb b o hb e) f0 f1 f3 f4 f5⟩
 self:=fun _ _ _ _ _ st h=>wpAny_pyIter_rangeiter st h
section
variable{tg:Expr}
def wk6(K:PySem.W.Frag)(tl:TE):TI:=fun σ H R=>tl σ H fun x H1=>∃a,x=.ref a/\(∃xs,SqL K H1 a xs)/\R (Itl K a) H1
def iTup(K:PySem.W.Frag)(tl:TE):TI:=fun σ H R=>tl σ H fun x H1=>∃a,x=.ref a/\(∃xs,SqT K H1 a xs)/\R (Itt K a) H1
theorem zf7{l:Expr}{tl:TE}(hl:PE X l tl):PI X tg l (wk6 X.K tl):=by
 intro pins s σ H R I h;refine thn (hl pins s σ H _ I h) fun v s1 ⟨x,H1,I1,r1,q1⟩=>?_;obtain⟨a,e,⟨xs,hq⟩,q⟩:=q1;subst e;cases r1;obtain⟨its,rv,p,hz⟩:=I1.list hq;refine wpAny_pyIter_list p.isList ?_;refine⟨s1.heap.objs.size,[s1.heap.objs.size],_,_,H1,rfl,I1.kept (t':=s1.toks) fun b o e=>wr4 _ e,xn7 a _,⟨_,wt0 _ rfl,rfl,rfl⟩,fun b hb=>?_,q⟩;have e:b=s1.heap.objs.size:=by simpa using hb
 subst e;exact I1.fpOk (wr5 _) (I1.hok.fresh (wr5 _))
theorem zh5{l:Expr}{tl:TE}(hl:PE X l tl):PI X tg l (iTup X.K tl):=by
 intro pins s σ H R I h;refine thn (hl pins s σ H _ I h) fun v s1 ⟨x,H1,I1,r1,q1⟩=>?_;obtain⟨a,e,⟨xs,hq⟩,q⟩:=q1;subst e;cases r1;obtain⟨its,rv,p,hz⟩:=I1.tuple hq;refine wpAny_pyIter_tuple (show s1.heap.IsTuple a its.toArray from p) ?_;refine⟨s1.heap.objs.size,[s1.heap.objs.size],_,_,H1,rfl,I1.kept (t':=s1.toks) fun b o e=>wr4 _ e,xd4 a _,⟨_,wt0 _ rfl,rfl,rfl⟩,fun b hb=>?_,q⟩;have e:b=s1.heap.objs.size:=by simpa using hb
 subst e;exact I1.fpOk (wr5 _) (I1.hok.fresh (wr5 _))
theorem xw4{pins:List (Addr×Obj)}{σ:St}{H:Hp}{s:Shared}{R:It->Hp->Prop}{E:Value->Shared->Prop}{lo hi:Int}{t u v:Tok}{tk:Nat}(I:Inv X pins σ H s)(h1:-(2 ^ 62)<=lo)(h2:lo<2 ^ 62)(h3:-(2 ^ 62)<=hi)(h4:hi<2 ^ 62)
  (q:R (Itr lo (hi-lo).toNat) H):wpAny (model X.prog X.w) X.A (pyIter (.ref s.heap.objs.size)) (PIE X pins σ tg R) E {s with heap:=s.heap.push {cls:=.type "range",data:=.fields #[.int lo t,.int hi u,.int 1 v]},toks:=tk}:=by
 refine wpAny_pyIter_range (IsRange.new ..) (small_one h1 h2 h3 h4) ?_;have I1:Inv X pins σ H {s with heap:=s.heap.push {cls:=.type "range",data:=.fields #[.int lo t,.int hi u,.int 1 v]},toks:=tk}:=I.kept fun b o e=>wr4 _ e;refine⟨(s.heap.push {cls:=.type "range",data:=.fields #[.int lo t,.int hi u,.int 1 v]}).objs.size,[(s.heap.push {cls:=.type "range",data:=.fields #[.int lo t,.int hi u,.int 1 v]}).objs.size],_,_,H,rfl,
  I1.kept (t':=tk) fun b o e=>wr4 _ e,xb6 _ lo (hi-lo).toNat,?_,fun b hb=>?_,q⟩
 ·have e1:lo+((0:Nat):Int)*1=lo:=by simp
  have e2:(((hi-lo).toNat:Nat):Int)-((0:Nat):Int)=Builtin.Range.rangeSize lo hi 1:=by rw[rangeSize_one];split <;> lia
  show IsRangeIter _ _ (lo+((0:Nat):Int)*1) ((((hi-lo).toNat:Nat):Int)-((0:Nat):Int)) 1;rw[e1,e2];exact wt0 _ rfl
 ·have e:b=(s.heap.push {cls:=.type "range",data:=.fields #[.int lo t,.int hi u,.int 1 v]}).objs.size:=by simpa using hb
  subst e;exact I1.fpOk (wr5 _) (I1.hok.fresh (wr5 _))
def iRng1(ta:TA):TI:=fun σ H R=>ta σ H fun vs H1=>∃j:Int,vs=[.int j]/\-(2 ^ 62)<=j/\j<2 ^ 62/\R (Itr 0 j.toNat) H1
theorem zn3{a:Expr}{ta:TA}{p pos:Pos}(hg:Gl X "range")(hm:X.mg "range"=none)(ha:PA X [a] ta)(hs:starEach [a] X.env=[(false,eval a X.env)]:=by rfl):PI X tg (.Call (.Name "range" p) [a] [] pos) (iRng1 ta):=by
 intro pins s σ H R I h;refine Call_ (zv5 I hg hm boot_range (wz5 (thn (ha pos pins s σ H _ I h) fun us s1 ⟨vs,H1,I1,r1,q1⟩=>?_) hs rfl));obtain⟨j,e,q1,q2,q⟩:=q1;subst e;cases r1 with
 | cons r rr=>
  cases rr;obtain⟨t,rfl⟩:=r;exact call_range_1 (xw4 I1 (by lia) (by lia) q1 q2 (by simpa using q))
def tFor(wi:TI)(g:TG)(tb:TS):TS:=fun D σ H=>wi σ H fun J H1=>∃W:Nat->Nat->St->Hp->Prop,(∃m,W 0 m σ H1)/\∀i m σ H,W i m σ H->
 (J.stop i H/\D.nx σ H)∨(J.go i H/\∃N:St->Hp->Prop,(∀σ' H',N σ' H'->∃m',m'<m/\W (i+1) m' σ' H')/\∀x H',J.yld i H x H'->g x σ H' fun σ2 H2=>tb {D with nx:=N,ct:=N,bk:=D.nx} σ2 H2)
def yd2(fp:List Addr)(h:Heap):List (Addr×Obj):=fp.filterMap fun b=>(h.get? b).map fun o=>(b,o)
theorem zj5{fp:List Addr}{h:Heap}{b:Addr}{o:Obj}(hb:b∈fp)(e:h.get? b=some o):(b,o)∈yd2 fp h:=List.mem_filterMap.mpr ⟨b,hb,by rw[e];rfl⟩
theorem xs6{fp:List Addr}{h:Heap}{p:Addr×Obj}(hp:p∈yd2 fp h):p.1∈fp/\h.get? p.1=some p.2:=by
 obtain⟨b,hb,e⟩:=List.mem_filterMap.mp hp;cases q:h.get? b with
 | none=>rw[q]at e;cases e
 | some o=>
  rw[q]at e;have e':(b,o)=p:=wx7 e;subst e';exact⟨hb,q⟩
theorem Inv.pinned{pins:List (Addr×Obj)}{σ:St}{H:Hp}{s:Shared}{fp:List Addr}(I:Inv X pins σ H s)(hf:∀b∈fp,FpOk X pins H b)(ho:∀b∈fp,∃o,s.heap.get? b=some o/\∀v,o.data≠.cell v):Inv X (pins++yd2 fp s.heap) σ H s:=
 I.pins_of fun p hp=>(wt9.mp hp).elim (fun z=>I.pin p (wv4 _ z)) fun z=>by
  obtain⟨hb,e⟩:=xs6 z;obtain⟨f0,f1,f2,_⟩:=hf p.1 hb;obtain⟨o,e',d⟩:=ho p.1 hb;rw[e]at e';cases e';exact⟨e,f0,f1,f2,d⟩
theorem Inv.unpinned{pins pl:List (Addr×Obj)}{σ:St}{H:Hp}{s:Shared}(I:Inv X (pins++pl) σ H s):Inv X pins σ H s:=I.pins_of fun p hp=>I.pin p (wv4 _ (vj0 _ hp))
theorem zf9{iter:Expr}{body:List Stmt}{wi:TI}{g:TG}{tb:TS}{pos:Pos}(hp:PassesOwn (model X.prog X.w) X.A X.env X.xe)(hc:X.calm=true)(hi:PI X tg iter wi)(hg:PG X tg g)(hb:PSs X body tb)
  (hs:∀x,foldedSetIterable iter X.env x=pure x:=by intro _;rfl):PS X (.For tg iter body [] pos) (tFor wi g tb):=by
 intro pins s σ H D I h;refine wpAny_For (thn (hi pins s σ H _ I h) fun v s1 h1=>thn h1 fun itv s2 h2=>?_) hs;obtain⟨it,fp,tn,J,H2,e,I2,T,st2,f2,W,⟨m0,w0⟩,turn⟩:=h2;subst e;have stat:∀{H':Hp},(∀b∈fp,H' b=none)->∀b∈fp,FpOk X pins H' b:=fun hn b hb=>⟨hn b hb,(f2 b hb).2⟩;refine codeAny_forLoop_any (fun n s'=>∃i σ' H',Inv X pins σ' H' s'/\tn i s'.heap/\(∀b∈fp,H' b=none)/\W i n σ' H') ?_ m0 ⟨0,σ,H2,I2,st2,fun b hb=>(f2 b hb).1,w0⟩;rintro n s3 ⟨i,σ3,H3,I3,st3,fr3,w3⟩;rcases turn i n σ3 H3 w3 with ⟨stop,qn⟩ | ⟨go,N,hN,step⟩
 ·refine vj2 hp (thn (T.done X rfl rfl rfl hc i pins s3 σ3 H3 X.xe I3 (stat fr3) st3 stop) fun r s4 ⟨hr,I4⟩=>?_);subst hr;exact wpAny_execs_nil ⟨σ3,H3,I4,qn⟩
 ·refine vj2 hp (thn (T.item X rfl rfl rfl hc i pins s3 σ3 H3 X.xe I3 (stat fr3) st3 go) fun r s4 ⟨u,hr,h4⟩=>?_);subst hr;refine vj2 hp (thn h4 fun _ s5 ⟨x,H5,I5,r5,y5,st5,fr5⟩=>?_);have I5':=I5.pinned (stat fr5) (T.obj _ _ st5);refine vj2 hp (thn (hg _ s5 σ3 H5 x u _ I5' r5 (step x H5 y5)) fun _ s6 ⟨σ6,H6,I6,q6⟩=>?_);refine vj2 hp (thn (hb _ s6 σ6 H6 _ I6 q6) fun f s7 q7=>?_);have again:∀{σ7:St}{H7:Hp},Inv X (pins++yd2 fp s5.heap) σ7 H7 s7->N σ7 H7->∃m,m<n/\∃i σ' H',Inv X pins σ' H' s7/\tn i s7.heap/\(∀b∈fp,H' b=none)/\W i m σ' H':=fun {σ7 H7} I7 n7=>by
   obtain⟨m',hm,w7⟩:=hN σ7 H7 n7;refine⟨m',hm,i+1,σ7,H7,I7.unpinned,T.keep _ _ _ st5 fun b hb o e=>(I7.pin (b,o) (wv4 _ (wv4 _ (zj5 hb e)))).1,fun b hb=>?_,w7⟩;obtain⟨o,e,d⟩:=T.obj _ _ st5 b hb;exact(I7.pin (b,o) (wv4 _ (wv4 _ (zj5 hb e)))).2.1
  cases f with
  | next=>obtain⟨σ7,H7,I7,n7⟩:=q7;exact again I7 n7
  | cont=>obtain⟨σ7,H7,I7,n7⟩:=q7;exact again I7 n7
  | brk=>obtain⟨σ7,H7,I7,q7⟩:=q7;exact⟨σ7,H7,I7.unpinned,q7⟩
  | ret v=>obtain⟨x7,σ7,H7,I7,r7,q7⟩:=q7;exact⟨x7,σ7,H7,I7.unpinned,r7,q7⟩
end
theorem zm4{K:PySem.W.Frag}{a:Addr}{xs:List V}{g:TG}{tb:TS}{D:Ends}{σ:St}{H:Hp}(Pv:Nat->St->Hp->Prop)(h0:Pv 0 σ H)(hl:∀i σ H,i<=xs.length->Pv i σ H->SqL K H a xs)
  (hs:∀i x σ H,xs[i]?=some x->Pv i σ H->g x σ H fun σ2 H2=>tb {D with nx:=Pv (i+1),ct:=Pv (i+1),bk:=D.nx} σ2 H2) (hd:∀σ H,Pv xs.length σ H->D.nx σ H):
  ∃W:Nat->Nat->St->Hp->Prop,(∃m,W 0 m σ H)/\∀i m σ H,W i m σ H->
   ((Itl K a).stop i H/\D.nx σ H)∨((Itl K a).go i H/\∃N:St->Hp->Prop,(∀σ' H',N σ' H'->∃m',m'<m/\W (i+1) m' σ' H')/\∀x H',(Itl K a).yld i H x H'->g x σ H' fun σ2 H2=>tb {D with nx:=N,ct:=N,bk:=D.nx} σ2 H2):=by
 refine⟨fun i m σ H=>m=xs.length-i/\i<=xs.length/\Pv i σ H,⟨xs.length,by simp,wt6 _,h0⟩,?_⟩;rintro i m σ H ⟨rfl,hi,p⟩;have q:=hl i σ H hi p
 by_cases hlt:i<xs.length
 ·refine .inr ⟨⟨xs,xs[i],q,by simp[hlt]⟩,Pv (i+1),fun σ' H' p'=>⟨xs.length-(i+1),by lia,rfl,hlt,p'⟩,fun x H' y=>?_⟩;obtain⟨e,y⟩:=y;subst e;exact hs i x σ _ (y xs q) p
 ·have e:i=xs.length:=by lia
  subst e;exact .inl ⟨⟨xs,q,wr5 _⟩,hd σ H p⟩
theorem zr4{lo:Int}{n:Nat}{g:TG}{tb:TS}{D:Ends}{σ:St}{H:Hp}(Pv:Nat->St->Hp->Prop)(h0:Pv 0 σ H)
  (hs:∀i σ H,i<n->Pv i σ H->g (.int (lo+i)) σ H fun σ2 H2=>tb {D with nx:=Pv (i+1),ct:=Pv (i+1),bk:=D.nx} σ2 H2) (hd:∀σ H,Pv n σ H->D.nx σ H):
  ∃W:Nat->Nat->St->Hp->Prop,(∃m,W 0 m σ H)/\∀i m σ H,W i m σ H->
   ((Itr lo n).stop i H/\D.nx σ H)∨((Itr lo n).go i H/\∃N:St->Hp->Prop,(∀σ' H',N σ' H'->∃m',m'<m/\W (i+1) m' σ' H')/\∀x H',(Itr lo n).yld i H x H'->g x σ H' fun σ2 H2=>tb {D with nx:=N,ct:=N,bk:=D.nx} σ2 H2):=by
 refine⟨fun i m σ H=>m=n-i/\i<=n/\Pv i σ H,⟨n,by simp,wt6 _,h0⟩,?_⟩;rintro i m σ H ⟨rfl,hi,p⟩
 by_cases hlt:i<n
 ·refine .inr ⟨hlt,Pv (i+1),fun σ' H' p'=>⟨n-(i+1),by lia,rfl,hlt,p'⟩,fun x H' y=>?_⟩;obtain⟨e,y⟩:=y;subst e y;exact hs i σ _ hlt p
 ·have e:i=n:=by lia
  subst e;exact .inl ⟨wr5 _,hd σ H p⟩
theorem zx2{c:TT}{tb:TS}{D:Ends}{σ:St}{H:Hp}(Pv:St->Hp->Prop)(μ:St->Hp->Nat)(h0:Pv σ H)
  (hs:∀σ H,Pv σ H->c σ H fun b H1=>if b=true then tb {D with nx:=fun σ' H'=>Pv σ' H'/\μ σ' H'<μ σ H,ct:=fun σ' H'=>Pv σ' H'/\μ σ' H'<μ σ H,bk:=D.nx} σ H1 else D.nx σ H1)
  (mono:∀σ H Q Q',(∀b H1,Q b H1->Q' b H1)->c σ H Q->c σ H Q'):wc0 c tb D σ H:=by
 refine⟨fun m σ H=>m=μ σ H/\Pv σ H,⟨_,rfl,h0⟩,?_⟩;rintro m σ H ⟨rfl,p⟩;refine mono σ H _ _ (fun b H1 q=>?_) (hs σ H p);cases b with
 | true=>exact⟨_,fun σ' H' ⟨p',l⟩=>⟨_,l,rfl,p'⟩,q⟩
 | false=>exact q
abbrev R2:=V->V->Hp->VK->Prop
def OpR(X:Cx)(f:Value->Value->Sem Value)(r:R2):Prop:=
 ∀(pins:List (Addr×Obj))(s:Shared)(σ:St)(H:Hp)(x y:V)(v u:Value)(Q:VK),Inv X pins σ H s->RelV x v->RelV y u->r x y H Q->
  wpAny (model X.prog X.w) X.A (f v u) (EP X pins σ Q) X.xe s
def UnR(X:Cx)(f:Value->Sem Value)(r:V->Hp->VK->Prop):Prop:=
 ∀(pins:List (Addr×Obj))(s:Shared)(σ:St)(H:Hp)(x:V)(v:Value)(Q:VK),Inv X pins σ H s->RelV x v->r x H Q->
  wpAny (model X.prog X.w) X.A (f v) (EP X pins σ Q) X.xe s
def CallR(X:Cx)(f:Value)(r:List V->Hp->VK->Prop):Prop:=
 ∀(pins:List (Addr×Obj))(s:Shared)(σ:St)(H:Hp)(xs:List V)(us:List Value)(Q:VK),Inv X pins σ H s->Vals xs us->r xs H Q->
  wpAny (model X.prog X.w) X.A (call f us) (EP X pins σ Q) X.xe s
def tOp(r:R2)(ta tb:TE):TE:=fun σ H Q=>ta σ H fun x H1=>tb σ H1 fun y H2=>r x y H2 Q
def tUn(r:V->Hp->VK->Prop)(ta:TE):TE:=fun σ H Q=>ta σ H fun x H1=>r x H1 Q
def rI(C:Int->Int->Prop)(g:Int->Int->V):R2:=fun x y H Q=>∃i j,x=.int i/\y=.int j/\C i j/\Q (g i j) H
def rI0(g:Int->Int->V):R2:=fun x y H Q=>∃i j,x=.int i/\y=.int j/\Q (g i j) H
def rU(g:Int->V):V->Hp->VK->Prop:=fun x H Q=>∃i,x=.int i/\Q (g i) H
section
variable{a b c:Expr}{ta tb tc:TE}{pos:Pos}
theorem binT(ha:PE X a ta)(hb:PE X b tb){pins:List (Addr×Obj)}{s:Shared}{σ:St}{H:Hp}{R:V->V->Hp->Prop}(I:Inv X pins σ H s)
  (h:ta σ H fun x H1=>tb σ H1 fun y H2=>R x y H2) {Q:Value->Shared->Prop} {f:Value->Value->Sem Value}
  (hf:∀v u s2 x y H2,Inv X pins σ H2 s2->RelV x v->RelV y u->R x y H2->wpAny (model X.prog X.w) X.A (f v u) Q X.xe s2):
  wpAny (model X.prog X.w) X.A (eval a X.env) (fun v s₁=>wpAny (model X.prog X.w) X.A (eval b X.env) (fun u s₂=>wpAny (model X.prog X.w) X.A (f v u) Q X.xe s₂) X.xe s₁) X.xe s:=by
 refine thn (ha pins s σ H _ I h) fun v s1 ⟨x,H1,I1,r1,q1⟩=>?_;refine thn (hb pins s1 σ H1 _ I1 q1) fun u s2 ⟨y,H2,I2,r2,q2⟩=>?_;exact hf v u s2 x y H2 I2 r1 r2 q2
theorem zf4{op:Operator}{r:R2}(ho:OpR X (binaryOp op) r)(ha:PE X a ta)(hb:PE X b tb):PE X (.BinOp a op b pos) (tOp r ta tb):=by
 intro pins s σ H Q I h;exact wpAny_BinOp (binT ha hb I h fun v u s2 x y H2 I2 rx ry q=>ho pins s2 σ H2 x y v u Q I2 rx ry q)
theorem yh5{op:UnaryOp}{r:V->Hp->VK->Prop}(ho:UnR X (unaryOp op) r)(ha:PE X a ta):PE X (.UnaryOp op a pos) (tUn r ta):=by
 intro pins s σ H Q I h;exact UnaryOp_ (thn (ha pins s σ H _ I h) fun v s1 ⟨x,H1,I1,r1,q1⟩=>ho pins s1 σ H1 x v Q I1 r1 q1)
theorem opI{f:Value->Value->Sem Value}{C:Int->Int->Prop}{g:Int->Int->Int}
  (rule:∀(i j:Int)(t u:Tok)(s:Shared)(Q:Value->Shared->Prop)(E:Value->Shared->Prop),C i j->Q (.int (g i j) s.toks) {s with toks:=s.toks+1}->wpAny (model X.prog X.w) X.A (f (.int i t) (.int j u)) Q E s):
  OpR X f (rI C fun i j=>.int (g i j)):=by
 intro pins s σ H x y v u Q I rx ry h;obtain⟨i,j,rfl,rfl,hc,q⟩:=h;obtain⟨t,rfl⟩:=rx;obtain⟨t',rfl⟩:=ry;exact rule i j t t' s _ _ hc ⟨.int (g i j),H,I.tok _,⟨_,rfl⟩,q⟩
theorem opI0{f:Value->Value->Sem Value}{g:Int->Int->Int}
  (rule:∀(i j:Int)(t u:Tok)(s:Shared)(Q:Value->Shared->Prop)(E:Value->Shared->Prop),Q (.int (g i j) s.toks) {s with toks:=s.toks+1}->wpAny (model X.prog X.w) X.A (f (.int i t) (.int j u)) Q E s):
  OpR X f (rI0 fun i j=>.int (g i j)):=by
 intro pins s σ H x y v u Q I rx ry h;obtain⟨i,j,rfl,rfl,q⟩:=h;obtain⟨t,rfl⟩:=rx;obtain⟨t',rfl⟩:=ry;exact rule i j t t' s _ _ ⟨.int (g i j),H,I.tok _,⟨_,rfl⟩,q⟩
theorem opB0{f:Value->Value->Sem Value}{g:Int->Int->Bool}
  (rule:∀(i j:Int)(t u:Tok)(s:Shared)(Q:Value->Shared->Prop)(E:Value->Shared->Prop),Q (.bool (g i j)) s->wpAny (model X.prog X.w) X.A (f (.int i t) (.int j u)) Q E s):
  OpR X f (rI0 fun i j=>.bl (g i j)):=by
 intro pins s σ H x y v u Q I rx ry h;obtain⟨i,j,rfl,rfl,q⟩:=h;obtain⟨t,rfl⟩:=rx;obtain⟨t',rfl⟩:=ry;exact rule i j t t' s _ _ ⟨.bl (g i j),H,I,rfl,q⟩
def CDiv(i j:Int):Prop:=0<j/\j<1073741824
def CPow(i j:Int):Prop:=0<=j/\j<=1000000/\i.natAbs<2 ^ 64
def CMul(i j:Int):Prop:=(-(2 ^ 64)<i/\i<2 ^ 64)∨(-(2 ^ 64)<j/\j<2 ^ 64)
theorem CMul.ok{i j:Int}(h:CMul i j):IntMulOk i j:=by
 rcases h with ⟨h1,h2⟩ | ⟨h1,h2⟩
 ·exact .of_left (intBits_le_64 h1 h2)
 ·exact .of_right (intBits_le_64 h1 h2)
theorem zn0:OpR X (binaryOp .Add) (rI0 fun i j=>.int (i+j)):=opI0 fun _ _ _ _ _ _ _ q=>add_int q
theorem zv3:OpR X (binaryOp .Sub) (rI0 fun i j=>.int (i-j)):=opI0 fun _ _ _ _ _ _ _ q=>sub_int q
theorem yb4:OpR X (binaryOp .Mult) (rI CMul fun i j=>.int (i*j)):=opI fun _ _ _ _ _ _ _ hc q=>mul_int q hc.ok
theorem zz8:OpR X (binaryOp .FloorDiv) (rI CDiv fun i j=>.int (i / j)):=opI fun i j _ _ _ _ _ hc q=>by
 have h1:(0:Int)<j:=hc.1;have h2:j<1073741824:=hc.2;exact floordiv_int (by lia) (by rw[Int.fdiv_eq_ediv_of_nonneg i (by lia)];exact q) (.inl (PyProof.noPylong_small (by lia)))
theorem zx6:OpR X (binaryOp .Mod) (rI (fun _ j=>0<j) fun i j=>.int (i % j)):=opI fun i j _ _ _ _ _ hc q=>by
 have h1:(0:Int)<j:=hc;exact mod_int' (by lia) (by rw[Int.fmod_eq_emod_of_nonneg i (by lia)];exact q)
theorem op_pow:OpR X (binaryOp .Pow) (rI CPow fun i j=>.int (i ^ j.toNat)):=opI fun _ _ _ _ _ _ _ hc q=>pow_int_small hc.1 hc.2.1 hc.2.2 q
theorem unI{f:Value->Sem Value}{g:Int->Int}
  (rule:∀(i:Int)(t:Tok)(s:Shared)(Q:Value->Shared->Prop)(E:Value->Shared->Prop),Q (.int (g i) s.toks) {s with toks:=s.toks+1}->wpAny (model X.prog X.w) X.A (f (.int i t)) Q E s):
  UnR X f (rU fun i=>.int (g i)):=by
 intro pins s σ H x v Q I rx h;obtain⟨i,rfl,q⟩:=h;obtain⟨t,rfl⟩:=rx;exact rule i t s _ _ ⟨.int (g i),H,I.tok _,⟨_,rfl⟩,q⟩
theorem zr6:UnR X (unaryOp .USub) (rU fun i=>.int (-i)):=unI fun _ _ _ _ _ q=>neg_int q
end
def scal:V->V->Bool
 | .non,.non=>true | .non,.int _=>true | .int _,.non=>true | .non,.bl _=>true | .bl _,.non=>true | .non,.str _=>true | .str _,.non=>true
 | .int _,.int _=>true | .bl _,.bl _=>true | .str _,.str _=>true | .byt _,.byt _=>true
 | .int _,.str _=>true | .str _,.int _=>true | .bl _,.str _=>true | .str _,.bl _=>true
 | _,_=>false
def rEq:R2:=fun x y H Q=>scal x y=true/\Q (.bl (decide (x=y))) H
def rNe:R2:=fun x y H Q=>scal x y=true/\Q (.bl (!decide (x=y))) H
theorem xk0{i j:Int}:decide (V.int i=V.int j)=(i == j):=by
 rw[vd9];simp
theorem wd8{i j:Bool}:decide (V.bl i=V.bl j)=(i == j):=by
 rw[vd9];simp
theorem xm6{i j:Str}:decide (V.str i=V.str j)=(i == j):=by
 rw[vd9];simp
theorem xg7{i j:Array UInt8}:decide (V.byt i=V.byt j)=(i.toList == j.toList):=by
 rw[vd9];cases i;cases j;simp
section
variable{a b c:Expr}{ta tb tc:TE}{pos:Pos}
theorem zg0{pins:List (Addr×Obj)}{σ:St}{H:Hp}{s:Shared}{Q:VK}{k k':Bool}(I:Inv X pins σ H s)(q:Q (.bl k) H)(e:k=k'):EP X pins σ Q (.bool k') s:=by
 subst e;exact⟨.bl k,H,I,rfl,q⟩
theorem zp3:OpR X (compareOp .Eq) rEq:=by
 intro pins s σ H x y v u Q I rx ry h;obtain⟨hs,q⟩:=h;cases x with
 | non=>
  cases rx;cases y with
  | non=>cases ry;exact PySem.EqNone.eq_none_none (zg0 I q (by simp))
  | bl j=>cases ry;exact PySem.EqNone.eq_none_bool (zg0 I q (by simp))
  | int j=>obtain⟨t',rfl⟩:=ry;exact PySem.EqNone.eq_none_int (zg0 I q (by simp))
  | str j=>obtain⟨t',rfl⟩:=ry;exact PySem.EqNone.eq_none_str (zg0 I q (by simp))
  | _=>exact absurd (show false=true from hs) wt2
 | bl i=>
  cases rx;cases y with
  | non=>cases ry;exact PySem.EqNone.eq_bool_none (zg0 I q (by simp))
  | bl j=>cases ry;exact eq_bool (zg0 I q wd8)
  | str j=>obtain⟨t',rfl⟩:=ry;exact PySem.EqMixed.eq_bool_str (zg0 I q (by simp))
  | _=>exact absurd (show false=true from hs) wt2
 | int i=>
  obtain⟨t,rfl⟩:=rx;cases y with
  | non=>cases ry;exact PySem.EqNone.eq_int_none (zg0 I q (by simp))
  | int j=>obtain⟨t',rfl⟩:=ry;exact eq_int (zg0 I q xk0)
  | str j=>obtain⟨t',rfl⟩:=ry;exact PySem.EqMixed.eq_int_str (zg0 I q (by simp))
  | _=>exact absurd (show false=true from hs) wt2
 | str i=>
  obtain⟨t,rfl⟩:=rx;cases y with
  | non=>cases ry;exact PySem.EqNone.eq_str_none (zg0 I q (by simp))
  | bl j=>cases ry;exact PySem.EqMixed.eq_str_bool (zg0 I q (by simp))
  | int j=>obtain⟨t',rfl⟩:=ry;exact PySem.EqMixed.eq_str_int (zg0 I q (by simp))
  | str j=>obtain⟨t',rfl⟩:=ry;exact eq_str (zg0 I q xm6)
  | _=>exact absurd (show false=true from hs) wt2
 | byt i=>
  obtain⟨t,rfl⟩:=rx;cases y with
  | byt j=>obtain⟨t',rfl⟩:=ry;exact PySem.W.eq_bytes (zg0 I q xg7)
  | _=>exact absurd (show false=true from hs) wt2
 | _=>cases y <;> exact absurd (show false=true from hs) wt2
theorem op_ne:OpR X (compareOp .NotEq) rNe:=by
 intro pins s σ H x y v u Q I rx ry h;obtain⟨hs,q⟩:=h;cases x with
 | non=>
  cases rx;cases y with
  | non=>cases ry;exact PySem.EqNone.ne_none_none (zg0 I q (by simp))
  | bl j=>cases ry;exact PySem.EqNone.ne_none_bool (zg0 I q (by simp))
  | int j=>obtain⟨t',rfl⟩:=ry;exact PySem.EqNone.ne_none_int (zg0 I q (by simp))
  | str j=>obtain⟨t',rfl⟩:=ry;exact PySem.EqNone.ne_none_str (zg0 I q (by simp))
  | _=>exact absurd (show false=true from hs) wt2
 | bl i=>
  cases rx;cases y with
  | non=>cases ry;exact PySem.EqNone.ne_bool_none (zg0 I q (by simp))
  | bl j=>cases ry;exact ne_bool (zg0 I q (wx5 not wd8))
  | str j=>obtain⟨t',rfl⟩:=ry;exact PySem.EqMixed.ne_bool_str (zg0 I q (by simp))
  | _=>exact absurd (show false=true from hs) wt2
 | int i=>
  obtain⟨t,rfl⟩:=rx;cases y with
  | non=>cases ry;exact PySem.EqNone.ne_int_none (zg0 I q (by simp))
  | int j=>obtain⟨t',rfl⟩:=ry;exact ne_int (zg0 I q (wx5 not xk0))
  | str j=>obtain⟨t',rfl⟩:=ry;exact PySem.EqMixed.ne_int_str (zg0 I q (by simp))
  | _=>exact absurd (show false=true from hs) wt2
 | str i=>
  obtain⟨t,rfl⟩:=rx;cases y with
  | non=>cases ry;exact PySem.EqNone.ne_str_none (zg0 I q (by simp))
  | bl j=>cases ry;exact PySem.EqMixed.ne_str_bool (zg0 I q (by simp))
  | int j=>obtain⟨t',rfl⟩:=ry;exact PySem.EqMixed.ne_str_int (zg0 I q (by simp))
  | str j=>obtain⟨t',rfl⟩:=ry;exact ne_str (zg0 I q (wx5 not xm6))
  | _=>exact absurd (show false=true from hs) wt2
 | byt i=>
  obtain⟨t,rfl⟩:=rx;cases y with
  | byt j=>obtain⟨t',rfl⟩:=ry;exact PySem.W.ne_bytes (zg0 I q (wx5 not xg7))
  | _=>exact absurd (show false=true from hs) wt2
 | _=>cases y <;> exact absurd (show false=true from hs) wt2
theorem xc7:OpR X (compareOp .Lt) (rI0 fun i j=>.bl (decide (i<j))):=opB0 fun _ _ _ _ _ _ _ q=>lt_int q
theorem yh6:OpR X (compareOp .Gt) (rI0 fun i j=>.bl (decide (j<i))):=opB0 fun _ _ _ _ _ _ _ q=>gt_int q
theorem op_ge:OpR X (compareOp .GtE) (rI0 fun i j=>.bl (decide (j<=i))):=opB0 fun _ _ _ _ _ _ _ q=>ge_int q
theorem zd6(b:Expr){op:CmpOp}(h:op≠.In:=by decide)(h2:op≠.NotIn:=by decide):behindInMarks op b=false:=by
 have e1:(op == CmpOp.In)=false:=by cases op <;> first | rfl | exact absurd rfl h
 have e2:(op == CmpOp.NotIn)=false:=by cases op <;> first | rfl | exact absurd rfl h2
 cases b <;> simp[behindInMarks,e1,e2]
theorem zq6{op:CmpOp}{r:R2}(ho:OpR X (compareOp op) r)(ha:PE X a ta)(hb:PE X b tb)(hm:behindInMarks op b=false):PE X (.Compare a [op] [b] pos) (tOp r ta tb):=by
 intro pins s σ H Q I h;exact wpAny_Compare1 (binT ha hb I h fun v u s2 x y H2 I2 rx ry q=>ho pins s2 σ H2 x y v u Q I2 rx ry q) hm
def zn4(t:TE):TT:=fun σ H Q=>t σ H fun x H'=>∃k,x=.bl k/\Q k H'
theorem zc4{op:CmpOp}{r:R2}(ho:OpR X (compareOp op) r)(ha:PE X a ta)(hb:PE X b tb)(hm:behindInMarks op b=false):PT X (.Compare a [op] [b] pos) (zn4 (tOp r ta tb)):=by
 intro pins s σ H Q I h;refine wpAny_isTrue_Compare1 (thn (ha pins s σ H _ I h) fun v s1 ⟨x,H1,I1,r1,q1⟩=>thn (hb pins s1 σ H1 _ I1 q1) fun u s2 ⟨y,H2,I2,r2,q2⟩=>
  thn (ho pins s2 σ H2 x y v u _ I2 r1 r2 q2) fun c s3 ⟨z,H3,I3,r3,k,e,q3⟩=>?_) hm
 subst e;cases r3;exact vj1 ⟨H3,I3,q3⟩
theorem zv4:(sizeLine:Nat)<2 ^ 63:=by rw[vj9];decide
theorem zp8:OpR X (binaryOp .Add) (fun x y H Q=>∃i j,x=.str i/\y=.str j/\i.length+j.length<=sizeLine/\Q (.str (i++j)) H):=by
 intro pins s σ H x y v u Q I rx ry h;obtain⟨i,j,rfl,rfl,hz,q⟩:=h;obtain⟨t,rfl⟩:=rx;obtain⟨t',rfl⟩:=ry;exact add_str (fun t' tk=>⟨.str (i++j),H,I.tok _,⟨_,rfl⟩,q⟩) hz
theorem zq8{x:V}{us:List Value}(r:Vals [x] us):∃u,us=[u]/\RelV x u:=by
 cases r with
 | cons r1 r2=>cases r2;exact⟨_,rfl,r1⟩
theorem vals2{x y:V}{us:List Value}(r:Vals [x,y] us):∃u w',us=[u,w']/\RelV x u/\RelV y w':=by
 cases r with
 | cons r1 r2=>
  cases r2 with
  | cons r3 r4=>cases r4;exact⟨_,_,rfl,r1,r3⟩
theorem xt9:CallR X (.builtin "abs") (fun xs H Q=>∃i,xs=[.int i]/\Q (.int (if i<0 then -i else i)) H):=by
 intro pins s σ H xs us Q I r h;obtain⟨i,rfl,q⟩:=h;obtain⟨u,rfl,t,rfl⟩:=zq8 r;exact call_abs_int fun u tk=>⟨.int (if i<0 then -i else i),H,I.tok _,⟨_,rfl⟩,q⟩
theorem xs4(hc:X.calm=true):CallR X (.builtin "max") (fun xs H Q=>∃i j,xs=[.int i,.int j]/\Q (.int (if j > i then j else i)) H):=by
 intro pins s σ H xs us Q I r h;obtain⟨i,j,rfl,q⟩:=h;obtain⟨u,w',rfl,⟨t,rfl⟩,⟨t',rfl⟩⟩:=vals2 r;refine max_two_ints (I.ok.hd hc) fun h' tk k=>⟨_,H,I.kept k,?_,q⟩
 by_cases hj:j > i
 ·rw[ww4 hj,ww4 hj];exact⟨_,rfl⟩
 ·rw[wv5 hj,wv5 hj];exact⟨_,rfl⟩
theorem xr7(hc:X.calm=true):CallR X (.builtin "min") (fun xs H Q=>∃i j,xs=[.int i,.int j]/\Q (.int (if j<i then j else i)) H):=by
 intro pins s σ H xs us Q I r h;obtain⟨i,j,rfl,q⟩:=h;obtain⟨u,w',rfl,⟨t,rfl⟩,⟨t',rfl⟩⟩:=vals2 r;refine min_two_ints (I.ok.hd hc) fun h' tk k=>⟨_,H,I.kept k,?_,q⟩
 by_cases hj:j<i
 ·rw[ww4 hj,ww4 hj];exact⟨_,rfl⟩
 ·rw[wv5 hj,wv5 hj];exact⟨_,rfl⟩
theorem zq9:CallR X (.type "int") (fun xs H Q=>(∃i,xs=[.int i]/\Q (.int i) H)∨∃k,xs=[.bl k]/\Q (.int (if k then 1 else 0)) H):=by
 intro pins s σ H xs us Q I r h;rcases h with ⟨i,rfl,q⟩ | ⟨k,rfl,q⟩
 ·obtain⟨u,rfl,t,rfl⟩:=zq8 r;exact call_int_int ⟨.int i,H,I,⟨_,rfl⟩,q⟩
 ·obtain⟨u,rfl,r1⟩:=zq8 r;cases r1;exact call_int_bool ⟨.int (if k then 1 else 0),H,I.tok _,⟨_,rfl⟩,q⟩
end
section
variable{K:PySem.W.Frag}{x dx C f:Addr}{mA:Str->Option Value}{name:Str}{v:Value}
end
theorem RelO.some_of{v:V}{o:Option Value}(r:RelO (some v) o):∃u,o=some u/\RelV v u:=by
 cases o with
 | none=>exact(show False from r).elim
 | some u=>exact⟨u,rfl,r⟩
section
variable{P:Program}{w:World}{H H':Hp}{h h':Heap}{a C dx:Addr}{fs fs':List (Str×V)}
end
structure Cls(K:PySem.W.Frag)(C:Addr):Prop where
 pg:PySem.W.plainGet K C Str.empty=true
 hd:PySem.W.hasDictIn K C=true
 po:PySem.W.plainOver K C=true
 sa:PySem.W.findIn K (.ref C) "__setattr__"=some (some (.builtin "object.__setattr__"))
section
variable{pins:List (Addr×Obj)}{σ:St}{H:Hp}{s:Shared}{a C dx:Addr}{fs:List (Str×V)}{f:Str}{v:V}{A:Around}{E:Value->Shared->Prop}
end
section
variable{o e value:Expr}{f:Str}{pos pos' tpos:Pos}{ta tv:TE}
end
section
variable{pins:List (Addr×Obj)}{σ:St}{H:Hp}{s:Shared}{A:Around}{E:Value->Shared->Prop}{Q:Value->Shared->Prop}{c:Value}{b:Bool}
end
structure Room(k:Nat)(A:Around):Prop where
 hd:A.handled=none
 dp:A.depth+3*k+5<recursionLimit
 un:A.units+16*k+200<cLine
theorem Room.deeper{k:Nat}{A:Around}(r:Room (k+1) A)(env:Env):Room k (A.deeper env):=
 ⟨r.hd,by have:=r.dp;show A.depth+1+3*k+5<_;lia,by have:=r.un;show A.units+3+16*k+200<_;lia⟩
theorem Room.in1{k:Nat}{A:Around}(r:Room (k+1) A):Room k A.in1:=
 ⟨r.hd,by have:=r.dp;show A.depth+3*k+5<_;lia,by have:=r.un;show A.units+1+16*k+200<_;lia⟩
theorem Room.depth{k:Nat}{A:Around}(r:Room k A):A.depth<recursionLimit:=by have:=r.dp;lia
theorem Room.units{k:Nat}{A:Around}(r:Room k A):A.units+64<cLine:=by have:=r.un;lia
def tNil:TA:=fun _ H Q=>Q [] H
def zc5(ta:TE)(tr:TA):TA:=fun σ H Q=>ta σ H fun x H1=>tr σ H1 fun xs H2=>Q (x::xs) H2
section
variable{e:Expr}{es:List Expr}{te:TE}{t:TA}{pos:Pos}
theorem zb2:PA X [] tNil:=fun _ _ _ _ H Q I h=>vd5 ⟨[],H,I,.nil,h⟩
theorem zb0(ha:PE X e te)(hr:PA X es t)(hs:starEach (e::es) X.env=(false,eval e X.env)::starEach es X.env:=by rfl):PA X (e::es) (zc5 te t):=by
 intro pos pins s σ H Q I h;rw[hs];show wpAny _ _ (spliced ((false,eval e X.env)::backTo pos (starEach es X.env))) _ _ s;refine wz6 (thn (ha pins s σ H _ I h) fun u s1 ⟨x,H1,I1,r1,q1⟩=>?_);exact thn (hr pos pins s1 σ H1 _ I1 q1) fun us s2 ⟨xs,H2,I2,r2,q2⟩=>⟨x::xs,H2,I2,.cons r1 r2,q2⟩
def tTup(t:TA):TE:=fun σ H Q=>t σ H fun xs H1=>xs.length<=sizeLine/\∀p,H1 p=none->Q (.ref p) (upd H1 p (.tup xs))
def tLst(t:TA):TE:=fun σ H Q=>t σ H fun xs H1=>xs.length<=sizeLine/\∀p,H1 p=none->Q (.ref p) (upd H1 p (.lst xs))
theorem zf0{x1}(h:PA X es t):PE X (.Tuple es x1 pos) (tTup t):=by
 intro pins s σ H Q I hq;refine wpAny_Tuple_spliced (thn (h pos pins s σ H _ I hq) fun us s1 ⟨xs,H1,I1,r,z,q⟩=>⟨by rw[←r.length];exact z,?_⟩);have hf:H1 s1.heap.objs.size=none:=I1.hok.fresh (wr5 _);refine⟨.ref s1.heap.objs.size,upd H1 s1.heap.objs.size (.tup xs),I1.laid (t':=s1.toks) (fun b u e=>wr4 _ e) (wr5 _) ?_,rfl,q _ hf⟩;exact⟨⟨z,_,wt0 _ rfl,rfl⟩,us,r,⟨_,wt0 _ rfl,rfl,_,rfl⟩⟩
theorem zd7(h:PA X es t):PE X (.List es pos) (tLst t):=by
 intro pins s σ H Q I hq;refine wpAny_List_spliced (thn (h pos pins s σ H _ I hq) fun us s1 ⟨xs,H1,I1,r,z,q⟩=>⟨by rw[←r.length];exact z,?_⟩);have hf:H1 s1.heap.objs.size=none:=I1.hok.fresh (wr5 _);refine⟨.ref s1.heap.objs.size,upd H1 s1.heap.objs.size (.lst xs),I1.laid (t':=s1.toks) (fun b u e=>wr4 _ e) (wr5 _) ?_,rfl,q _ hf⟩;exact⟨z,us,0,r,wt0 _ rfl⟩
end
abbrev Sp:=List V->Hp->VK->XK->Prop
abbrev CXT:=List Env->Hp->Shared->XK->Value->Shared->Prop
structure Env0(P:Program)(w:World)(K:PySem.W.Frag)(mg:Str->Option Value)(base:Heap)(A:Around)(outer:List Env)(s:Shared)(H:Hp):Prop where
 frames:A.frames=some outer
 mod:Mod K mg base
 bs:∀b o,base.get? b=some o->s.heap.get? b=some o/\H b=none
 bsz:base.objs.size<=s.heap.objs.size
 funs:s.heap.FunFrames base outer
 frf:∀b∈frs outer,H b=none
 hok:HOk P w H s.heap
 bare:AllBare s.gens
def CE(outer:List Env)(P:Program)(w:World)(H:Hp)(s:Shared)(Q:VK)(u:Value)(s':Shared):Prop:=
 ∃v H',s'.os=s.os/\AllBare s'.gens/\Un (frs outer) [] H H' s.heap s'.heap/\HOk P w H' s'.heap/\RelV v u/\Q v H'
def CR(CX:CXT)(outer:List Env)(P:Program)(w:World)(H:Hp)(s:Shared)(Q:VK)(E:XK)(r:Result)(s':Shared):Prop:=
 match r with
 | .ok (.ret u)=>CE outer P w H s Q u s'
 | .ok _=>False
 | .error e=>CX outer H s E e s'
structure FnOk(P:Program)(w:World)(K:PySem.W.Frag)(mg:Str->Option Value)(base:Heap)(CX:CXT)(k:Nat)(f:Addr)(fd:FuncData)(ps:List Str)(sp:Sp):Prop where
 len:∀vs H Q E,sp vs H Q E->vs.length=ps.length
 run:∀(A:Around)(outer:List Env)(s:Shared)(H:Hp)(args:Args)(us:List Value)(vs:List V)(Q:VK)(E:XK),Room k A->Env0 P w K mg base A outer s H->BindsTo s fd args (ps.zip us)->Vals vs us->sp vs H Q E->
  codeAny (model P w) A (.call (.ref f) args) (CR CX outer P w H s Q E) s
theorem Env0.in1{P:Program}{w:World}{K:PySem.W.Frag}{mg:Str->Option Value}{base:Heap}{A:Around}{outer:List Env}{s:Shared}{H:Hp}(e:Env0 P w K mg base A outer s H):
  Env0 P w K mg base A.in1 outer s H:=⟨e.frames,e.mod,e.bs,e.bsz,e.funs,e.frf,e.hok,e.bare⟩
section
variable{pins:List (Addr×Obj)}{σ:St}{H:Hp}{s s':Shared}
theorem Inv.env0(I:Inv X pins σ H s):Env0 X.prog X.w X.K X.mg X.base X.A X.stack s H:=
 ⟨I.ok.frames,I.ok.mod,I.bs,wx6 I.ok.bsz I.sz,I.stack,I.stkFree,I.hok,I.bare⟩
theorem Inv.after{Q:VK}{u:Value}(I:Inv X pins σ H s)(h:CE X.stack X.prog X.w H s Q u s'):EP X pins σ Q u s':=by
 obtain⟨v,H',os,bare,un,hok,r,q⟩:=h;obtain⟨hh,g,d,t,os'⟩:=s';obtain rfl:os'=s.os:=os;exact⟨v,H',I.call (h':=hh) (g':=g) (d':=d) (t':=t) (ch:=[]) un hok bare (fun b z=>absurd z (by simp)),r,q⟩
end
def zn6(sp:Sp)(dvs:List V)(E:XK)(t:TA):TE:=fun σ H Q=>t σ H fun vs H1=>sp (vs++dvs) H1 Q E
def Binds(K:PySem.W.Frag)(fd:FuncData)(ps:List Str)(ds:List Value):Prop:=
 ∀(s:Shared)(us:List Value),K.In s.heap->(us++ds).length=ps.length->BindsTo s fd ⟨us,[]⟩ (ps.zip (us++ds))
theorem Binds.all{K:PySem.W.Frag}{fd:FuncData}{ps:List Str}(h:∀us:List Value,us.length=ps.length->bindArgs fd ⟨us,[]⟩=pure (ps.zip us)):Binds K fd ps []:=fun s us _ hl=>by
 rw[wx1]at hl ⊢;exact .of_eq (h us hl)
def xr6(CX:CXT)(X:Cx)(E:XK):Prop:=∀(pins:List (Addr×Obj))(σ:St)(H:Hp)(s:Shared)(e:Value)(s':Shared),Inv X pins σ H s->CX X.stack H s E e s'->X.xe e s'
section
variable{CX:CXT}{k:Nat}{f C:Addr}{fd:FuncData}{ps:List Str}{sp:Sp}{dvs:List V}{ds:List Value}{E:XK}{x m:Str}{p pos apos:Pos}{e o:Expr}{es:List Expr}{ta:TE}{t:TA}
theorem run_fn{pins:List (Addr×Obj)}{σ:St}{H:Hp}{s:Shared}{Q:VK}{us:List Value}{vs:List V}(F:FnOk X.prog X.w X.K X.mg X.base CX k f fd ps sp)(hr:Room k X.A)(hb:Binds X.K fd ps ds)(hd:Vals dvs ds)(hx:xr6 CX X E)
  (I:Inv X pins σ H s) (r:Vals vs us) (h:sp (vs++dvs) H Q E):wpAny (model X.prog X.w) X.A (call (.ref f) us) (EP X pins σ Q) X.xe s:=by
 have r2:Vals (vs++dvs) (us++ds):=r.append hd;have hl:(us++ds).length=ps.length:=by rw[←r2.length];exact F.len _ _ _ _ h
 refine wpAny_call (codeAny_mono (F.run X.A X.stack s H ⟨us,[]⟩ (us++ds) (vs++dvs) Q E hr I.env0 (hb s us I.kIn hl) r2 h) fun r s' hq=>?_);cases r with
 | error e=>exact hx pins σ H s e s' I hq
 | ok fl=>
  cases fl with
  | ret u=>exact I.after hq
  | next=>exact False.elim hq
  | brk=>exact False.elim hq
  | cont=>exact False.elim hq
theorem zb8(F:FnOk X.prog X.w X.K X.mg X.base CX k f fd ps sp)(hr:Room k X.A)(hg:Gl X x)(hm:X.mg x=some (.ref f))(hk:PySem.W.keepIn X.K (.ref f)=true)(hb:Binds X.K fd ps ds)(hd:Vals dvs ds)(hx:xr6 CX X E)
  (ha:PA X (e::es) t) (hdb:(x == ("__debug__":Str))=false:=by decide) (he:starEach (e::es) X.env=(false,eval e X.env)::starEach es X.env:=by rfl) (hpl:(backTo pos (starEach es X.env)).any (·.1)=false:=by rfl):
  PE X (.Call (.Name x p) (e::es) [] pos) (zn6 sp dvs E t):=by
 intro pins s σ H Q I h;refine vp7 (xr5 I hg hm ?_ hdb);refine PySem.W.callWith_K (h₀:=X.base) I.ok.mod.kin hk (thn (ha pos pins s σ H _ I h) fun us s1 ⟨vs,H1,I1,r,q⟩=>⟨I1.kIn,?_⟩) he hpl;exact run_fn F hr hb hd hx I1 r q
end
section
variable{CX:CXT}{k:Nat}{f C:Addr}{fd:FuncData}{ps ks:List Str}{sp:Sp}{E:XK}{x m:Str}{p pos apos kpos:Pos}{e o:Expr}{es:List Expr}{kws:List Keyword}{te ta:TE}{t tk:TA}{nm:Option Str}
variable{g:List Value->List Value->List Value}{gV:List V->List V->List V}
end
structure zd1(N P:List Str)(sc:Scope):Prop where
 kind:sc.kind=.function
 co:sc.isCoroutine=false
 gen:sc.isGenerator=false
 nd:N.Nodup
 pre:N.take P.length=P
 par:∀x∈P,sc.names.lookup x=some .local∨sc.names.lookup x=some .cell
 nofree:∀y∈sc.names,y.2≠.free
theorem yp3{kindOf:Str->Option NameKind}{x:Str}:∀{binds:List (Str×Value)}{m:Str->Option Value},(∀v,(x,v)∉binds)->bindL kindOf binds m x=m x
 | [],_,_=>rfl
 | (n,v)::r,m,h=>by
  unfold bindL;rw[yp3 fun w hw=>h w (ww6 _ hw)]
  split
  ·have:x≠n:=by rintro rfl;exact h v vf3
   simp[this]
  ·rfl
theorem yn5{kindOf:Str->Option NameKind}{x:Str}:∀{binds:List (Str×Value)}{m:Str->Option Value},(∀v,(x,v)∉binds)->bindC kindOf binds m x=m x
 | [],_,_=>rfl
 | (n,v)::r,m,h=>by
  unfold bindC;rw[yn5 fun w hw=>h w (ww6 _ hw)]
  split
  ·rfl
  ·have:x≠n:=by rintro rfl;exact h v vf3
   simp[this]
theorem ym4{kindOf:Str->Option NameKind}{x:Str}{v:Value}:∀{P:List Str}{vs:List Value}{i:Nat}{m:Str->Option Value},P.Nodup->P[i]?=some x->vs[i]?=some v->kindOf x=some .local->
  bindL kindOf (P.zip vs) m x=some v
 | [],_,_,_,_,h,_,_=>by simp at h
 | _::_,[],_,_,_,_,h,_=>by simp at h
 | p::P,w::vs,0,m,nd,h1,h2,hk=>by
  simp at h1 h2;subst h1;subst h2;show bindL kindOf ((p,w)::P.zip vs) m p=_;unfold bindL;rw[yp3 fun v hv=>(wx9.mp nd).1 (vk9 hv).1,ww4 hk];simp
 | p::P,w::vs,i+1,m,nd,h1,h2,hk=>by
  show bindL kindOf ((p,w)::P.zip vs) m x=_;unfold bindL;exact ym4 (i:=i) (wx9.mp nd).2 (by simpa using h1) (by simpa using h2) hk
theorem ym9{kindOf:Str->Option NameKind}{x:Str}{v:Value}:∀{P:List Str}{vs:List Value}{i:Nat}{m:Str->Option Value},P.Nodup->P[i]?=some x->vs[i]?=some v->kindOf x≠some .local->
  bindC kindOf (P.zip vs) m x=some v
 | [],_,_,_,_,h,_,_=>by simp at h
 | _::_,[],_,_,_,_,h,_=>by simp at h
 | p::P,w::vs,0,m,nd,h1,h2,hk=>by
  simp at h1 h2;subst h1;subst h2;show bindC kindOf ((p,w)::P.zip vs) m p=_;unfold bindC;rw[yn5 fun v hv=>(wx9.mp nd).1 (vk9 hv).1,wv5 hk];simp
 | p::P,w::vs,i+1,m,nd,h1,h2,hk=>by
  show bindC kindOf ((p,w)::P.zip vs) m x=_;unfold bindC;exact ym9 (i:=i) (wx9.mp nd).2 (by simpa using h1) (by simpa using h2) hk
def start(N:List Str)(vs:List V):St:=vs.map some++List.replicate (N.length-vs.length) none
def cxOf(CX:CXT)(P:Program)(w:World)(K:PySem.W.Frag)(mg:Str->Option Value)(base:Heap)(N:List Str)(qual:Str)(scope:Scope)(f:Addr)(cd:Value)(A:Around)(outer:List Env)(s:Shared)(H:Hp)(E:XK):Cx where
 prog:=P
 w:=w
 K:=K
 mg:=mg
 base:=base
 A:=A.deeper (envOfC qual scope s.heap.objs.size f cd)
 N:=N
 s₀:=s
 H₀:=H
 env:=envOfC qual scope s.heap.objs.size f cd
 outer:=outer
 stack:=envOfC qual scope s.heap.objs.size f cd::outer
 ex:=[]
 calm:=true
 fn:=fun _=>true
 pn:=[]
 xe:=fun e s'=>wpAny (model P w) (A.deeper (envOfC qual scope s.heap.objs.size f cd)) (leaving (envOfC qual scope s.heap.objs.size f cd) e) (fun _ s''=>CX outer H s E e s'') (fun e' s''=>CX outer H s E e' s'') s'
theorem yz2{sc:Scope}{n:Nat}{x:Str}(h:sc.names.lookup x=some .cell):∃c,(cellsFrom n sc.names []).lookup x=some c:=by
 have q:=PySem.W.cellsFrom_some sc.names n [] (.inl h);exact Option.isSome_iff_exists.mp q
theorem xr9{CX:CXT}{P:Program}{w:World}{K:PySem.W.Frag}{mg:Str->Option Value}{base:Heap}{N ps:List Str}{qual:Str}{scope:Scope}{f:Addr}{cd:Value}{A:Around}{outer:List Env}{s s1:Shared}{H:Hp}{E:XK}{us:List Value}{vs:List V}
  (S:zd1 N ps scope) (hd:A.handled=none) (e0:Env0 P w K mg base A outer s H) (hl:vs.length=ps.length) (r:Vals vs us)
  (x:InCallC s s.heap.objs.size (bindL (envOfC qual scope s.heap.objs.size f cd).kindOf (ps.zip us) fun _=>none) (cellsFrom (s.heap.objs.size+1) scope.names []) (bindC (envOfC qual scope s.heap.objs.size f cd).kindOf (ps.zip us) fun _=>none) s1):
  Inv (cxOf CX P w K mg base N qual scope f cd A outer s H E) [] (start N vs) H s1:=by
 have hpl:ps.length<=N.length:=by have:=wx5 List.length S.pre;rw[wt4]at this;lia
 obtain⟨h1,tk,rfl,hk⟩:=x.done;have noA:∀b:Addr,b∉(cxOf CX P w K mg base N qual scope f cd A outer s H E).ex:=fun b z=>absurd (show b∈([]:List Addr) from z) (by simp)
 refine⟨⟨e0.mod,S.kind,rfl,rfl,wr5 _,fun y z c h1 h2=>?_,fun y hy=>?_,fun y c _ h=>?_,fun _=>hd,Around.frames_deeper e0.frames,.inr ⟨rfl,rfl⟩,fun b z=>absurd z (noA b),e0.bs,e0.bsz,fun b _ _=>noA b,fun b z=>absurd z (noA b),e0.funs,e0.frf⟩,
  rfl,e0.bare,Un.kept hk,⟨_,x.toInCall.ns,fun i y v h1 h2 h3=>?_⟩,fun y c h=>⟨_,x.cell y c h⟩,e0.hok.fresh (wr5 _),fun y c h=>?_,fun p hp=>absurd (show p∈([]:List (Addr×Obj)) from hp) (by simp),e0.hok.kept hk,?_⟩
 ·exact name_of_addr x.apart (vd6 h1) (vd6 h2)
 ·have hy:scope.names.lookup y=some .cell∨scope.names.lookup y=some .free:=hy;rcases hy with hy | hy
  ·exact yz2 hy
  ·exact absurd rfl (S.nofree _ (vd6 hy))
 ·exact ws3 (x.above y c (vd6 h))
 ·have hi:i<vs.length:=by
   unfold start at h2
   by_cases hi:i<vs.length
   ·exact hi
   ·rw[wz8 (by simpa using hi)]at h2;rw[List.getElem?_replicate]at h2
    split at h2 <;> cases h2
  have ha:vs[i]?=some v:=by
   unfold start at h2;rw[wz1 (by simpa using hi),wr3]at h2;cases e:vs[i]? with
   | none=>rw[e]at h2;cases h2
   | some a=>rw[e]at h2;cases h2;rfl
  obtain⟨u,hu,rv⟩:=r.get ha;have hp:ps[i]?=some y:=by
   rw[←S.pre,List.getElem?_take_of_lt (by lia)];exact h1
  have ndP:ps.Nodup:=by rw[←S.pre];exact S.nd.sublist (List.take_sublist _ _)
  refine⟨u,rv,?_⟩;rcases S.par y (ws4 hp)with k | k
  ·exact .inl ⟨k,ym4 ndP hp hu k⟩
  ·obtain⟨c,e⟩:=yz2 (n:=s.heap.objs.size+1) k;refine .inr ⟨.inl k,c,e,?_⟩;have q:=x.cell y c e;rw[ym9 ndP hp hu (by show scope.names.lookup y≠_;rw[k];decide)]at q;exact q
 ·exact e0.hok.fresh (ws3 (x.above y c (vd6 h)))
 ·unfold start;show _=N.length;rw[wr2,lqm,List.length_replicate];lia
theorem fn_of{CX:CXT}{P:Program}{w:World}{K:PySem.W.Frag}{mg:Str->Option Value}{base:Heap}{k:Nat}{f:Addr}{name qual:Str}{params:Arguments}{body:List Stmt}{scope:Scope}{dV kV doc pm cdv ct oc:Value}{an od:Option Addr}
  {osl:Array (Option Value)} {N ps:List Str} {sp:Sp} (lk:K.lookup f=some ⟨oc,od,.func (PySem.W.fnOf name qual params body scope dV kV doc pm an cdv ct),osl⟩) (hcd:PySem.W.codeIn K cdv qual=true) (S:zd1 N ps scope)
  (len:∀vs H Q E,sp vs H Q E->vs.length=ps.length)
  (hbody:∀(A:Around)(outer:List Env)(s:Shared)(H:Hp)(vs:List V)(Q:VK)(E:XK),Room k (A.deeper (envOfC qual scope s.heap.objs.size f cdv))->sp vs H Q E->
   ∃t,PSs (cxOf CX P w K mg base N qual scope f cdv A outer s H E) body t/\t {nx:=fun _ H'=>Q .non H',rt:=Q} (start N vs) H):
  FnOk P w K mg base CX (k+1) f (PySem.W.fnOf name qual params body scope dV kV doc pm an cdv ct) ps sp:=by
 refine⟨len,fun A outer s H args us vs Q E hr e0 hb r hsp=>?_⟩;have hl:=len _ _ _ _ hsp;have KX:K.In s.heap:=e0.mod.kin.keeps fun b o e=>(e0.bs b o e).1;have lim:s.heap.NoLimit:=e0.mod.nolimit.keeps fun b o e=>(e0.bs b o e).1;have hkind:∀y∈ps.zip us,scope.names.lookup y.1=some .local∨(scope.names.lookup y.1=some .cell/\((cellsFrom (s.heap.objs.size+1) scope.names []).lookup y.1).isSome=true):=fun⟨n,v⟩ hy=>by
  rcases S.par n (vk9 hy).1 with q | q
  ·exact .inl q
  ·exact .inr ⟨q,PySem.W.cellsFrom_some _ _ _ (.inl q)⟩
 refine codeAny_call_function hr.depth (KX _ _ lk) rfl S.co S.gen rfl (PySem.W.codeRec_of KX hcd) (hb _ _ _ _ ?_);refine wpAny_newFunctionEnv_cells S.kind hkind fun env he s1 x=>?_;subst he;refine⟨lim.keeps x.toInCall.keep,codeAny_func ?_⟩;obtain⟨t,ht,hq⟩:=hbody A outer s H vs Q E (hr.deeper _) hsp;have I:Inv (cxOf CX P w K mg base N qual scope f cdv A outer s H E) [] (start N vs) H s1:=xr9 S hr.hd e0 hl r x;refine wz4 (ht [] s1 (start N vs) H _ I hq) (fun fl s' hs=>?_) fun e s' hs=>hs;have fin:∀{σ':St}{H':Hp}{v:V}{u:Value},Inv (cxOf CX P w K mg base N qual scope f cdv A outer s H E) [] σ' H' s'->RelV v u->Q v H'->CE outer P w H s Q u s':=
  fun {σ' H' v u} J rv q=>⟨v,H',J.os,J.bare,J.base,J.hok,rv,q⟩
 cases fl with
 | ret u=>
  obtain⟨v,σ',H',J,rv,q⟩:=hs;exact fin J rv q
 | next=>
  obtain⟨σ',H',J,q⟩:=hs;exact fin (v:=V.non) (u:=Value.none) J rfl q
 | brk=>
  obtain⟨_,_,_,q⟩:=hs;exact False.elim q
 | cont=>
  obtain⟨_,_,_,q⟩:=hs;exact False.elim q
section
variable{x:Str}{p pos:Pos}{e:Expr}{es:List Expr}{t:TA}{id T:String}{r:List V->Hp->VK->Prop}
def tCB(r:List V->Hp->VK->Prop)(t:TA):TE:=fun σ H Q=>t σ H fun vs H1=>r vs H1 Q
theorem zf2(hc:CallR X (.builtin id) r)(hg:Gl X x)(hm:X.mg x=none)(hv:bootBuiltins x=some (.builtin id))(ha:PA X (e::es) t)(hn:x≠"__name__":=by decide)(hdb:(x == ("__debug__":Str))=false:=by decide)
  (he:starEach (e::es) X.env=(false,eval e X.env)::starEach es X.env:=by rfl) (hpl:(backTo pos (starEach es X.env)).any (·.1)=false:=by rfl):PE X (.Call (.Name x p) (e::es) [] pos) (tCB r t):=by
 intro pins s σ H Q I h;refine vp7 (zv5 I hg hm hv ?_ hn hdb);exact PyProof.Rows.callWith_builtin1 (thn (ha pos pins s σ H _ I h) fun us s1 ⟨vs,H1,I1,r1,q1⟩=>hc pins s1 σ H1 vs us Q I1 r1 q1) he hpl
theorem zd2(hc:CallR X (.type T) r)(hg:Gl X x)(hm:X.mg x=none)(hv:bootBuiltins x=some (.type T))(ha:PA X (e::es) t)(hn:x≠"__name__":=by decide)(hdb:(x == ("__debug__":Str))=false:=by decide)
  (he:starEach (e::es) X.env=(false,eval e X.env)::starEach es X.env:=by rfl) (hpl:(backTo pos (starEach es X.env)).any (·.1)=false:=by rfl):PE X (.Call (.Name x p) (e::es) [] pos) (tCB r t):=by
 intro pins s σ H Q I h;refine vp7 (zv5 I hg hm hv ?_ hn hdb);exact wz5 (thn (ha pos pins s σ H _ I h) fun us s1 ⟨vs,H1,I1,r1,q1⟩=>hc pins s1 σ H1 vs us Q I1 r1 q1) he hpl
end
end L2
namespace HT
open PySem PyProof.Rows
section
open PySem.SeqAt
open PySem.AutoSeq1 (wpAny_loadPart')
open PySem.MeetsSeq PySem.MeetsSeq2 PySem.MeetsSeq3
end
section
variable{prog:Program}{w:World}{A:Around}{E:Value->Shared->Prop}{s:Shared}
theorem wp7{t b:Addr}{vs ws:List Value}{Q:Value->Shared->Prop}(ht:IsTup s.heap t vs.toArray)(hb:IsTup s.heap b ws.toArray)(hv:vs≠[])
  (h1:ws=[]->Q (.ref t) s) (h2:ws≠[]->Q (.ref s.heap.objs.size) {s with heap:=s.heap.push {cls:=.type "tuple",data:=.seq (vs++ws).toArray}})
  (hsz:vs.length+ws.length<=sizeLine):wpAny (model prog w) A (binaryOp .Add (.ref t) (.ref b)) Q E s:=by
 obtain⟨⟨cls,dd,data,sl⟩,ho,hc,n,hd⟩:=id ht;obtain⟨⟨cls2,dd2,data2,sl2⟩,ho2,hc2,n2,hd2⟩:=id hb;simp only at hc hd hc2 hd2;subst hc hd hc2 hd2;have e:vs.toArray++ws.toArray=(vs++ws).toArray:=by simp
 by_cases hw:ws=[]
 ·exact concat_meets ⟨_,ho,rfl⟩ ⟨_,ho2,rfl⟩ noFill_tuple_add seq_tuple_add PySem.F.slot_tuple_add PySem.F.entry_tuple_add (PySem.F.args_tuple_add_2 _ _)
   (tuple_addW1 t b vs.toArray ws.toArray n n2 dd dd2 sl sl2 (by simpa using hv) (by simp[hw])) ⟨ho,ho2,h1 hw⟩
 ·refine concat_meets ⟨_,ho,rfl⟩ ⟨_,ho2,rfl⟩ noFill_tuple_add seq_tuple_add PySem.F.slot_tuple_add PySem.F.entry_tuple_add (PySem.F.args_tuple_add_2 _ _)
   (tuple_addW2 t b vs.toArray ws.toArray n n2 dd dd2 sl sl2 (by simpa using hv) (by simpa using hw) (by rw[ws9,ws9];exact hsz)) ⟨ho,ho2,?_⟩
  rw[e];exact h2 hw
def sIx(n d:Nat):Option Int->Nat
 | none=>d
 | some v=>if v<0 then(v+(n:Int)).toNat else min v.toNat n
theorem yw4(n d:Nat):sIx n d none=d:=rfl
theorem yk0(n d k:Nat):sIx n d (some (k:Int))=min k n:=by
 show(if (k:Int)<0 then((k:Int)+(n:Int)).toNat else min (k:Int).toNat n)=min k n;rw[wv5 (by lia),vg2]
theorem sIx_le(n d:Nat)(hd:d<=n)(o:Option Int):sIx n d o<=n:=by
 cases o with
 | none=>exact hd
 | some v=>
  show(if v<0 then(v+(n:Int)).toNat else min v.toNat n)<=n
  by_cases hv:v<0
  ·rw[ww4 hv];lia
  ·rw[wv5 hv];exact Nat.min_le_right _ _
theorem xq8(v:Int)(n d:Nat):(if v<0 then max (v+(n:Int)) 0 else min v (n:Int))=((sIx n d (some v):Nat):Int):=by
 show(if v<0 then max (v+(n:Int)) 0 else min v (n:Int))=(((if v<0 then(v+(n:Int)).toNat else min v.toNat n):Nat):Int)
 by_cases hv:v<0
 ·simp only[ww4 hv];lia
 ·simp only[wv5 hv];lia
theorem xc6(lo hi:Option Int)(n:Nat):Builtin.Slice.sliceAdjust lo hi 1 (n:Int)=(((sIx n 0 lo:Nat):Int),((sIx n n hi:Nat):Int)):=by
 have h1:¬((1:Int)<0):=by lia
 unfold Builtin.Slice.sliceAdjust;simp only[h1,vg9];refine Prod.ext ?_ ?_
 ·cases lo with
  | none=>rfl
  | some v=>exact xq8 v n 0
 ·cases hi with
  | none=>rfl
  | some v=>exact xq8 v n n
theorem xc4(i j:Nat):Builtin.Slice.slicePlaces (i:Int) (j:Int) 1=j-i:=by
 unfold Builtin.Slice.slicePlaces;have h1:(1:Int) > 0:=by lia
 simp only[h1,if_true,Int.ediv_one]
 split <;> lia
theorem yf8{v:Value}{o:Option Int}{Q:Option Int->Shared->Prop}(p:IsPart v o)(h:Q o s):wpAny (model prog w) A (Builtin.Slice.slicePartIndex v) Q E s:=by
 cases p with
 | none=>exact slicePart_none h
 | int i t=>exact slicePart_int h
theorem zw2{sl:Addr}{vl vu:Value}{lo hi:Option Int}{n:Nat}{Q:Int×Int×Nat->Shared->Prop}(hs:s.heap.IsSliceOf sl vl vu .none)(pl:IsPart vl lo)(pu:IsPart vu hi)
  (h:Q (((sIx n 0 lo:Nat):Int),1,sIx n n hi-sIx n 0 lo) s):wpAny (model prog w) A (Builtin.Slice.sliceApplied (.ref sl) (pure (n:Int))) Q E s:=by
 obtain⟨os,hos,hcs,hds⟩:=id hs;unfold Builtin.Slice.sliceApplied Builtin.Slice.sliceFields;refine wq8 (wq8 (wx3 hos hds (x:=vl) rfl (wq8 (wx3 hos hds (x:=vu) rfl (wq8 (wx3 hos hds (x:=.none) rfl (wr7 ?_)))))));refine wq8 (slicePart_none ?_);show wpAny _ _ (if ((1:Int) == 0)=true then _ else _) _ _ s;rw[wv5 (by decide)];refine wq8 (yf8 pl (wq8 (yf8 pu (wq8 (wr7 ?_)))));show wpAny _ _ (match Builtin.Slice.sliceAdjust lo hi 1 (n:Int)with | (lo,hi)=>pure (lo,(1:Int),Builtin.Slice.slicePlaces lo hi 1)) _ _ s;rw[xc6 lo hi n];show wpAny _ _ (pure (((sIx n 0 lo:Nat):Int),(1:Int),Builtin.Slice.slicePlaces ((sIx n 0 lo:Nat):Int) ((sIx n n hi:Nat):Int) 1)) _ _ s;rw[xc4];exact wr7 h
theorem xz2(xs:Array Value)(i k:Nat):((List.range k).filterMap fun(m:Nat)=>xs[((i:Int)+(m:Int)*1).toNat]?).toArray=((xs.toList.drop i).take k).toArray:=by
 have e:(fun(m:Nat)=>xs[((i:Int)+(m:Int)*1).toNat]?)=fun m=>xs[i+m]?:=by
  funext m
  have:((i:Int)+(m:Int)*1).toNat=i+m:=by lia
  rw[this]
 rw[e];have:=pick_run xs i k;rw[List.filterMap_map]at this;have e2:((fun x=>xs[x]?)∘fun x=>i+x)=fun m=>xs[i+m]?:=rfl;rw[e2]at this;rw[this]
theorem zt4{t sl:Addr}{items:Array Value}{vl vu:Value}{lo hi:Option Int}{Q:Value->Shared->Prop}(ht:IsTup s.heap t items)(hs:s.heap.IsSliceOf sl vl vu .none)(pl:IsPart vl lo)(pu:IsPart vu hi)
  (hw:¬(sIx items.size 0 lo=0/\sIx items.size items.size hi=items.size))
  (h:Q (.ref s.heap.objs.size) {s with heap:=s.heap.push {cls:=.type "tuple",data:=.seq ((items.toList.drop (sIx items.size 0 lo)).take (sIx items.size items.size hi-sIx items.size 0 lo)).toArray}})
  (hsz:items.size<=sizeLine):wpAny (model prog w) A (getItem (.ref t) (.ref sl)) Q E s:=by
 have htake:sizeOk (.seq ((items.toList.drop (sIx items.size 0 lo)).take (sIx items.size items.size hi-sIx items.size 0 lo)).toArray):=by
  show((items.toList.drop (sIx items.size 0 lo)).take (sIx items.size items.size hi-sIx items.size 0 lo)).toArray.size<=sizeLine;rw[ws9,wt4,vc7,ww1];lia
 have hj:sIx items.size items.size hi<=items.size:=sIx_le _ _ (wr5 _) hi;obtain⟨os,hos,hcs,hds⟩:=id hs;have hTs:s.TypeIs (.ref sl) "slice":=⟨os,hos,hcs⟩;unfold getItem
 try with_reducible refine wx2 ?_
 first | refine wq8 (wr7 ?_) | skip
 refine wq8 (wpAny_sequenceKey ht.typeIs (by decide) ?_);refine wq8 (ww8 (name:=Str.ofString "__getitem__") ht.typeIs vj3
  (ww9 vj3 ht.typeIs entry_tuple_getitem ?_ (args_tuple_getitem _ _)))
 show wpAny _ _ (Builtin.Tuple.tupleItemsOf (.ref t) >>= _) _ _ s;refine wq8 (tupleItemsOf_ ht ?_);refine wq8 (wpAny_typeOf hTs ?_);rw[ww4 (by decide)];refine wq8 (zw2 hs pl pu ?_);have hno:¬((((sIx items.size 0 lo:Nat):Int) == 0 && (1:Int) == 1 && (sIx items.size items.size hi-sIx items.size 0 lo) == items.size)=true):=by
  intro q;rw[vh3,vh3]at q;have q1:((sIx items.size 0 lo:Nat):Int)=0:=eq_of_beq q.1.1;have q2:sIx items.size items.size hi-sIx items.size 0 lo=items.size:=eq_of_beq q.2;exact hw ⟨by lia,by lia⟩
 show wpAny _ _ (if (((sIx items.size 0 lo:Nat):Int) == 0 && (1:Int) == 1 && (sIx items.size items.size hi-sIx items.size 0 lo) == items.size)=true then _ else _) _ _ s;rw[wv5 hno,xz2]
 first
  | exact wq8 (m:=Builtin.Tuple.tupleExact _) (wx0 (wr7 ⟨_,rfl,wr7 h⟩) htake)
  | exact wq8 (m:=Builtin.Tuple.tupleExact _) (wx0 (wq8 (wr7 (wr7 ⟨_,rfl,wr7 h⟩))) htake)
  | exact wq8 (wq8 (m:=Builtin.Tuple.tupleExact _) (wx0 (wr7 (wr7 ⟨_,rfl,wr7 h⟩)) htake))
  | exact wq8 (wq8 (m:=Builtin.Tuple.tupleExact _) (wx0 (wr7 ⟨_,rfl,wr7 h⟩) htake))
end
end HT
namespace L2
open PySem PySem.Spec PyProof.Rows
variable{prog:Program}{w:World}{A:Around}{E:Value->Shared->Prop}{s:Shared}
variable{X:Cx}
abbrev TO:=St->Hp->(Option Int->Hp->Prop)->Prop
def PO(X:Cx)(e:Option Expr)(t:TO):Prop:=
 ∀(pins:List (Addr×Obj))(s:Shared)(σ:St)(H:Hp)(Q:Option Int->Hp->Prop),Inv X pins σ H s->t σ H Q->
  wpAny (model X.prog X.w) X.A (evalPart e X.env) (fun u s'=>∃o H',Inv X pins σ H' s'/\IsPart u o/\Q o H') X.xe s
def xm9:TO:=fun _ H Q=>Q none H
def tPart(t:TE):TO:=fun σ H Q=>t σ H fun x H1=>∃i,x=.int i/\Q (some i) H1
section
variable{e:Expr}{te:TE}{lo hi:Option Expr}{tl th:TO}{pos p2:Pos}
theorem zm8:PO X none xm9:=by
 intro pins s σ H Q I h;rw[evalPart_none];exact wr7 ⟨none,H,I,.none,h⟩
theorem zm6(h:PE X e te):PO X (some e) (tPart te):=by
 intro pins s σ H Q I hw;rw[evalPart_some];refine thn (h pins s σ H _ I hw) fun u s1 ⟨x,H1,I1,r1,q1⟩=>?_;obtain⟨i,rfl,q⟩:=q1;obtain⟨t,rfl⟩:=r1;exact⟨some i,H1,I1,.int i t,q⟩
def SlR(X:Cx)(r:V->Option Int->Option Int->Hp->VK->Prop):Prop:=
 ∀(pins:List (Addr×Obj))(s:Shared)(σ:St)(H:Hp)(x:V)(v vl vu:Value)(lo hi:Option Int)(sl:Addr)(Q:VK),Inv X pins σ H s->RelV x v->s.heap.IsSliceOf sl vl vu .none->IsPart vl lo->IsPart vu hi->r x lo hi H Q->
  ∃T id,typeLookup (.type T) "__getitem__"=pure (some (.builtin id))/\s.TypeIs v T/\wpAny (model X.prog X.w) X.A (getItem v (.ref sl)) (EP X pins σ Q) X.xe s
def tSl(r:V->Option Int->Option Int->Hp->VK->Prop)(te:TE)(tl th:TO):TE:=fun σ H Q=>te σ H fun x H1=>tl σ H1 fun l H2=>th σ H2 fun u H3=>r x l u H3 Q
theorem zk3{r:V->Option Int->Option Int->Hp->VK->Prop}(hr:SlR X r)(he:PE X e te)(hl:PO X lo tl)(hu:PO X hi th):PE X (.Subscript e (.Slice lo hi none p2) pos) (tSl r te tl th):=by
 intro pins s σ H Q I h;refine Subscript_ (thn (he pins s σ H _ I h) fun v s1 ⟨x,H1,I1,r1,q1⟩=>?_);refine wpAny_Slice (thn (hl pins s1 σ H1 _ I1 q1) fun vl s2 ⟨l,H2,I2,pl,q2⟩=>thn (hu pins s2 σ H2 _ I2 q2) fun vu s3 ⟨u,H3,I3,pu,q3⟩=>?_);rw[evalPart_none];refine wr7 ?_;have I4:Inv X pins σ H3 {s3 with heap:=s3.heap.push {cls:=.type "slice",data:=.fields #[vl,vu,.none]}}:=I3.kept (t':=s3.toks) fun b ob q=>wr4 _ q;obtain⟨T,id,hT,ht,hg⟩:=hr pins {s3 with heap:=s3.heap.push {cls:=.type "slice",data:=.fields #[vl,vu,.none]}} σ H3 x v vl vu l u s3.heap.objs.size Q I4 r1 (Heap.IsSliceOf.new ..) pl pu q3;show wpAny (model X.prog X.w) X.A (subscriptTail e (.Slice lo hi none p2) v (.ref s3.heap.objs.size)) (EP X pins σ Q) X.xe {s3 with heap:=s3.heap.push {cls:=.type "slice",data:=.fields #[vl,vu,.none]}};exact tail_any (ops:=[.ref s3.heap.objs.size,v]) ht hT hg (by with_unfolding_all rfl)
def cutV(xs:List V)(lo hi:Option Int):List V:=(xs.drop (HT.sIx xs.length 0 lo)).take (HT.sIx xs.length xs.length hi-HT.sIx xs.length 0 lo)
theorem yc1(xs:List V)(lo hi:Option Int):(cutV xs lo hi).length<=xs.length:=by
 unfold cutV;rw[wt4,vc7];lia
def rSlT(K:PySem.W.Frag):V->Option Int->Option Int->Hp->VK->Prop:=fun x lo hi H Q=>∃a xs,x=.ref a/\SqT K H a xs/\
 ¬(HT.sIx xs.length 0 lo=0/\HT.sIx xs.length xs.length hi=xs.length)/\∀p,H p=none->Q (.ref p) (upd H p (.tup (cutV xs lo hi)))
theorem wc6:SlR X (rSlT X.K):=by
 intro pins s σ H x v vl vu lo hi sl Q I rx hs pl pu h;obtain⟨a,xs,rfl,hx,hw,q⟩:=h;cases rx;obtain⟨its,r,ht,hz⟩:=I.tuple hx;have hlen:its.toArray.size=xs.length:=by rw[ws9];exact r.length.symm
 refine⟨"tuple",_,vj3.lookup,ht.typeIs,?_⟩;refine HT.zt4 ht hs pl pu (by rw[hlen];exact hw) ?_ (by rw[hlen];exact hz);rw[hlen];refine⟨.ref s.heap.objs.size,_,I.laid (t':=s.toks) (o:=.tup (cutV xs lo hi)) (fun b ob q=>wr4 _ q) (wr5 _) ?_,rfl,q _ (I.hok.fresh (wr5 _))⟩;exact⟨⟨wx6 (yc1 xs lo hi) hz,_,wt0 _ rfl,rfl⟩,_,(r.drop (HT.sIx xs.length 0 lo)).take (HT.sIx xs.length xs.length hi-HT.sIx xs.length 0 lo),IsTup.new _ _⟩
def rCatT(K:PySem.W.Frag):R2:=fun x y H Q=>∃a b xs ys,x=.ref a/\y=.ref b/\SqT K H a xs/\SqT K H b ys/\xs≠[]/\xs.length+ys.length<=sizeLine/\
 (ys=[]->Q (.ref a) H)/\(ys≠[]->∀p,H p=none->Q (.ref p) (upd H p (.tup (xs++ys))))
theorem Vals.nil_iff{xs:List V}{us:List Value}(r:Vals xs us):us=[]↔xs=[]:=by
 cases r with
 | nil=>simp
 | cons _ _=>simp
theorem wp1:OpR X (binaryOp .Add) (rCatT X.K):=by
 intro pins s σ H x y v u Q I rx ry h;obtain⟨a,b,xs,ys,rfl,rfl,ha,hb,hx,hz,q1,q2⟩:=h;cases rx;cases ry;obtain⟨its,r1,p1,_⟩:=I.tuple ha;obtain⟨its2,r2,p2,_⟩:=I.tuple hb;refine HT.wp7 p1 p2 (fun z=>hx (r1.nil_iff.mp z)) (fun z=>⟨.ref a,H,I,rfl,q1 (r2.nil_iff.mp z)⟩) (fun z=>?_) (by rw[←r1.length,←r2.length];exact hz);refine⟨.ref s.heap.objs.size,_,I.laid (t':=s.toks) (o:=.tup (xs++ys)) (fun b ob q=>wr4 _ q) (wr5 _) ?_,rfl,q2 (fun w=>z (r2.nil_iff.mpr w)) _ (I.hok.fresh (wr5 _))⟩;exact⟨⟨by rw[wr2];exact hz,_,wt0 _ rfl,rfl⟩,_,r1.append r2,IsTup.new _ _⟩
end
def ixN(n:Nat)(i:Int):Option Nat:=if 0<=i then(if i<n then some i.toNat else none) else if -(n:Int)<=i then some (i+n).toNat else none
def atI{α:Type}(xs:List α)(i:Int):Option α:=(ixN xs.length i).bind fun j=>xs[j]?
theorem xf8{n:Nat}{i:Int}{j:Nat}(h:ixN n i=some j):seqIndex? i n=some j/\j<n/\-(n:Int)<=i/\i<n:=by
 unfold ixN at h
 by_cases h0:0<=i
 ·rw[ww4 h0]at h
  by_cases h1:i<n
  ·rw[ww4 h1]at h;have e:i.toNat=j:=wx7 h;exact⟨by rw[seqIndex_of h0 h1,e],by lia,by lia,h1⟩
  ·rw[wv5 h1]at h;cases h
 ·rw[wv5 h0]at h
  by_cases h1:-(n:Int)<=i
  ·rw[ww4 h1]at h;have e:(i+n).toNat=j:=wx7 h;exact⟨by rw[seqIndex_neg (by lia) h1,e],by lia,h1,by lia⟩
  ·rw[wv5 h1]at h;cases h
theorem yr0{α:Type}{xs:List α}{i:Int}{v:α}(h:atI xs i=some v):∃j,seqIndex? i xs.length=some j/\xs[j]?=some v/\j<xs.length/\-(xs.length:Int)<=i/\i<xs.length:=by
 unfold atI at h;cases e:ixN xs.length i with
 | none=>rw[e]at h;cases h
 | some j=>
  rw[e]at h;obtain⟨h1,h2,h3,h4⟩:=xf8 e;exact⟨j,h1,h,h2,h3,h4⟩
theorem zq3{α:Type}{xs:List α}{j:Nat}{v:α}(h:xs[j]?=some v):atI xs (j:Int)=some v:=by
 have hj:j<xs.length:=(wr1.mp h).1;have e:ixN xs.length (j:Int)=some j:=by
  unfold ixN;rw[ww4 (by lia),ww4 (by lia)];simp
 unfold atI;rw[e];exact h
def yv2(b:Expr):Prop:=∀o i,subscripted b false o i=operate [o,i] (getItem o i)
def IxR(X:Cx)(r:R2):Prop:=
 ∀(value slice:Expr)(pins:List (Addr×Obj))(s:Shared)(σ:St)(H:Hp)(x y:V)(v u:Value)(Q:VK),Inv X pins σ H s->RelV x v->RelV y u->r x y H Q->
  subscripted slice false v u=operate [v,u] (getItem v u)->wpAny (model X.prog X.w) X.A (subscriptTail value slice v u) (EP X pins σ Q) X.xe s
def MtR(X:Cx)(id:String)(r:V->List V->Hp->VK->Prop):Prop:=
 ∀(pins:List (Addr×Obj))(s:Shared)(σ:St)(H:Hp)(x:V)(xs:List V)(v:Value)(us:List Value)(Q:VK),Inv X pins σ H s->RelV x v->Vals xs us->r x xs H Q->
  wpAny (model X.prog X.w) X.A (call (.builtin id) (v::us)) (EP X pins σ Q) X.xe s
section
variable{a b:Expr}{ta tb:TE}{pos:Pos}
theorem yn8{r:R2}(hr:IxR X r)(ha:PE X a ta)(hb:PE X b tb)(hs:yv2 b):PE X (.Subscript a b pos) (tOp r ta tb):=by
 intro pins s σ H Q I h;exact Subscript_ (binT ha hb I h fun v u s2 x y H2 I2 rx ry q=>hr a b pins s2 σ H2 x y v u Q I2 rx ry q (hs _ _))
def rIxL(K:PySem.W.Frag):R2:=fun x y H Q=>∃p xs i v,x=.ref p/\y=.int i/\SqL K H p xs/\atI xs i=some v/\Q v H
def rIxT(K:PySem.W.Frag):R2:=fun x y H Q=>∃p xs i v,x=.ref p/\y=.int i/\SqT K H p xs/\atI xs i=some v/\Q v H
def rIxS:R2:=fun x y H Q=>∃z i c,x=.str z/\y=.int i/\z.length<=sizeLine/\atI z.cps.toList i=some c/\Q (.str ⟨#[c]⟩) H
theorem wn3:IxR X (rIxL X.K):=by
 intro value slice pins s σ H x y v u Q I rx ry h hs;obtain⟨p,xs,i,z,rfl,rfl,hq,he,q⟩:=h;cases rx;obtain⟨t,rfl⟩:=ry;obtain⟨its,r,pl,hz⟩:=I.list hq;obtain⟨j,h1,h2,h3,h4,h5⟩:=yr0 he;obtain⟨w,ew,rw'⟩:=r.get h2;have hl:=r.length;have hn:=zv4;have fin:EP X pins σ Q w s:=⟨z,H,I,rw',q⟩
 by_cases h0:0<=i
 ·have hj:i.toNat=j:=by
   rw[seqIndex_of h0 h5]at h1;exact wx7 h1
  exact item_listR pl.isList h0 (by lia) (by rw[hj];simpa using ew) fin hs
 ·have hj:(i+(its.toArray.size:Int)).toNat=j:=by
   rw[seqIndex_neg (by lia) h4]at h1;rw[ws9,←hl];exact wx7 h1
  exact subscriptTail_builtinR (x:=w) pl.isList.typeIs slot_list_getitem.lookup
   (wpAny_getItem_list_neg (Q:=fun r s'=>r=w/\EP X pins σ Q r s') pl.isList (by lia) (by rw[ws9] <;> lia) (by lia) (by rw[hj];simpa using ew) ⟨rfl,fin⟩) hs
theorem yn4:IxR X (rIxT X.K):=by
 intro value slice pins s σ H x y v u Q I rx ry h hs;obtain⟨p,xs,i,z,rfl,rfl,hq,he,q⟩:=h;cases rx;obtain⟨t,rfl⟩:=ry;obtain⟨its,r,pl,hz⟩:=I.tuple hq;obtain⟨j,h1,h2,h3,h4,h5⟩:=yr0 he;obtain⟨w,ew,rw'⟩:=r.get h2;have hl:=r.length;have hn:=zv4;have fin:EP X pins σ Q w s:=⟨z,H,I,rw',q⟩;exact subscriptTail_builtinR (x:=w) pl.typeIs slot_tuple_getitem.lookup
  (getItem_tuple (j:=j) (Q:=fun r s'=>r=w/\EP X pins σ Q r s') pl (by lia) (by lia) (by rw[ws9,←hl];exact h1) (by simpa using ew) ⟨rfl,fin⟩) hs
theorem wd6:IxR X rIxS:=by
 intro value slice pins s σ H x y v u Q I rx ry h hs;obtain⟨z,i,c,rfl,rfl,hz,he,q⟩:=h;obtain⟨t,rfl⟩:=rx;obtain⟨t',rfl⟩:=ry;obtain⟨j,h1,h2,h3,h4,h5⟩:=yr0 he;have hl:z.cps.toList.length=z.length:=by simp[Str.length]
 rw[hl]at h1 h4 h5;have hn:=zv4;exact tail_any (typeIs_str s z t) slot_str_getitem.lookup (getItem_str (c:=c) (by
  have e1:decide (i < -(2 ^ 63:Int))=false:=wv8 (by lia);have e2:decide (i≥2 ^ 63)=false:=wv8 (by lia);rw[e1,e2,Bool.or_false]) (by rw[h1];simpa using h2) ⟨.str ⟨#[c]⟩,H,I.tok _,⟨_,rfl⟩,q⟩) hs
theorem xd2(its:List Value)(n j:Nat)(u:Value):Obj.mapSeq (·.setIfInBounds j u) {cls:=.type "list",data:=.seq its.toArray n}={cls:=.type "list",data:=.seq (its.set j u).toArray n}:=by
 simp[Obj.mapSeq]
theorem Inv.lst{pins:List (Addr×Obj)}{σ:St}{H:Hp}{s:Shared}{p:Addr}{xs:List V}(I:Inv X pins σ H s)(h:H p=some (.lst xs)):
  ∃(its:List Value)(n:Nat),Vals xs its/\s.heap.get? p=some {cls:=.type "list",data:=.seq its.toArray n}/\xs.length<=sizeLine:=by
 obtain⟨z,its,n,r,e⟩:=I.hok p _ h;exact⟨its,n,r,e,z⟩
theorem Inv.lstUpd{pins:List (Addr×Obj)}{σ:St}{H:Hp}{s:Shared}{p:Addr}{xs ys:List V}{its its':List Value}{n n':Nat}{f:Obj->Obj}(I:Inv X pins σ H s)(h:H p=some (.lst xs))
  (ho:s.heap.get? p=some {cls:=.type "list",data:=.seq its.toArray n}) (hf:f {cls:=.type "list",data:=.seq its.toArray n}={cls:=.type "list",data:=.seq its'.toArray n'}) (r:Vals ys its') (hz:ys.length<=sizeLine) (t:Nat):
  Inv X pins σ (upd H p (.lst ys)) {s with heap:=s.heap.update p f,toks:=t}:=by
 have e:(s.heap.update p f).get? p=some {cls:=.type "list",data:=.seq its'.toArray n'}:=by
  rw[wz7 f ho (by rw[hf] <;> rfl),hf]
 refine I.write (x:=p) (e:=p) (by rw[h];trivial) (.inl rfl) (fun b u hb q=>(vb4 _ _ (vb3 hb)).trans q) ⟨_,e⟩ ?_;exact⟨hz,its',n',r,e⟩
def rSetL:V->V->V->Hp->(Hp->Prop)->Prop:=fun o i v H Q=>∃p xs k j,o=.ref p/\i=.int k/\H p=some (.lst xs)/\ixN xs.length k=some j/\Q (upd H p (.lst (xs.set j v)))
theorem zq0:PSet X rSetL:=by
 intro pins s σ H o i v ov iv u Q I ro ri rv h;obtain⟨p,xs,k,j,rfl,rfl,hp,hj,q⟩:=h;cases ro;obtain⟨t,rfl⟩:=ri;obtain⟨its,n,r,ho,hz⟩:=I.lst hp;obtain⟨h1,h2,h3,h4⟩:=xf8 hj;have hl:=r.length;have hn:=zv4;have I':Inv X pins σ (upd H p (.lst (xs.set j v))) {s with heap:=s.heap.update p (Obj.mapSeq (·.setIfInBounds j u))}:=
  I.lstUpd hp ho (xd2 its n j u) (r.set rv j) (by rw[List.length_set];exact hz) s.toks
 by_cases h0:0<=k
 ·have hk:k.toNat=j:=by
   rw[seqIndex_of h0 h4]at h1;exact wx7 h1
  exact PySem.W.ki_setAt ho h0 (by lia) (by rw[ws9,←hl];exact h4) (by rw[hk];exact⟨_,I',q⟩)
 ·have hk:(k+(its.toArray.size:Int)).toNat=j:=by
   rw[seqIndex_neg (by lia) h3]at h1;rw[ws9,←hl];exact wx7 h1
  exact PySem.W.ki_setBack ho (by lia) (by rw[ws9,←hl];exact h3) (by lia) (by rw[hk];exact⟨_,I',q⟩)
theorem yp9(lo hi:Option Int)(n:Nat):(sliceBounds lo hi none n).1=((HT.sIx n 0 lo:Nat):Int)/\(sliceBounds lo hi none n).2.1=((HT.sIx n n hi:Nat):Int)/\(sliceBounds lo hi none n).2.2=1:=by
 refine⟨?_,?_,rfl⟩
 ·cases lo with
  | none=>simp[sliceBounds,HT.sIx]
  | some i=>
   simp only[sliceBounds,HT.sIx,Option.getD_none,show(1:Int) > 0 by decide,if_true]
   by_cases h:i<0
   ·simp only[h,if_true] <;> lia
   ·simp only[h,vg9] <;> lia
 ·cases hi with
  | none=>simp[sliceBounds,HT.sIx]
  | some i=>
   simp only[sliceBounds,HT.sIx,Option.getD_none,show(1:Int) > 0 by decide,if_true]
   by_cases h:i<0
   ·simp only[h,if_true] <;> lia
   ·simp only[h,vg9] <;> lia
theorem yk5(its:List Value)(lo hi:Option Int):slicePick its.toArray lo hi none=((its.drop (HT.sIx its.length 0 lo)).take (HT.sIx its.length its.length hi-HT.sIx its.length 0 lo)).toArray:=by
 obtain⟨h1,h2,h3⟩:=yp9 lo hi its.toArray.size;unfold slicePick;rw[h1,h2,h3];simp only[sliceRange_one,pick_run,ws9] <;> rfl
def rSlL(K:PySem.W.Frag):V->Option Int->Option Int->Hp->VK->Prop:=fun x lo hi H Q=>∃a xs,x=.ref a/\SqL K H a xs/\∀p,H p=none->Q (.ref p) (upd H p (.lst (cutV xs lo hi)))
theorem zt7:SlR X (rSlL X.K):=by
 intro pins s σ H x v vl vu lo hi sl Q I rx hs pl pu h;obtain⟨a,xs,rfl,hx,q⟩:=h;cases rx;obtain⟨its,r,ht,hz⟩:=I.list hx;have hlen:=r.length;refine⟨"list",_,slot_list_getitem.lookup,ht.isList.typeIs,?_⟩;refine wpAny_getItem_list_slice ht.isList hs pl pu .none (by simp) ?_ (by rw[ws9] <;> lia);rw[yk5,←hlen];refine⟨.ref s.heap.objs.size,_,I.laid (t':=s.toks) (o:=.lst (cutV xs lo hi)) (fun b ob q=>wr4 _ q) (wr5 _) ?_,rfl,q _ (I.hok.fresh (wr5 _))⟩;exact⟨wx6 (yc1 xs lo hi) hz,_,0,(r.drop (HT.sIx xs.length 0 lo)).take (HT.sIx xs.length xs.length hi-HT.sIx xs.length 0 lo),wt0 _ rfl⟩
def zz6:V->Bool
 | .non=>true
 | .bl _=>true
 | .int _=>true
 | .str _=>true
 | _=>false
def eqV:V->V->Bool
 | .non,.non=>true
 | .bl a,.bl b=>a == b
 | .bl a,.int b=>(if a then 1 else 0) == b
 | .int a,.bl b=>a == (if b then 1 else 0)
 | .int a,.int b=>a == b
 | .str a,.str b=>a == b
 | _,_=>false
theorem eqAt_V{A:Around}{s:Shared}{y x:V}{u v:Value}(ry:RelV y u)(rx:RelV x v)(fy:zz6 y=true)(fx:zz6 x=true):SeqAt.EqAt A s u v (eqV y x):=by
 cases y with
 | non=>
  cases ry;cases x with
  | non=>cases rx;exact SeqAt.EqAt.same _
  | bl b=>cases rx;exact SeqAt.EqAt.none_bool b
  | int b=>obtain⟨t,rfl⟩:=rx;exact SeqAt.EqAt.none_int b t
  | str b=>obtain⟨t,rfl⟩:=rx;exact SeqAt.EqAt.none_str b t
  | _=>exact absurd (show false=true from fx) wt2
 | bl a=>
  cases ry;cases x with
  | non=>cases rx;exact SeqAt.EqAt.bool_none a
  | bl b=>cases rx;exact SeqAt.EqAt.bool_bool a b
  | int b=>obtain⟨t,rfl⟩:=rx;exact SeqAt.EqAt.bool_int a b t
  | str b=>obtain⟨t,rfl⟩:=rx;exact SeqAt.EqAt.bool_str a b t
  | _=>exact absurd (show false=true from fx) wt2
 | int a=>
  obtain⟨t',rfl⟩:=ry;cases x with
  | non=>cases rx;exact SeqAt.EqAt.int_none a t'
  | bl b=>cases rx;exact SeqAt.EqAt.int_bool a t' b
  | int b=>obtain⟨t,rfl⟩:=rx;exact SeqAt.EqAt.int_int a t' b t
  | str b=>obtain⟨t,rfl⟩:=rx;exact SeqAt.EqAt.int_str a t' b t
  | _=>exact absurd (show false=true from fx) wt2
 | str a=>
  obtain⟨t',rfl⟩:=ry;cases x with
  | non=>cases rx;exact SeqAt.EqAt.str_none a t'
  | bl b=>cases rx;exact SeqAt.EqAt.str_bool a t' b
  | int b=>obtain⟨t,rfl⟩:=rx;exact SeqAt.EqAt.str_int a t' b t
  | str b=>obtain⟨t,rfl⟩:=rx;exact SeqAt.EqAt.str_str a t' b t
  | _=>exact absurd (show false=true from fx) wt2
 | _=>exact absurd (show false=true from fy) wt2
def eqU(x:V)(u:Value):Bool:=match u with
 | .none=>eqV .non x
 | .bool b=>eqV (.bl b) x
 | .int i _=>eqV (.int i) x
 | .str z _=>eqV (.str z) x
 | _=>false
theorem wd9{x y:V}{u:Value}(r:RelV y u)(f:zz6 y=true):eqU x u=eqV y x:=by
 cases y with
 | non=>cases r;rfl
 | bl b=>cases r;rfl
 | int i=>obtain⟨t,rfl⟩:=r;rfl
 | str z=>obtain⟨t,rfl⟩:=r;rfl
 | _=>exact absurd (show false=true from f) wt2
theorem yc6{x:V}:∀{xs:List V}{us:List Value},Vals xs us->xs.all zz6=true->us.any (eqU x)=xs.any fun y=>eqV y x
 | _,_,.nil,_=>rfl
 | y::xs,u::us,.cons r t,f=>by
  rw[List.all_cons,vh3]at f;rw[vp8,vp8,wd9 r f.1,yc6 t f.2]
theorem zr2{A:Around}{s:Shared}{x:V}{v:Value}(rx:RelV x v)(fx:zz6 x=true):∀{xs:List V}{us:List Value},Vals xs us->xs.all zz6=true->∀u∈us,SeqAt.EqAt A s u v (eqU x u)
 | _,_,.nil,_=>fun u hu=>by cases hu
 | y::xs,u::us,.cons r t,f=>fun u' hu=>by
  rw[List.all_cons,vh3]at f;rcases ws5.mp hu with rfl | hu
  ·rw[wd9 r f.1];exact eqAt_V r rx f.1 fx
  ·exact zr2 rx fx t f.2 u' hu
def inV(x:V)(xs:List V):Bool:=xs.any fun y=>eqV y x
def rIn(K:PySem.W.Frag)(neg:Bool):R2:=fun x y H Q=>∃p xs,y=.ref p/\(SqL K H p xs∨SqT K H p xs)/\zz6 x=true/\xs.all zz6=true/\Q (.bl (if neg then !inV x xs else inV x xs)) H
theorem zg6:OpR X (compareOp .In) (rIn X.K false):=by
 intro pins s σ H x y v u Q I rx ry h;obtain⟨p,xs,rfl,hq,fx,fs,q⟩:=h;cases ry;rcases hq with hq | hq
 ·obtain⟨its,r,pl,hz⟩:=I.list hq;refine SeqAt.in_listAt (eqU x) pl.isList (fun w hw=>zr2 rx fx r fs w (by simpa using hw)) ⟨.bl _,H,I,rfl,?_⟩;rw[show its.toArray.any (eqU x)=its.any (eqU x) by simp,yc6 r fs];exact q
 ·obtain⟨its,r,pl,hz⟩:=I.tuple hq;refine SeqAt.in_tupleAt (eqU x) pl (fun w hw=>zr2 rx fx r fs w (by simpa using hw)) ⟨.bl _,H,I,rfl,?_⟩;rw[show its.toArray.any (eqU x)=its.any (eqU x) by simp,yc6 r fs];exact q
theorem zm1:OpR X (compareOp .NotIn) (rIn X.K true):=by
 intro pins s σ H x y v u Q I rx ry h;obtain⟨p,xs,rfl,hq,fx,fs,q⟩:=h;cases ry;rcases hq with hq | hq
 ·obtain⟨its,r,pl,hz⟩:=I.list hq;refine SeqAt.notIn_listAt (eqU x) pl.isList (fun w hw=>zr2 rx fx r fs w (by simpa using hw)) ⟨.bl _,H,I,rfl,?_⟩;rw[show its.toArray.any (eqU x)=its.any (eqU x) by simp,yc6 r fs];exact q
 ·obtain⟨its,r,pl,hz⟩:=I.tuple hq;refine SeqAt.notIn_tupleAt (eqU x) pl (fun w hw=>zr2 rx fx r fs w (by simpa using hw)) ⟨.bl _,H,I,rfl,?_⟩;rw[show its.toArray.any (eqU x)=its.any (eqU x) by simp,yc6 r fs];exact q
theorem zg3:CallR X (.builtin "len") (fun xs H Q=>∃p ys,xs=[.ref p]/\(SqL X.K H p ys∨SqT X.K H p ys)/\Q (.int ys.length) H):=by
 intro pins s σ H xs us Q I r h;obtain⟨p,ys,rfl,hq,q⟩:=h;obtain⟨u,rfl,rx⟩:=zq8 r;cases rx;have hn:=zv4;rcases hq with hq | hq
 ·obtain⟨its,r',pl,hz⟩:=I.list hq;have hlen:=r'.length;exact Calls.call_len_list pl.isList (by simp only[ws9] <;> lia) ⟨.int ys.length,H,I.tok _,⟨s.toks+1,by rw[ws9,hlen]⟩,q⟩
 ·obtain⟨its,r',pl,hz⟩:=I.tuple hq;have hlen:=r'.length;exact len_tuple pl (by simp only[ws9] <;> lia) ⟨.int ys.length,H,I.tok _,⟨s.toks+1,by rw[ws9,hlen]⟩,q⟩
theorem yp0:CallR X (.builtin "len") (fun xs H Q=>∃z,xs=[.str z]/\z.length<=sizeLine/\Q (.int z.length) H):=by
 intro pins s σ H xs us Q I r h;obtain⟨z,rfl,hz,q⟩:=h;obtain⟨u,rfl,t,rfl⟩:=zq8 r;have hn:=zv4;exact len_str (by lia) ⟨.int z.length,H,I.tok _,⟨_,rfl⟩,q⟩
theorem zd3:CallR X (.type "tuple") (fun xs H Q=>∃p ys,xs=[.ref p]/\((SqL X.K H p ys/\∀l,H l=none->Q (.ref l) (upd H l (.tup ys)))∨(SqT X.K H p ys/\Q (.ref p) H))):=by
 intro pins s σ H xs us Q I r h;obtain⟨p,ys,rfl,h⟩:=h;obtain⟨u,rfl,rx⟩:=zq8 r;cases rx;rcases h with ⟨hq,q⟩ | ⟨hq,q⟩
 ·obtain⟨its,r',pl,hz⟩:=I.list hq;have hlen:=r'.length;refine call_tuple_list pl.isList (fun h' kp=>?_) (by simp only[ws9] <;> lia);have I1:Inv X pins σ H {s with heap:=h'}:=I.kept (t':=s.toks) kp;have I2:Inv X pins σ (upd H h'.objs.size (.tup ys)) {s with heap:=h'.push {cls:=.type "tuple",data:=.seq its.toArray}}:=
   I1.laid (t':=s.toks) (fun b o e=>wr4 _ e) (wr5 _) (show ObjOk X.prog X.w _ _ _ (.tup ys) from ⟨⟨hz,_,wt0 _ rfl,rfl⟩,its,r',IsTup.new _ _⟩)
  exact⟨.ref h'.objs.size,_,I2,rfl,q _ (I1.hok.fresh (wr5 _))⟩
 ·obtain⟨its,r',pl,hz⟩:=I.tuple hq;exact call_tuple_same pl ⟨.ref p,H,I,rfl,q⟩
def tyV(K:PySem.W.Frag)(T:String)(x:V)(H:Hp):Prop:=match x with
 | .str _=>T="str"
 | .int _=>T="int"
 | .ref p=>(T="list"/\∃xs,SqL K H p xs)∨(T="tuple"/\∃o,K.lookup p=some o/\o.cls=.type "tuple"/\o.dict=none)∨
   (T="dict"/\((∃kvs,H p=some (.dK kvs))∨∃kvs,H p=some (.dT kvs)))∨(T="set"/\∃S n,H p=some (.set S n))
 | _=>False
theorem tyV_is{pins:List (Addr×Obj)}{σ:St}{H:Hp}{s:Shared}{T:String}{x:V}{v:Value}(I:Inv X pins σ H s)(r:RelV x v)(ty:tyV X.K T x H):
  s.TypeIs v T/\∀a,v=.ref a->∃ob,s.heap.get? a=some ob/\ob.dict=none:=by
 cases x with
 | str z=>
  obtain⟨t,rfl⟩:=r;cases (show T="str" from ty);exact⟨typeIs_str s z t,fun _ e=>nomatch e⟩
 | int i=>
  obtain⟨t,rfl⟩:=r;cases (show T="int" from ty);exact⟨typeIs_int s i t,fun _ e=>nomatch e⟩
 | ref p=>
  cases r;rcases ty with ⟨rfl,xs,hq⟩ | ⟨rfl,o,hk,hc,hd⟩ | ⟨rfl,hk⟩ | ⟨rfl,S,n,hk⟩
  ·obtain⟨its,_,pl,_⟩:=I.list hq;refine⟨pl.isList.typeIs,fun a e=>?_⟩;cases e;obtain⟨o,n,e,c,hd,_⟩:=pl;exact⟨o,e,hd⟩
  ·refine⟨⟨o,I.kIn p o hk,hc⟩,fun a e=>?_⟩;cases e;exact⟨o,I.kIn _ o hk,hd⟩
  ·have z:∃o,s.heap.get? p=some o/\o.ExactDict:=by
    rcases hk with ⟨kvs,hk⟩ | ⟨kvs,hk⟩
    ·obtain⟨_,_,_,_,o,_,_,e,ex,_⟩:=I.hok p _ hk;exact⟨o,e,ex⟩
    ·obtain⟨_,_,_,_,o,_,_,e,ex,_⟩:=I.hok p _ hk;exact⟨o,e,ex⟩
   obtain⟨o,e,ex⟩:=z;refine⟨⟨o,e,ex.1⟩,fun a e2=>?_⟩;cases e2;exact⟨o,e,ex.2.1⟩
  ·obtain⟨o,_,_,_,e,ex,_⟩:=I.hok p _ hk;refine⟨⟨o,e,ex.1⟩,fun a e2=>?_⟩;cases e2;exact⟨o,e,ex.2.1⟩
 | _=>exact False.elim ty
def tBM(K:PySem.W.Frag)(T:String)(r:V->List V->Hp->VK->Prop)(to:TE)(t:TA):TE:=fun σ H Q=>to σ H fun x H1=>tyV K T x H1/\t σ H1 fun xs H2=>r x xs H2 Q
variable{o e:Expr}{es:List Expr}{to:TE}{t:TA}{name:Str}{apos cpos:Pos}{T id:String}{r:V->List V->Hp->VK->Prop}
theorem zm9(pa:PlainAttrs T)(slot:Slot T name id)(hty:typeOf (.builtin id)=pure (.type "method_descriptor"))(hm:MtR X id r)(ho:PE X o to)(ha:PA X (e::es) t)
  (hbase:attributeBase o name X.env (eval o X.env)=eval o X.env:=by rfl)
  (hfew:((backTo cpos (starEach (e::es) X.env)).all (fun x=>!x.1) && (backToKw cpos (keywordEach [] X.env)).all (fun x=>x.1.isSome)
   && decide ((e::es).length+([]:List Keyword).length+(if ([]:List Keyword).isEmpty then 0 else 1)<30))=true:=by rfl)
  (hline:(apos.endLine == cpos.line)=true:=by rfl) (hs:starEach (e::es) X.env=(false,eval e X.env)::starEach es X.env:=by rfl) (hplain:(backTo cpos (starEach es X.env)).any (·.1)=false:=by rfl):
  PE X (.Call (.Attribute o name apos) (e::es) [] cpos) (tBM X.K T r to t):=by
 intro pins s σ H Q I h;refine wpAny_Call_method_late hbase hfew hline rfl (thn (ho pins s σ H _ I h) fun v s1 ⟨x,H1,I1,r1,ty,q1⟩=>?_);obtain⟨h1,h2⟩:=tyV_is I1 r1 ty;refine⟨T,id,pa,slot,hty,h1,h2,?_⟩;have hA:=ha cpos pins s1 σ H1 _ I1 q1;rw[hs]at hA ⊢;refine vb5 (by show(false || (backTo cpos (starEach es X.env)).any (·.1))=false;rw[hplain] <;> rfl) (vd1 ?_);exact thn hA fun us s2 ⟨vs,H2,I2,r2,q2⟩=>hm pins s2 σ H2 x vs v us Q I2 r1 r2 q2
end
def MtM(X:Cx)(id:String)(r:V->List V->Hp->VK->Prop):Prop:=
 ∀(pins:List (Addr×Obj))(s:Shared)(σ:St)(H:Hp)(x:V)(xs:List V)(v:Value)(us:List Value)(Q:VK),Inv X pins σ H s->RelV x v->Vals xs us->r x xs H Q->
  wpAny (model X.prog X.w) X.A (call (.builtin id) (v::us)) (EP X pins σ Q) X.xe s
theorem Vals.one:∀{x:V}{us:List Value},Vals [x] us->∃u,us=[u]/\RelV x u
 | _,_,.cons r .nil=>⟨_,rfl,r⟩
theorem Vals.eraseIdx:∀{xs:List V}{us:List Value}(i:Nat),Vals xs us->Vals (xs.eraseIdx i) (us.eraseIdx i)
 | _,_,_,.nil=>.nil
 | _,_,0,.cons _ t=>t
 | _,_,i+1,.cons r t=>.cons r (Vals.eraseIdx i t)
theorem Vals.reverse{xs:List V}{us:List Value}(h:Vals xs us):Vals xs.reverse us.reverse:=by
 induction h with
 | nil=>exact .nil
 | cons r t ih=>rw[List.reverse_cons,List.reverse_cons];exact Vals.append ih (.cons r .nil)
theorem Vals.rep{xs:List V}{us:List Value}(h:Vals xs us):∀k:Nat,Vals (List.replicate k xs).flatten (List.replicate k us).flatten
 | 0=>.nil
 | k+1=>by
  rw[vk0,vk0,vq7,vq7];exact Vals.append h (Vals.rep h k)
theorem yq2{α:Type}:∀(l:List α)(i:Nat),(l.eraseIdx i).length<=l.length
 | [],_=>wr5 _
 | _::_,0=>Nat.le_succ _
 | _::r,i+1=>Nat.succ_le_succ (yq2 r i)
theorem yq4(its:List Value):∀(k:Nat)(acc:List Value),
  List.foldl (fun x1 x2=>x1++x2) acc.toArray (List.replicate k its.toArray)=(acc++(List.replicate k its).flatten).toArray
 | 0,acc=>by simp
 | k+1,acc=>by
  have e:acc.toArray++its.toArray=(acc++its).toArray:=by simp
  have e2:(acc++its)++(List.replicate k its).flatten=acc++(List.replicate (k+1) its).flatten:=by
   rw[vk0,vq7,wt7]
  rw[←e2,←yq4 its k (acc++its),←e,vk0,List.foldl_cons]
section
variable{pins:List (Addr×Obj)}{σ:St}{H:Hp}{s:Shared}{l b:Addr}{xs ys zs:List V}
theorem Inv.lset{its its':List Value}{n:Nat}{f:Array Value->Array Value}{t':Nat}(I:Inv X pins σ H s)(hH:H l=some (.lst xs))
  (e:s.heap.get? l=some {cls:=.type "list",data:=.seq its.toArray n}) (hf:f its.toArray=its'.toArray) (hv:Vals ys its') (hz:ys.length<=sizeLine):
  Inv X pins σ (upd H l (.lst ys)) {s with heap:=s.heap.update l (Obj.mapSeq f),toks:=t'}:=by
 have q:=PySem.IsL.update e f;rw[hf]at q;refine I.write (x:=l) (e:=l) (by rw[hH];exact trivial) (.inl rfl) (fun b' u hb hu=>(vb4 s.heap (Obj.mapSeq f) (vb3 hb)).trans hu) ⟨_,q⟩ ?_;exact⟨hz,its',_,hv,q⟩
theorem Inv.lnew{its:List Value}{t':Nat}(I:Inv X pins σ H s)(hv:Vals ys its)(hz:ys.length<=sizeLine):
  Inv X pins σ (upd H s.heap.objs.size (.lst ys)) {s with heap:=s.heap.push {cls:=.type "list",data:=.seq its.toArray},toks:=t'}:=
 I.laid (fun _ _ q=>wr4 _ q) (wr5 _) ⟨hz,its,0,hv,wt0 _ rfl⟩
theorem Inv.fresh(I:Inv X pins σ H s):H s.heap.objs.size=none:=I.hok.fresh (wr5 _)
theorem Inv.lstM(I:Inv X pins σ H s)(hH:H l=some (.lst xs)):xs.length<=sizeLine/\∃(its:List Value)(n:Nat),Vals xs its/\xs.length=its.length/\s.heap.get? l=some {cls:=.type "list",data:=.seq its.toArray n}:=by
 obtain⟨z,its,n,r,e⟩:=I.hok l _ hH;exact⟨z,its,n,r,r.length,e⟩
theorem yx4{n:Nat}(h:n<=sizeLine):Builtin.List.listTooLong n=false:=by
 unfold Builtin.List.listTooLong;exact wv8 (by lia)
end
def zt5:V->List V->Hp->VK->Prop:=fun x vs H Q=>∃l xs y,x=.ref l/\vs=[y]/\H l=some (.lst xs)/\xs.length<sizeLine/\Q .non (upd H l (.lst (xs++[y])))
theorem zf5:MtM X "list.append" zt5:=by
 intro pins s σ H x vs v us Q I rx rv h;obtain⟨l,xs,y,rfl,rfl,hH,hz,q⟩:=h;cases rx;obtain⟨u,rfl,ru⟩:=rv.one;obtain⟨z,its,n,r,hl,e⟩:=I.lstM hH;refine call_meets F.slot_list_append ⟨_,e,rfl⟩ F.entry_list_append (F.args_list_append_2 _ _) (PySem.list_append l its.toArray n u (by rw[ws9];lia)) ⟨e,?_⟩;refine⟨.non,_,I.lset (its':=its++[u]) hH e (by simp) (r.append (.cons ru .nil)) ?_,rfl,q⟩;rw[wr2,ws8];lia
def wk8:V->List V->Hp->VK->Prop:=fun x vs H Q=>∃l b xs zs,x=.ref l/\vs=[.ref b]/\H l=some (.lst xs)/\H b=some (.lst zs)/\xs.length+zs.length<=sizeLine/\Q .non (upd H l (.lst (xs++zs)))
theorem zz7:MtM X "list.extend" wk8:=by
 intro pins s σ H x vs v us Q I rx rv h;obtain⟨l,b,xs,zs,rfl,rfl,hH,hB,hz,q⟩:=h;cases rx;obtain⟨u,rfl,ru⟩:=rv.one;cases ru;obtain⟨z,its,n,r,hl,e⟩:=I.lstM hH;obtain⟨z2,its2,n2,r2,hl2,e2⟩:=I.lstM hB;have hsz:its.toArray.size+its2.toArray.size<=sizeLine:=by rw[ws9,ws9];lia
 have hlong:¬(!its.toArray.isEmpty && Builtin.List.listTooLong (its.toArray.size+its2.toArray.size))=true:=by
  rw[yx4 hsz,Bool.and_false];exact wt2
 refine call_meets F.slot_list_extend ⟨_,e,rfl⟩ F.entry_list_extend (F.args_list_extend_2 _ _)
  (AutoSeq1.list_extend_list_list_0 l its.toArray n b its2.toArray n2 hlong (by rw[ws9];lia) (by lia)) ⟨e,e2,?_⟩
 refine⟨.non,_,I.lset (its':=its++its2) hH e (by simp) (r.append r2) ?_,rfl,q⟩;rw[wr2];lia
def wd5:V->List V->Hp->VK->Prop:=fun x vs H Q=>∃l xs i k y,x=.ref l/\vs=[.int i]/\H l=some (.lst xs)/\-(2 ^ 63)<=i/\i<2 ^ 63/\seqIndex? i xs.length=some k/\xs[k]?=some y/\Q y (upd H l (.lst (xs.eraseIdx k)))
theorem xx5:MtM X "list.pop" wd5:=by
 intro pins s σ H x vs v us Q I rx rv h;obtain⟨l,xs,i,k,y,rfl,rfl,hH,h1,h2,hk,hy,q⟩:=h;cases rx;obtain⟨u,rfl,ru⟩:=rv.one;obtain⟨t,rfl⟩:=ru;obtain⟨z,its,n,r,hl,e⟩:=I.lstM hH;obtain⟨w,hw,rw'⟩:=r.get hy;refine call_meets F.slot_list_pop ⟨_,e,rfl⟩ F.entry_list_pop (F.args_list_pop_2 _ _)
  (MeetsSeq.list_pop_at l its.toArray n i t k w (fitsIndex_both h1 h2) (by rw[ws9,←hl];exact hk) (by rw[←vf0];exact hw) (by rw[ws9];lia)) ⟨e,?_⟩
 refine⟨y,_,I.lset (its':=its.eraseIdx k) hH e ?_ (r.eraseIdx k) ?_,rw',q⟩
 ·show its.toArray.eraseIdxIfInBounds k=(its.eraseIdx k).toArray;rw[List.eraseIdxIfInBounds_toArray]
 ·have:=yq2 xs k;lia
def rCat:R2:=fun x y H Q=>∃l b xs zs,x=.ref l/\y=.ref b/\H l=some (.lst xs)/\H b=some (.lst zs)/\xs.length+zs.length<=sizeLine/\∀p,H p=none->Q (.ref p) (upd H p (.lst (xs++zs)))
theorem yf7:OpR X (binaryOp .Add) rCat:=by
 intro pins s σ H x y v u Q I rx ry h;obtain⟨l,b,xs,zs,rfl,rfl,hH,hB,hz,q⟩:=h;cases rx;cases ry;obtain⟨z,its,n,r,hl,e⟩:=I.lstM hH;obtain⟨z2,its2,n2,r2,hl2,e2⟩:=I.lstM hB;refine PySem.P.add_list e e2 ?_ (by rw[ws9,ws9];lia);have ea:its.toArray++its2.toArray=(its++its2).toArray:=by simp
 rw[ea];exact⟨.ref _,_,I.lnew (t':=s.toks) (r.append r2) (by rw[wr2];lia),rfl,q _ I.fresh⟩
def rRep:R2:=fun x y H Q=>∃l k xs,x=.ref l/\y=.int k/\H l=some (.lst xs)/\-(2 ^ 63)<=k/\k<2 ^ 63/\xs.length*k.toNat<=sizeLine/\
 ∀p,H p=none->Q (.ref p) (upd H p (.lst (List.replicate k.toNat xs).flatten))
theorem wg8{α:Type}(xs:List α)(k:Nat):(List.replicate k xs).flatten.length=k*xs.length:=by
 induction k with
 | zero=>simp
 | succ k ih=>rw[vk0,vq7,wr2,ih,Nat.succ_mul,Nat.add_comm]
theorem op_rep:OpR X (binaryOp .Mult) rRep:=by
 intro pins s σ H x y v u Q I rx ry h;obtain⟨l,k,xs,rfl,rfl,hH,h1,h2,hz,q⟩:=h;cases rx;obtain⟨t,rfl⟩:=ry;obtain⟨z,its,n,r,hl,e⟩:=I.lstM hH;have hlen:its.toArray.size*k.toNat<=sizeLine:=by rw[ws9,←hl];exact hz
 have hcap:¬its.toArray.size*k.toNat > (2 ^ 63-1) / 8:=by
  have:(sizeLine:Nat)<=(2 ^ 63-1) / 8:=by decide
  lia
 have hfit:¬(!Builtin.List.listFitsIndex k)=true:=by
  rw[fitsIndex_both h1 h2];exact wt2
 have hlong:¬Builtin.List.listTooLong (its.toArray.size*k.toNat)=true:=by
  rw[yx4 hlen];exact wt2
 have hnew:List.foldl (fun x1 x2=>x1++x2) #[] (List.replicate (if its.toArray.isEmpty=true then 0 else k.toNat) its.toArray)=(List.replicate k.toNat its).flatten.toArray:=by
  have f0:∀m:Nat,List.foldl (fun x1 x2=>x1++x2) #[] (List.replicate m its.toArray)=(List.replicate m its).flatten.toArray:=fun m=>by
   have:=yq4 its m [];rw[List.nil_append]at this;exact this
  rw[f0];cases its with
  | nil=>simp
  | cons a r'=>rw[wv5 (by simp)]
 refine wpAny_binaryOp_repeat_ref (T:="list") (U:="int") (by decide) ⟨_,e,rfl⟩ (fun s'=>typeIs_int s' k t) noFill_list_mul F.fills_int_mul F.slot_int_rmul repeat_list F.slot_int_index.lookup
  (call_meets F.slot_int_rmul (typeIs_int s k t) F.entry_int_rmul (F.args_int_rmul_2 _ _) (int___rmul___int_list k t l its.toArray n)
   ⟨e,rfl,⟨_,e,rfl⟩,call_meets F.slot_list_mul ⟨_,e,rfl⟩ F.entry_list_mul (F.args_list_mul_2 _ _) (AutoListH.list___mul___list_int_3 l its.toArray n k t hfit hcap hlong) ⟨e,?_⟩⟩)
 rw[hnew];exact⟨.ref _,_,I.lnew (t':=s.toks) (r.rep k.toNat) (by rw[wg8,Nat.mul_comm];exact hz),rfl,q _ I.fresh⟩
section
variable{κ:Type}[DecidableEq κ]
def valV(kvs:List (κ×V))(k:κ):Option V:=(kvs.find? fun kv=>decide (kv.1=k)).map (·.2)
def putK(kvs:List (κ×V))(k:κ)(v:V):List (κ×V):=
 if (kvs.any fun kv=>decide (kv.1=k))=true then kvs.map (fun kv=>if kv.1=k then(kv.1,v) else kv) else kvs++[(k,v)]
theorem zj1{p:κ×V}{r:List (κ×V)}{k:κ}(e:p.1=k):valV (p::r) k=some p.2:=by simp[valV,vm0,e]
theorem zj2{p:κ×V}{r:List (κ×V)}{k:κ}(e:¬p.1=k):valV (p::r) k=valV r k:=by simp[valV,vm0,e]
theorem zm3(k:κ):∀kvs:List (κ×V),(kvs.any fun kv=>decide (kv.1=k))=(valV kvs k).isSome
 | []=>rfl
 | p::r=>by
  rw[vp8]
  by_cases e:p.1=k
  ·simp only[zj1 e,wt8 e,Bool.true_or,Option.isSome_some]
  ·rw[zj2 e,wv8 e,Bool.false_or];exact zm3 k r
theorem yz8(k j:κ)(y:V):∀kvs:List (κ×V),valV (kvs.map fun kv=>if kv.1=k then(kv.1,y) else kv) j=(valV kvs j).map fun x=>if j=k then y else x
 | []=>rfl
 | p::r=>by
  have ih:=yz8 k j y r;rw[ww3]
  by_cases h:p.1=k
  ·rw[ww4 h]
   by_cases e:p.1=j
   ·rw[zj1 (p:=(p.1,y)) e,zj1 e,Option.map_some,ww4 (e.symm.trans h)]
   ·rw[zj2 (p:=(p.1,y)) e,zj2 e,ih]
  ·rw[wv5 h]
   by_cases e:p.1=j
   ·rw[zj1 (p:=p) e,zj1 e,Option.map_some,wv5 (fun z=>h (e.trans z))]
   ·rw[zj2 (p:=p) e,zj2 e,ih]
theorem yk7(k j:κ)(y:V):∀kvs:List (κ×V),valV kvs k=none->valV (kvs++[(k,y)]) j=if j=k then some y else valV kvs j
 | [],_=>by
  by_cases e:k=j
  ·rw[ww4 e.symm];exact zj1 (p:=(k,y)) e
  ·rw[wv5 (fun z=>e z.symm)];exact zj2 (p:=(k,y)) e
 | p::r,hn=>by
  rw[List.cons_append];have hk:¬p.1=k:=fun z=>by rw[zj1 z]at hn;cases hn
  rw[zj2 hk]at hn;have ih:=yk7 k j y r hn
  by_cases e:p.1=j
  ·rw[zj1 e,zj1 e,wv5 (fun z=>hk (e.trans z))]
  ·rw[zj2 e,zj2 e,ih]
theorem zm5(kvs:List (κ×V))(k j:κ)(y:V):valV (putK kvs k y) j=if j=k then some y else valV kvs j:=by
 unfold putK
 by_cases a:(kvs.any fun kv=>decide (kv.1=k))=true
 ·rw[ww4 a,yz8];rw[zm3]at a
  by_cases e:j=k
  ·obtain⟨x,hx⟩:=Option.isSome_iff_exists.mp a;rw[ww4 e,e,hx,Option.map_some,ww4 rfl]
  ·rw[wv5 e];cases valV kvs j with
   | none=>rfl
   | some x=>rw[Option.map_some,wv5 e]
 ·rw[wv5 a];refine yk7 k j y kvs ?_;rw[zm3]at a;cases q:valV kvs k with
  | none=>rfl
  | some x=>rw[q]at a;exact(a rfl).elim
theorem zg7(kvs:List (κ×V))(k:κ)(v:V):(putK kvs k v).length<=kvs.length+1:=by
 unfold putK
 split
 ·rw[lqm];lia
 ·rw[wr2,wt3,vb9];lia
theorem zw4{kvs:List (κ×V)}{k:κ}(v:V)(h:valV kvs k=none):putK kvs k v=kvs++[(k,v)]:=by
 unfold putK;rw[zm3,h];exact wv5 (by decide)
theorem RelO.isSome_eq{o:Option V}{u:Option Value}(r:RelO o u):o.isSome=u.isSome:=by
 cases o with
 | none=>cases u with
  | none=>rfl
  | some _=>exact(show False from r).elim
 | some _=>cases u with
  | none=>exact(show False from r).elim
  | some _=>rfl
theorem RelO.getD{o:Option V}{u:Option Value}{d:V}{d':Value}(r:RelO o u)(rd:RelV d d'):RelV (o.getD d) (u.getD d'):=by
 cases o with
 | none=>cases u with
  | none=>exact rd
  | some _=>exact(show False from r).elim
 | some _=>cases u with
  | none=>exact(show False from r).elim
  | some _=>exact r
theorem KV.val{kvs:List (κ×V)}{vs:List (κ×Value)}(r:KV kvs vs)(k:κ):RelO (valV kvs k) (valueAt vs k):=by
 unfold KV at r
 induction r with
 | nil=>exact vj4
 | @cons p q ps qs h t ih=>
  obtain⟨h1,h2⟩:=h
  by_cases e:p.1=k
  ·have e':q.1=k:=h1.symm.trans e;have b:valueAt (q::qs) k=some q.2:=by simp[valueAt,vm0,e']
   rw[zj1 e,b];exact h2
  ·have e':¬q.1=k:=fun z=>e (h1.trans z);have b:valueAt (q::qs) k=valueAt qs k:=by simp[valueAt,vm0,e']
   rw[zj2 e,b];exact ih
theorem KV.any{kvs:List (κ×V)}{vs:List (κ×Value)}(r:KV kvs vs)(k:κ):(kvs.any fun kv=>decide (kv.1=k))=vs.any fun kv=>decide (kv.1=k):=by
 unfold KV at r
 induction r with
 | nil=>rfl
 | cons h t ih=>rw[vp8,vp8,ih,h.1]
theorem KV.repl{kvs:List (κ×V)}{vs:List (κ×Value)}(r:KV kvs vs)(k:κ){y:V}{u:Value}(ry:RelV y u):
  KV (kvs.map fun kv=>if kv.1=k then(kv.1,y) else kv) (vs.map fun kv=>if kv.1=k then(kv.1,u) else kv):=by
 unfold KV at r ⊢
 induction r with
 | nil=>exact .nil
 | @cons p q ps qs h t ih=>
  rw[ww3,ww3];refine .cons ?_ ih;obtain⟨h1,h2⟩:=h
  by_cases e:p.1=k
  ·rw[ww4 e,ww4 (h1.symm.trans e)];exact⟨h1,ry⟩
  ·rw[wv5 e,wv5 (fun z=>e (h1.trans z))];exact⟨h1,h2⟩
theorem KV.put{kvs:List (κ×V)}{vs:List (κ×Value)}(r:KV kvs vs)(k:κ){y:V}{u:Value}(ry:RelV y u):KV (putK kvs k y) (stored vs k u):=by
 unfold putK stored;rw[r.any k]
 by_cases e:(vs.any fun kv=>decide (kv.1=k))=true
 ·rw[ww4 e,ww4 e];exact r.repl k ry
 ·rw[wv5 e,wv5 e];exact Paired.snoc r ⟨rfl,ry⟩
theorem KV.length{kvs:List (κ×V)}{vs:List (κ×Value)}(r:KV kvs vs):kvs.length=vs.length:=vr1 r
end
theorem yg6{P:Program}{w:World}{k:Key}{u:Value}(r:RelV (kV k) u):(zc7 P w).is k u=true:=by
 cases k with
 | inl i=>obtain⟨t,e⟩:=(show ∃t,u=Value.int i t from r);subst e;exact ys8 P w i t
 | inr x=>obtain⟨t,e⟩:=(show ∃t,u=Value.str x t from r);subst e;exact yv4 P w x t
theorem zz0{P:Program}{w:World}:∀{ks:List Key}{us:List Value},Vals (ks.map kV) us->ItemsAre (zc7 P w) ks us
 | [],_,r=>by rw[List.map_nil]at r;cases r;exact .nil
 | k::ks,_,r=>by
  rw[ww3]at r;cases r with
  | cons h t=>exact .cons (yg6 h) (zz0 t)
abbrev KT(H:Hp):List (List Key×V)->List (List Key×Addr×Value)->Prop:=Paired fun p q=>p.1=q.1/\H q.2.1=some (.tup (p.1.map kV))/\RelV p.2 q.2.2
theorem KT.val{H:Hp}{kvs:List (List Key×V)}{xs:List (List Key×Addr×Value)}(r:KT H kvs xs)(k:List Key):RelO (valV kvs k) ((atKey xs k).map (·.2)):=by
 induction r with
 | nil=>exact vj4
 | @cons p q ps qs h t ih=>
  obtain⟨h1,_,h2⟩:=h
  by_cases e:p.1=k
  ·have e':q.1=k:=h1.symm.trans e;have b:atKey (q::qs) k=some q.2:=by simp[atKey,vm0,e']
   rw[zj1 e,b];exact h2
  ·have e':¬q.1=k:=fun z=>e (h1.trans z);have b:atKey (q::qs) k=atKey qs k:=by simp[atKey,vm0,e']
   rw[zj2 e,b];exact ih
theorem KT.repl{H:Hp}{kvs:List (List Key×V)}{xs:List (List Key×Addr×Value)}(r:KT H kvs xs)(k:List Key){y:V}{u:Value}(ry:RelV y u):
  KT H (kvs.map fun kv=>if kv.1=k then(kv.1,y) else kv) (xs.map (putAt k u)):=by
 induction r with
 | nil=>exact .nil
 | @cons p q ps qs h t ih=>
  rw[ww3,ww3];refine .cons ?_ ih;obtain⟨h1,h2,h3⟩:=h;unfold putAt
  by_cases e:p.1=k
  ·rw[ww4 e,ww4 (h1.symm.trans e)];exact⟨h1,h2,ry⟩
  ·rw[wv5 e,wv5 (fun z=>e (h1.trans z))];exact⟨h1,h2,h3⟩
theorem KT.put{H:Hp}{kvs:List (List Key×V)}{xs:List (List Key×Addr×Value)}(r:KT H kvs xs)(k:List Key){b:Addr}{y:V}{u:Value}(hb:H b=some (.tup (k.map kV)))(ry:RelV y u):
  KT H (putK kvs k y) (storedH xs k b u):=by
 have e:(kvs.any fun kv=>decide (kv.1=k))=(atKey xs k).isSome:=by
  rw[zm3,(r.val k).isSome_eq,Option.isSome_map]
 unfold putK storedH;rw[e]
 by_cases q:(atKey xs k).isSome=true
 ·rw[ww4 q,ww4 q];exact r.repl k ry
 ·rw[wv5 q,wv5 q];exact Paired.snoc r ⟨rfl,hb,ry⟩
theorem KT.keeps{H H':Hp}{kvs:List (List Key×V)}{xs:List (List Key×Addr×Value)}(r:KT H kvs xs)(ht:∀b ys,H b=some (.tup ys)->H' b=some (.tup ys)):KT H' kvs xs:=
 Paired.mapP r fun _ _ z=>⟨z.1,ht _ _ z.2.1,z.2.2⟩
section
variable{P:Program}{w:World}{H:Hp}{h:Heap}{a:Addr}
theorem rd_of{u:HO}(ok:HOk P w H h)(e:Rd H a u):ObjOk P w H h a u:=e.ok ok
theorem yd6{kvs:List (Key×V)}(ok:HOk P w H h)(e:Rd H a (.dK kvs)):kvs.length<=sizeLine/\(a == sysModules)=false/\∃vs,KV kvs vs/\h.DictOf (zc7 P w) a vs:=
 show ObjOk P w H h a (.dK kvs) from rd_of ok e
theorem yj3{kvs:List (Key×V)}(ok:HOk P w H h)(e:H a=some (.dK kvs)):kvs.length<=sizeLine/\(a == sysModules)=false/\∃vs,KV kvs vs/\h.DictOf (zc7 P w) a vs:=yd6 ok (.inl e)
theorem yf3{ks:List Key}(ok:HOk P w H h)(e:H a=some (.tup (ks.map kV))):(tupleKind (zc7 P w)).is h ks a:=by
 obtain⟨_,its,r,o,h1,h2,n,h3⟩:=(show ObjOk P w H h a (.tup (ks.map kV)) from ok a _ e);exact⟨o,its.toArray,n,h1,h2,h3,by simpa using zz0 r⟩
theorem xb8{kvs:List (List Key×V)}(ok:HOk P w H h)(e:Rd H a (.dT kvs)):kvs.length<=sizeLine/\(a == sysModules)=false/\
  ∃xs,KT H kvs xs/\h.DictOfH (tupleKind (zc7 P w)) a xs:=by
 obtain⟨z,y,xs,r,o,es,ep,h1,h2,h3,h4,h5⟩:=(show ObjOk P w H h a (.dT kvs) from rd_of ok e);refine⟨z,y,xs,r,o,es,ep,h1,h2,h3,h4,fun x hx=>?_,h5⟩;have all:∀{l:List (List Key×V)}{m:List (List Key×Addr×Value)},KT H l m->∀x∈m,(tupleKind (zc7 P w)).is h x.1 x.2.1:=by
  intro l m q
  induction q with
  | nil=>intro x hx;exact nomatch hx
  | @cons p q ps qs hq t ih=>
   intro x hx;rcases ws5.mp hx with e | hx
   ·subst e;exact yf3 ok (by rw[←hq.1];exact hq.2.1)
   ·exact ih x hx
 exact all r x hx
theorem wg7{kvs:List (List Key×V)}(ok:HOk P w H h)(e:H a=some (.dT kvs)):kvs.length<=sizeLine/\(a == sysModules)=false/\
  ∃xs,KT H kvs xs/\h.DictOfH (tupleKind (zc7 P w)) a xs:=xb8 ok (.inl e)
end
def DGet(H:Hp)(a:Addr)(y:V)(r:Option V):Prop:=
 (∃kvs k,Rd H a (.dK kvs)/\y=kV k/\r=valV kvs k)∨∃kvs k b,Rd H a (.dT kvs)/\y=.ref b/\H b=some (.tup (k.map kV))/\r=valV kvs k
def DPut(H:Hp)(a:Addr)(y v:V)(H':Hp):Prop:=
 (∃kvs k,H a=some (.dK kvs)/\y=kV k/\kvs.length<sizeLine/\H'=upd H a (.dK (putK kvs k v)))∨
 ∃kvs k b,H a=some (.dT kvs)/\y=.ref b/\H b=some (.tup (k.map kV))/\kvs.length<sizeLine/\H'=upd H a (.dT (putK kvs k v))
theorem DGet.k{H:Hp}{a:Addr}{kvs:List (Key×V)}{k:Key}(e:H a=some (.dK kvs)):DGet H a (kV k) (valV kvs k):=.inl ⟨kvs,k,.inl e,rfl,rfl⟩
theorem DPut.k{H:Hp}{a:Addr}{kvs:List (Key×V)}{k:Key}{v:V}(e:H a=some (.dK kvs))(hl:kvs.length<sizeLine):DPut H a (kV k) v (upd H a (.dK (putK kvs k v))):=.inl ⟨kvs,k,e,rfl,hl,rfl⟩
theorem DPut.t{H:Hp}{a b:Addr}{kvs:List (List Key×V)}{k:List Key}{v:V}(e:H a=some (.dT kvs))(eb:H b=some (.tup (k.map kV)))(hl:kvs.length<sizeLine):
  DPut H a (.ref b) v (upd H a (.dT (putK kvs k v))):=.inr ⟨kvs,k,b,e,rfl,eb,hl,rfl⟩
section
variable{pins:List (Addr×Obj)}{σ:St}{H:Hp}{s:Shared}{a:Addr}{y v:V}{u r:Value}{o:Option V}{A:Around}{E:Value->Shared->Prop}
theorem Inv.big(I:Inv X pins σ H s):sysModules<s.heap.objs.size:=by
 have h:mainGlobals<s.heap.objs.size:=(I.mod.glob.keeps I.bk).lt;exact wz2 (by decide) h
theorem xf6{Q:Value->Shared->Prop}(hu:A.units+1<cLine)(I:Inv X pins σ H s)(g:DGet H a y (some v))(ry:RelV y u)(h:∀w' s',Inv X pins σ H s'->RelV v w'->Q w' s'):
  wpAny (model X.prog X.w) A (getItem (.ref a) u) Q E s:=by
 rcases g with ⟨kvs,k,e,ey,l⟩ | ⟨kvs,k,b,e,ey,eb,l⟩
 ·subst ey;obtain⟨z,hd,vs,rel,dd⟩:=yd6 I.hok e;obtain⟨w',hw,rw'⟩:=RelO.some_of (v:=v) (o:=valueAt vs k) (by rw[l];exact rel.val k);exact wpAny_getItem_of (yg6 ry) dd.mapOf hw (h w' _ (I.tok _) rw')
 ·subst ey;cases (show u=Value.ref b from ry);obtain⟨z,hd,xs,rel,dd⟩:=xb8 I.hok e;obtain⟨w',hw,rw'⟩:=RelO.some_of (v:=v) (o:=(atKey xs k).map (·.2)) (by rw[l];exact rel.val k);obtain⟨p,hp,hp2⟩:=wr6.mp hw;refine wpAny_getItem_heap (vh4 hu) (yf3 I.hok eb) dd hp ?_;rw[hp2];exact h w' _ (I.tok _) rw'
theorem zn9{h':Heap}{t':Nat}{ob:HO}(I:Inv X pins σ H s)(mu:Mut (H a))(hs:Heap.SameBut a s.heap h')(he:∃q,h'.get? a=some q)(new:ObjOk X.prog X.w (upd H a ob) h' a ob):
  Inv X pins σ (upd H a ob) {s with heap:=h',toks:=t'}:=
 I.write (x:=a) (e:=a) mu (.inl rfl) (fun b q hb z=>(hs.2 b hb).trans z) he new
theorem ym6{P:Program}{w:World}{H':Hp}{h':Heap}{kvs:List (Key×V)}{vs:List (Key×Value)}(z:kvs.length<=sizeLine)(hd:(a == sysModules)=false)(rel:KV kvs vs)(dd:h'.DictOf (zc7 P w) a vs):
  ObjOk P w H' h' a (.dK kvs):=⟨z,hd,vs,rel,dd⟩
theorem xq5{H':Hp}{Q:Unit->Shared->Prop}(hu:A.units+1<cLine)(I:Inv X pins σ H s)(g:DPut H a y v H')(ry:RelV y u)(rv:RelV v r)(h:∀s',Inv X pins σ H' s'->Q () s'):
  wpAny (model X.prog X.w) A (setItem (.ref a) u r) Q E s:=by
 rcases g with ⟨kvs,k,e,ey,l,eH⟩ | ⟨kvs,k,b,e,ey,eb,l,eH⟩
 ·subst ey eH;obtain⟨z,hd,vs,rel,dd⟩:=yj3 I.hok e;have hz:vs.length<=sizeLine:=by rw[←rel.length];exact z
  have hl:(putK kvs k v).length<=sizeLine:=by have:=zg7 kvs k v;lia
  refine wpAny_setItem_pairs (hsz:=hz) (yg6 ry) dd fun h' dd' hs=>h _ ?_;have he:∃q,h'.get? a=some q:=let ⟨q,_,_,hq,_⟩:=dd';⟨q,hq⟩
  exact zn9 I (by rw[e];exact vj4) hs he (ym6 hl hd (rel.put k rv) dd')
 ·subst ey eH;cases (show u=Value.ref b from ry);obtain⟨z,hd,xs,rel,dd⟩:=wg7 I.hok e;have hz:xs.length<=sizeLine:=by rw[←vr1 rel];exact z
  have hl:(putK kvs k v).length<=sizeLine:=by have:=zg7 kvs k v;lia
  refine wpAny_setItem_heap (hsz:=hz) (vh4 hu) (yf3 I.hok eb) dd fun h' dd' hs=>h _ ?_;obtain⟨q,es,ep,hq,h2,h3,h4,_,h5⟩:=dd';refine zn9 I (by rw[e];exact vj4) hs ⟨q,hq⟩ ⟨hl,hd,_,(rel.put k eb rv).keeps fun c ys ec=>?_,q,es,ep,hq,h2,h3,h4,h5⟩;rw[zb5 (wn9 ec e (fun z=>nomatch z))];exact ec
end
section
variable{pins:List (Addr×Obj)}{σ:St}{H:Hp}{s:Shared}{a:Addr}{kvs:List (Key×V)}{k:Key}{u:Value}{A:Around}{E:Value->Shared->Prop}
theorem d_len{Q:Value->Shared->Prop}(I:Inv X pins σ H s)(e:Rd H a (.dK kvs))(h:∀t s',Inv X pins σ H s'->Q (.int kvs.length t) s'):wpAny (model X.prog X.w) A (call (.builtin "len") [.ref a]) Q E s:=by
 obtain⟨z,hd,vs,rel,dd⟩:=yd6 I.hok e;refine call_len_dict hd dd (by rw[←rel.length];rw[vj9]at z;lia) ?_;rw[←rel.length];exact h _ _ (I.tok _)
end
def NoSl(i:Expr):Prop:=∀ov iv,subscripted i false ov iv=operate [ov,iv] (getItem ov iv)
theorem wh8{prog:Program}{w:World}{A:Around}{E:Value->Shared->Prop}{s:Shared}{env:Env}{value slice:Expr}{pos:Pos}{T id:String}{Q:Value->Shared->Prop}
  (hl:typeLookup (.type T) "__getitem__"=pure (some (.builtin id))) (hs:NoSl slice)
  (h:wpAny (model prog w) A (eval value env) (fun o s₁=>wpAny (model prog w) A (eval slice env) (fun i s₂=>s₂.TypeIs o T/\wpAny (model prog w) A (getItem o i) Q E s₂) E s₁) E s):
  wpAny (model prog w) A (eval (.Subscript value slice pos) env) Q E s:=by
 refine Subscript_ (wz4 h (fun o s₁ h₁=>wz4 h₁ (fun i s₂ h₂=>?_) fun _ _ x=>x) fun _ _ x=>x);obtain⟨hT,h₂⟩:=h₂;unfold subscriptTail;refine wq8 ?_;rw[getitemInPython_of_ne hT.not_modules];refine wq8 (vf1 hT hl ?_);have fin:wpAny (model prog w) A (subscripted slice false o i) (fun r s₃=>wpAny (model prog w) A (letTemporaryGo value o r >>= fun _=>pure r) Q E s₃) E s₂:=by
  rw[hs o i];exact wpAny_operating (wz4 h₂ (fun r s₃ h₃=>wq8 (wpAny_letTemporaryGo (wr7 h₃))) fun _ _ x=>x)
 first
  | exact wr7 (wq8 fin)
  | exact wq8 (wr7 (wq8 fin))
  | exact wq8 fin
theorem ys2{X:Cx}{pins:List (Addr×Obj)}{σ:St}{H:Hp}{s:Shared}{a:Addr}{y:V}{o:Option V}(I:Inv X pins σ H s)(g:DGet H a y o):s.TypeIs (.ref a) "dict":=by
 rcases g with ⟨kvs,k,e,_,_⟩ | ⟨kvs,k,b,e,_,_,_⟩
 ·obtain⟨_,_,vs,_,dd⟩:=yd6 I.hok e;exact dd.typeIs
 ·obtain⟨_,_,xs,_,dd⟩:=xb8 I.hok e;exact dd.typeIs
def yt6(td ty:TE):TE:=fun σ H Q=>td σ H fun x H1=>ty σ H1 fun y H2=>∃a v,x=.ref a/\DGet H2 a y (some v)/\Q v H2
def sDPut(td ty tv:TE):TS:=fun D σ H=>tv σ H fun v H1=>td σ H1 fun x H2=>ty σ H2 fun y H3=>∃a H4,x=.ref a/\DPut H3 a y v H4/\D.nx σ H4
section
variable{o i e value:Expr}{pos pos' tpos:Pos}{td ty tv:TE}
theorem zc9(hu:X.A.units+1<cLine)(ho:PE X o td)(hi:PE X i ty)(hs:NoSl i):PE X (.Subscript o i pos) (yt6 td ty):=by
 intro pins s σ H Q I h;refine wh8 PySem.F.slot_dict_getitem.lookup hs (thn (ho pins s σ H _ I h) fun u s1 ⟨x,H1,I1,rx,q1⟩=>thn (hi pins s1 σ H1 _ I1 q1) fun iv s2 ⟨y,H2,I2,ry,a,v,ex,g,q2⟩=>?_);subst ex;obtain rfl:u=Value.ref a:=rx;exact⟨ys2 I2 g,xf6 hu I2 g ry fun w' s3 I3 rw'=>⟨v,H2,I3,rw',q2⟩⟩
theorem zn8(hu:X.A.units+1<cLine)(ho:PE X o td)(hi:PE X i ty)(hv:PE X value tv)(hs:swapsWith value (some (.Subscript o i pos')) pos.line X.env=pure false):
  PS X (.Assign [.Subscript o i pos'] value pos) (sDPut td ty tv):=by
 intro pins s σ H D I h;refine wpAny_Assign_Subscript (thn (hv pins s σ H _ I h) fun r s1 ⟨v,H1,I1,rv,q1⟩=>thn (ho pins s1 σ H1 _ I1 q1) fun u s2 ⟨x,H2,I2,rx,q2⟩=>thn (hi pins s2 σ H2 _ I2 q2) fun iv s3 ⟨y,H3,I3,ry,a,H4,ex,g,q3⟩=>?_) hs;subst ex;obtain rfl:u=Value.ref a:=rx;exact xq5 hu I3 g ry rv fun s4 I4=>⟨σ,H4,I4,q3⟩
end
theorem yg7{P:Program}{w:World}{H:Hp}(h:Heap)(hb:sysModules<h.objs.size):ObjOk P w H (h.push {cls:=.type "dict",data:=.dict #[]}) h.objs.size (.dK []):=
 ⟨wt6 _,vn9.mpr (vb3 (ws6 hb)),[],.nil,Heap.DictOf.new h⟩
theorem yx3{P:Program}{w:World}{H:Hp}(h:Heap)(hb:sysModules<h.objs.size):ObjOk P w H (h.push {cls:=.type "dict",data:=.dict #[]}) h.objs.size (.dT []):=
 ⟨wt6 _,vn9.mpr (vb3 (ws6 hb)),[],.nil,_,#[],0,wt0 _ rfl,⟨rfl,rfl,rfl⟩,rfl,rfl,vd8⟩
def wd3:TE:=fun _ H Q=>∀p,H p=none->Q (.ref p) (upd H p (.dK []))
def tDNewT:TE:=fun _ H Q=>∀p,H p=none->Q (.ref p) (upd H p (.dT []))
section
variable{pos:Pos}
theorem zp9:PE X (.Dict [] [] pos) wd3:=fun pins s σ H Q I h=>
 wpAny_Dict_empty ⟨.ref s.heap.objs.size,_,I.laid (a:=s.heap.objs.size) (o:=.dK []) (t':=s.toks) (fun _ _ q=>wr4 _ q) (wr5 _) (yg7 s.heap I.big),rfl,h _ (I.hok.fresh (wr5 _))⟩
theorem xw0:PE X (.Dict [] [] pos) tDNewT:=fun pins s σ H Q I h=>
 wpAny_Dict_empty ⟨.ref s.heap.objs.size,_,I.laid (a:=s.heap.objs.size) (o:=.dT []) (t':=s.toks) (fun _ _ q=>wr4 _ q) (wr5 _) (yx3 s.heap I.big),rfl,h _ (I.hok.fresh (wr5 _))⟩
end
def xk6:List (TE×TE)->St->Hp->(List (V×V)->Hp->Prop)->Prop
 | [],_,H,Q=>Q [] H
 | (tk,tv)::r,σ,H,Q=>tk σ H fun x H1=>tv σ H1 fun y H2=>xk6 r σ H2 fun ps H3=>Q ((x,y)::ps) H3
abbrev VV:List (V×V)->List (Value×Value)->Prop:=Paired fun p q=>RelV p.1 q.1/\RelV p.2 q.2
def PPs(X:Cx)(pos:Pos)(keys:List (Option Expr))(values:List Expr)(trs:List (TE×TE)):Prop:=
 ∀(pins:List (Addr×Obj))(s:Shared)(σ:St)(H:Hp)(Q:List (V×V)->Hp->Prop),Inv X pins σ H s->xk6 trs σ H Q->
  wpAny (model X.prog X.w) X.A (evalPairs (pairTrees keys values X.env pos)) (fun vs s'=>∃ps H',Inv X pins σ H' s'/\VV ps vs/\Q ps H') X.xe s
theorem xf7{X:Cx}{pos:Pos}:PPs X pos [] [] []:=fun pins s σ H Q I h=>pairTrees_nil_walk ⟨[],H,I,.nil,h⟩
theorem yw6{X:Cx}{pos:Pos}{k v:Expr}{ks:List (Option Expr)}{vs:List Expr}{tk tv:TE}{trs:List (TE×TE)}(hk:PE X k tk)(hv:PE X v tv)(hr:PPs X pos ks vs trs):
  PPs X pos (some k::ks) (v::vs) ((tk,tv)::trs):=fun pins s σ H Q I h=>
 pairTrees_cons_walk (thn (hk pins s σ H _ I h) fun u s1 ⟨x,H1,I1,rx,q1⟩=>thn (hv pins s1 σ H1 _ I1 q1) fun w2 s2 ⟨y,H2,I2,ry,q2⟩=>
  thn (hr pins s2 σ H2 _ I2 q2) fun ws s3 ⟨ps,H3,I3,rel,q3⟩=>⟨(x,y)::ps,H3,I3,.cons ⟨rx,ry⟩ rel,q3⟩)
def zf6(kvs more:List (Key×V)):List (Key×V):=more.foldl (fun acc kv=>putK acc kv.1 kv.2) kvs
theorem KV.merge:∀{more:List (Key×V)}{rs:List (Key×Value)}{kvs:List (Key×V)}{vs:List (Key×Value)},KV more rs->KV kvs vs->KV (zf6 kvs more) (merged vs rs):=by
 intro more rs kvs vs r;unfold KV at r
 induction r generalizing kvs vs with
 | nil=>intro q;exact q
 | @cons p q ps qs h t ih=>
  intro r0;have e:KV (putK kvs p.1 p.2) (stored vs q.1 q.2):=by
   have:=r0.put p.1 h.2;rw[←h.1];exact this
  exact ih e
theorem zh7:∀(more kvs:List (Key×V)),(zf6 kvs more).length<=kvs.length+more.length
 | [],kvs=>by show kvs.length<=kvs.length+0;lia
 | p::r,kvs=>by
  have h1:=zh7 r (putK kvs p.1 p.2);have h2:=zg7 kvs p.1 p.2;show(zf6 (putK kvs p.1 p.2) r).length<=_;rw[wt3];lia
theorem yd8{P:Program}{w:World}:∀{kvs:List (Key×V)}{ws:List (Value×Value)},VV (kvs.map fun kv=>(kV kv.1,kv.2)) ws->∃rs,Carries (zc7 P w) ws rs/\KV kvs rs
 | [],_,r=>by rw[List.map_nil]at r;cases r;exact⟨[],vj4,.nil⟩
 | p::kvs,_,r=>by
  rw[ww3]at r;cases r with
  | @cons a b as bs h t=>
   obtain⟨rs,c,q⟩:=yd8 (P:=P) (w:=w) t;obtain⟨b1,b2⟩:=b;exact⟨(p.1,b2)::rs,⟨yg6 h.1,rfl,c⟩,.cons ⟨rfl,h.2⟩ q⟩
def tDisp(trs:List (TE×TE)):TE:=fun σ H Q=>∀p,H p=none->xk6 trs σ (upd H p (.dK [])) fun ps H2=>H2 p=some (.dK [])/\∃kvs:List (Key×V),ps=kvs.map (fun kv=>(kV kv.1,kv.2))/\kvs.length<=15/\Q (.ref p) (upd H2 p (.dK (zf6 [] kvs)))
theorem wg9{X:Cx}{pos:Pos}{keys:List (Option Expr)}{values:List Expr}{trs:List (TE×TE)}(h:PPs X pos keys values trs)(hall:keys.all (·.isSome)=true)(hl:keys.length=values.length)(h0:keys≠[])
  (h15:keys.length<=15):PE X (.Dict keys values pos) (tDisp trs):=by
 intro pins s σ H Q I q;have hn:=I.hok.fresh (wr5 s.heap.objs.size);have I1:=I.laid (a:=s.heap.objs.size) (o:=.dK []) (h':=s.heap.push {cls:=.type "dict",data:=.dict #[]}) (t':=s.toks) (fun _ _ q=>wr4 _ q) (wr5 _) (yg7 s.heap I.big);refine wpAny_Dict_walk (knd:=zc7 X.prog X.w) hall hl h0 h15 (thn (h pins _ σ _ _ I1 (q _ hn)) fun ws s2 ⟨ps,H2,I2,rel,e,kvs,ep,lk,q2⟩=>?_);subst ep;obtain⟨rs,c,rk⟩:=yd8 (P:=X.prog) (w:=X.w) rel;obtain⟨z,hd,vs0,r0,dd⟩:=yj3 I2.hok e;cases r0;refine⟨rs,c,dd,fun h' dd' hs=>⟨.ref s.heap.objs.size,_,?_,rfl,q2⟩⟩;have hz:(zf6 [] kvs).length<=sizeLine:=by
  have h1:=zh7 kvs [];rw[vb9]at h1;rw[vj9];lia
 have he:∃q,h'.get? s.heap.objs.size=some q:=let ⟨q,_,_,hq,_⟩:=dd';⟨q,hq⟩
 exact zn9 I2 (by rw[e];exact vj4) hs he (ym6 hz hd (rk.merge .nil) dd')
structure M1(X:Cx)(o:Expr)(m:Str)(apos:Pos)(e:Expr)(cpos:Pos):Prop where
 base:attributeBase o m X.env (eval o X.env)=eval o X.env
 few:((backTo cpos (starEach [e] X.env)).all (fun x=>!x.1) && (backToKw cpos (keywordEach [] X.env)).all (fun x=>x.1.isSome)
  && decide (([e]:List Expr).length+([]:List Keyword).length+(if ([]:List Keyword).isEmpty then 0 else 1)<30))=true
 line:(apos.endLine == cpos.line)=true
 trees:backTo cpos (starEach [e] X.env)=[(false,eval e X.env)]
structure M2(X:Cx)(o:Expr)(m:Str)(apos:Pos)(e f:Expr)(cpos:Pos):Prop where
 base:attributeBase o m X.env (eval o X.env)=eval o X.env
 few:((backTo cpos (starEach [e,f] X.env)).all (fun x=>!x.1) && (backToKw cpos (keywordEach [] X.env)).all (fun x=>x.1.isSome)
  && decide (([e,f]:List Expr).length+([]:List Keyword).length+(if ([]:List Keyword).isEmpty then 0 else 1)<30))=true
 line:(apos.endLine == cpos.line)=true
 trees:backTo cpos (starEach [e,f] X.env)=[(false,eval e X.env),(false,eval f X.env)]
def IsD(H:Hp)(a:Addr):Prop:=(∃kvs,Rd H a (.dK kvs))∨∃kvs,Rd H a (.dT kvs)
theorem yf0{X:Cx}{pins:List (Addr×Obj)}{σ:St}{H:Hp}{s:Shared}{a:Addr}(I:Inv X pins σ H s)(d:IsD H a):
  s.TypeIs (.ref a) "dict"/\(∀b,Value.ref a=.ref b->∃ob,s.heap.get? b=some ob/\ob.dict=none)/\(a == sysModules)=false:=by
 rcases d with ⟨kvs,e⟩ | ⟨kvs,e⟩
 ·obtain⟨_,hd,vs,_,dd⟩:=yd6 I.hok e;refine⟨dd.typeIs,fun b q=>?_,hd⟩;cases q;obtain⟨ob,_,_,h1,h2,_⟩:=dd;exact⟨ob,h1,h2.2.1⟩
 ·obtain⟨_,hd,xs,_,dd⟩:=xb8 I.hok e;refine⟨dd.typeIs,fun b q=>?_,hd⟩;cases q;obtain⟨ob,_,_,h1,h2,_⟩:=dd;exact⟨ob,h1,h2.2.1⟩
section
variable{pins:List (Addr×Obj)}{σ:St}{H:Hp}{s:Shared}{a:Addr}{y d:V}{u r:Value}{o:Option V}{A:Around}{E:Value->Shared->Prop}
theorem wc2{Q:Value->Shared->Prop}(hu:A.units+1<cLine)(I:Inv X pins σ H s)(g:DGet H a y o)(ry:RelV y u)(h:∀w' s',Inv X pins σ H s'->RelV (o.getD .non) w'->Q w' s'):
  wpAny (model X.prog X.w) A (call (.builtin "dict.get") [.ref a,u]) Q E s:=by
 rcases g with ⟨kvs,k,e,ey,l⟩ | ⟨kvs,k,b,e,ey,eb,l⟩
 ·subst ey;obtain⟨z,hd,vs,rel,dd⟩:=yd6 I.hok e;refine vj6 wz0 dd.typeIs vd4 (vp9 _ _) (meets_dict_get (zc7 X.prog X.w) a (yg6 ry) hd) ⟨_,dd.mapOf,h _ _ (I.tok _) ?_⟩;rw[l];exact(rel.val k).getD rfl
 ·subst ey;cases (show u=Value.ref b from ry);obtain⟨z,hd,xs,rel,dd⟩:=xb8 I.hok e;refine vj6 wz0 dd.typeIs vd4 (vp9 _ _) (meetsH_dict_get (tupleKind (zc7 X.prog X.w)) a b hd) ⟨vh4 hu,k,xs,yf3 I.hok eb,dd,h _ _ (I.tok _) ?_⟩;rw[l];exact(rel.val k).getD rfl
theorem wb4{Q:Value->Shared->Prop}(hu:A.units+1<cLine)(I:Inv X pins σ H s)(g:DGet H a y o)(ry:RelV y u)(rd:RelV d r)(h:∀w' s',Inv X pins σ H s'->RelV (o.getD d) w'->Q w' s'):
  wpAny (model X.prog X.w) A (call (.builtin "dict.get") [.ref a,u,r]) Q E s:=by
 rcases g with ⟨kvs,k,e,ey,l⟩ | ⟨kvs,k,b,e,ey,eb,l⟩
 ·subst ey;obtain⟨z,hd,vs,rel,dd⟩:=yd6 I.hok e;refine vj6 wz0 dd.typeIs vd4 (vq0 _ _ _) (meets_dict_get_default (zc7 X.prog X.w) a (yg6 ry) hd r) ⟨_,dd.mapOf,h _ _ (I.tok _) ?_⟩;rw[l];exact(rel.val k).getD rd
 ·subst ey;cases (show u=Value.ref b from ry);obtain⟨z,hd,xs,rel,dd⟩:=xb8 I.hok e;refine vj6 wz0 dd.typeIs vd4 (vq0 _ _ _) (meetsH_dict_get_default (tupleKind (zc7 X.prog X.w)) a b hd r) ⟨vh4 hu,k,xs,yf3 I.hok eb,dd,h _ _ (I.tok _) ?_⟩;rw[l];exact(rel.val k).getD rd
end
def tDGet1(td ty:TE):TE:=fun σ H Q=>td σ H fun x H1=>∃a,x=.ref a/\IsD H1 a/\ty σ H1 fun y H2=>∃o,DGet H2 a y o/\Q (o.getD .non) H2
def wc4(td ty tx:TE):TE:=fun σ H Q=>td σ H fun x H1=>∃a,x=.ref a/\IsD H1 a/\ty σ H1 fun y H2=>tx σ H2 fun z H3=>∃o,DGet H3 a y o/\Q (o.getD z) H3
section
variable{o e f:Expr}{apos cpos:Pos}{td ty tx:TE}
theorem zr8(hu:X.A.units+1<cLine)(ho:PE X o td)(he:PE X e ty)(m:M1 X o "get" apos e cpos):PE X (.Call (.Attribute o "get" apos) [e] [] cpos) (tDGet1 td ty):=by
 intro pins s σ H Q I h;refine vg3 m.base m.few m.line wz9 wz0 vm1 (thn (ho pins s σ H _ I h) fun u s1 ⟨x,H1,I1,rx,a,ex,d,q1⟩=>?_);subst ex;obtain rfl:u=Value.ref a:=rx;obtain⟨t1,t2,_⟩:=yf0 I1 d;refine⟨t1,t2,?_⟩;rw[m.trees];refine vb5 rfl (vd1 (wz6 (thn (he pins s1 σ H1 _ I1 q1) fun iv s2 ⟨y,H2,I2,ry,ov,g,q2⟩=>vd5 ?_)));exact wc2 hu I2 g ry fun w' s3 I3 rw'=>⟨_,H2,I3,rw',q2⟩
theorem xt4(hu:X.A.units+1<cLine)(ho:PE X o td)(he:PE X e ty)(hf:PE X f tx)(m:M2 X o "get" apos e f cpos):PE X (.Call (.Attribute o "get" apos) [e,f] [] cpos) (wc4 td ty tx):=by
 intro pins s σ H Q I h;refine vg3 m.base m.few m.line wz9 wz0 vm1 (thn (ho pins s σ H _ I h) fun u s1 ⟨x,H1,I1,rx,a,ex,d,q1⟩=>?_);subst ex;obtain rfl:u=Value.ref a:=rx;obtain⟨t1,t2,_⟩:=yf0 I1 d;refine⟨t1,t2,?_⟩;rw[m.trees];refine vb5 rfl (vd1 (wz6 (thn (he pins s1 σ H1 _ I1 q1) fun iv s2 ⟨y,H2,I2,ry,q2⟩=>
  wz6 (thn (hf pins s2 σ H2 _ I2 q2) fun fv s3 ⟨z,H3,I3,rz,ov,g,q3⟩=>vd5 ?_))))
 exact wb4 hu I3 g ry rz fun w' s4 I4 rw'=>⟨_,H3,I4,rw',q3⟩
end
section
variable{pins:List (Addr×Obj)}{σ:St}{H:Hp}{s:Shared}{a:Addr}{kvs:List (Key×V)}{A:Around}{E:Value->Shared->Prop}
end
section
variable{pins:List (Addr×Obj)}{σ:St}{H:Hp}{s:Shared}{a:Addr}{y:V}{u:Value}{A:Around}{E:Value->Shared->Prop}
end
end L2
namespace Att
open PySem PySem.W PySem.Calls PyProof.Rows
theorem yc5{P:Params}{h:Heap}:∀(ns:List Int)(vs:List Value),WellAll P h vs (ns.map WData.int)->IntsAre vs ns:=by
 intro ns
 induction ns with
 | nil=>
  intro vs w;rw[List.map_nil]at w;cases w;exact .nil
 | cons n ns ih=>
  intro vs w;rw[ww3]at w;cases w with
  | cons a b=>
   cases a;exact .cons _ _ (ih _ b)
theorem xf0{l:OpenLaw}{n:Nat}(hn:l.most=some n){P:Params}{h:Heap}{args:List WData}{vals:List Value}
  (hpre:l.row.toRowW.claim.pre args=true) (hwl:WellAll P h vals args):
  ∃a vs ns,vals=[Value.ref a]/\args=[WData.list (ns.map WData.int)]/\h.get? a=some {cls:=.type "list",data:=.seq vs.toArray}/\IntsAre vs ns/\ns.length<=n:=by
 have hsh:WShape.hasAll [] args [.list .int]=true:=(pre_splitW hpre).1;have hc:l.pre.holds [] {args:=args}=true:=(pre_splitW hpre).2;obtain⟨d,r,rfl,h1,h2⟩:=hasAllW_cons hsh;obtain rfl:=hasAllW_nil h2;obtain⟨xs,rfl,h3⟩:=hasW_list h1;obtain⟨ns,rfl⟩:=items_int h3;have hlen:ns.length<=n:=by
  unfold OpenLaw.pre at hc;have h4:(WTm.not (.lt (.lit (.int (n:Int))) (.len (.arg 0)))).holds [] {args:=[.list (ns.map .int)]}=true:=by
   have h4:=(holds_andW hc).1;rw[hn]at h4;exact h4
  have h5:=condW_of h4 (w_not (w_lt w_lit (w_len_list (w_arg rfl))));rw[lqm]at h5;refine Nat.le_of_not_lt fun q=>?_;have q':(n:Int)<((ns.length:Nat):Int):=by lia
  first
   | (rw[wt8 q']at h5;exact absurd h5 (by decide))
   | (simp at h5;lia)
 cases hwl with
 | cons w1 w2=>
  cases w2;cases w1 with
  | list ho hall=>exact⟨_,_,ns,rfl,rfl,ho,yc5 ns _ hall,hlen⟩
theorem xm3(l:OpenLaw)(args:List WData):l.row.toRowW.claim.post args (.bool true) args=true:=
 postW_of (r:=l.row.toRowW) (X:=(true == true))
  (show WShape.has [] (.bool true) .bool=true by first | rfl | decide | simp[WShape.has,WShape.arms,WShape.armsAll])
  (show(WTm.eq .res (.lit (.bool true))).value [] {args:=args,res:=some (.bool true),after:=args}=some (.bool (true == true)) from w_eq_bool (w_res rfl) w_lit) rfl
theorem attach_call{l:OpenLaw}{n:Nat}{q:Program}{loose:List Str}{XP:(Str->Option Value)->Heap->Prop}{YP:World->Heap->Prop}{d:DefRec}
  (hn:l.most=some n) (hdf:d.params.defaults=[])
  (call:∀(w:World)(s₀ s₁:Shared)(mg mb:Str->Option Value)(fa:Addr)(o:Obj)(pm cd doc:Value)(a:Addr)(vs:List Value)(ns:List Int),
   Ground q loose [] XP w s₀ mg mb s₁.heap->YP w s₁.heap->
   s₁.heap.get? fa=some o->o.data=.func (docDef d.name d.params d.body d.scope pm cd doc)->s₁.heap.CodeRec cd d.name->mg d.name=some (.ref fa)->
   s₁.heap.get? a=some {cls:=.type "list",data:=.seq vs.toArray}->IntsAre vs ns->ns.length<=n->s₁.gens=#[]->
   codeAny (model l.prog w) callerA (.call (.ref fa) ⟨[.ref a],[]⟩) (fun r s'=>r=.ok (.ret (.bool true))/\OldK s₁.heap s'.heap/\s'.os=s₁.os/\AllBare s'.gens) s₁):
  WalkO q loose XP YP l.row.toRowW d [] (fun f vs=>PySem.call f vs):=by
 intro w s₀ s₁ mg mb G Y fa o pm cd doc dV kV ho hd hcd hD hmg hg args vals as hpre hlay hrd hwl hlo;obtain rfl:dV=.none:=Dflts.none hD hdf;obtain rfl:kV=.none:=Dflts.noKw hD;obtain⟨a,vs,ns,rfl,rfl,hobj,hints,hlen⟩:=xf0 hn hpre hwl;refine enter_call (codeAny_mono (call w s₀ s₁ mg mb fa o pm cd doc a vs ns G Y ho (fd_plain hd) hcd hmg hobj hints hlen hg) fun r s' hq=>?_);obtain⟨rfl,h2,h3,h4⟩:=hq;exact⟨.inl ⟨.bool true,.bool true,[],rfl,fun _=>rfl,.bool true,xm3 l _,fun _=>⟨List.Pairwise.nil,fun _ hm=>(nomatch hm)⟩⟩,h2,h3,h4⟩
section
variable{prog:Program}{w:World}{A:Around}{E:Value->Shared->Prop}{s:Shared}{K:Frag}
end
end Att
namespace L2
open PySem PySem.Spec PyProof.Rows
variable{prog:Program}{w:World}{A:Around}{E:Value->Shared->Prop}{s:Shared}
variable{X:Cx}
theorem yp4:∀{vs:List Value}{ns:List Int},IntsAre vs ns->Vals (ns.map V.int) vs
 | _,_,.nil=>.nil
 | _,_,.cons n t h=>.cons ⟨t,rfl⟩ (yp4 h)
def Only(H:Hp):Prop:=∀b,H b=none∨∃o xs,H b=some (.frz o (.lst xs))
theorem xx3{P:Program}{w:World}{K:PySem.W.Frag}{mg mb:Str->Option Value}{CX:CXT}{k:Nat}{fa a:Addr}{fd:FuncData}{x:Str}{sp:Sp}{s₁:Shared}{vs:List Value}{ns:List Int}
  (KX:K.In s₁.heap) (hns:s₁.heap.Ns mainGlobals mg) (hb:s₁.heap.Ns builtinsNs mb) (hbb:∀x:Str,x≠"__name__"->mb x=bootBuiltins x) (hlim:s₁.heap.NoLimit) (hg:s₁.gens=#[])
  (ha:s₁.heap.get? a=some {cls:=.type "list",data:=.seq vs.toArray}) (hi:IntsAre vs ns) (hl:ns.length<=sizeLine) (hr:Room k callerA)
  (F:∀base:Heap,K.In base->base.Ns mainGlobals mg->FnOk P w K mg base CX k fa fd [x] sp) (hbind:∀(s:Shared)(u:Value),BindsTo s fd ⟨[u],[]⟩ [(x,u)])
  (hsp:∀H:Hp,Only H->SqL K H a (ns.map V.int)->sp [.ref a] H (fun v _=>v=.bl true) fun _ _ _=>False)
  (hCX:∀H e s',CX [] H s₁ (fun _ _ _=>False) e s'->False):
  codeAny (model P w) callerA (.call (.ref fa) ⟨[.ref a],[]⟩) (fun r s'=>r=.ok (.ret (.bool true))/\OldK s₁.heap s'.heap/\s'.os=s₁.os/\AllBare s'.gens) s₁:=by
 have rv:=yp4 hi;have lenV:=hi.length;have core:∀H:Hp,Only H->SqL K H a (ns.map V.int)->HOk P w H s₁.heap->(∀b,H b≠none->b=a)->(H a≠none->K.lookup a=none)->
   codeAny (model P w) callerA (.call (.ref fa) ⟨[.ref a],[]⟩) (fun r s'=>r=.ok (.ret (.bool true))/\OldK s₁.heap s'.heap/\s'.os=s₁.os/\AllBare s'.gens) s₁:=by
  intro H hO hS hok hA hK;have base_of:∀{b:Addr}{o:Obj},s₁.heap.get? b=some o->H b=none->(hidT s₁.heap H).get? b=some o:=fun e n=>xt0 e n;have noA:∀{b:Addr}{o:Obj}{es:Array DictEntry}{ep:Nat},s₁.heap.get? b=some o->o.data=.dict es ep->H b=none:=fun {b o es ep} e d=>by
   cases q:H b with
   | none=>rfl
   | some u=>
    have e':b=a:=hA b (by rw[q];simp);subst e';rw[ha]at e;cases e;have d':Data.seq vs.toArray _=Data.dict es ep:=d;cases d'
  have nsK:∀{b:Addr}{m:Str->Option Value},s₁.heap.Ns b m->(hidT s₁.heap H).Ns b m:=fun {b m} ⟨o,es,ep,e,d,r⟩=>⟨o,es,ep,base_of e (noA e d),d,r⟩;have hKb:K.In (hidT s₁.heap H):=fun b o e=>base_of (KX b o e) (by
   cases q:H b with
   | none=>rfl
   | some u=>
    have e':b=a:=hA b (by rw[q];simp);subst e';rw[hK (by rw[q];simp)]at e;cases e)
  have hM:Mod K mg (hidT s₁.heap H):=⟨hKb,nsK hns,⟨mb,nsK hb,hbb⟩,let ⟨mc,h1,h2⟩:=hlim;⟨mc,nsK h1,h2⟩⟩;have e0:Env0 P w K mg (hidT s₁.heap H) callerA [] s₁ H:=⟨rfl,hM,fun b o e=>wf8 e,Nat.le_of_eq (xf4 _ _),trivial,fun b hb=>absurd (show b∈([]:List Addr) from hb) (by simp),hok,.of_eq hg⟩;refine codeAny_mono ((F _ hKb (nsK hns)).run callerA [] s₁ H ⟨[.ref a],[]⟩ [.ref a] [.ref a] _ _ hr e0 (hbind s₁ (.ref a)) (.cons rfl .nil) (hsp H hO hS)) fun r s' h=>?_;cases r with
  | error e=>exact(hCX H e s' h).elim
  | ok fl=>
   cases fl with
   | next=>exact False.elim h
   | brk=>exact False.elim h
   | cont=>exact False.elim h
   | ret u=>
    obtain⟨v,H',os,bare,un,hok',r',q⟩:=h;have q':v=.bl true:=q;subst q';obtain rfl:u=Value.bool true:=r';refine⟨rfl,OldK.of_keep fun b o e=>?_,os,bare⟩;cases q:H b with
    | none=>exact un.keep b o e q (by intro z;exact absurd (show b∈([]:List Addr) from z) (by simp)) (by simp)
    | some u=>
     rcases hO b with z | ⟨ob,xs,z⟩
     ·rw[q]at z;cases z
     ·have z2:=un.frzs b ob _ z;obtain⟨e1,_⟩:=hok b _ z;obtain⟨e2,_⟩:=hok' b _ z2;rw[e]at e1;cases e1;exact e2
 cases hk:K.lookup a with
 | some o=>
  have e:=KX a o hk;rw[ha]at e;cases e;refine core (fun _=>none) (fun _=>.inl rfl) (.inr ⟨_,vs.toArray,_,hk,rfl,rfl,rfl,by rw[ws9,lenV];exact hl,by simpa using rv⟩) (fun b u z=>by have z':(none:Option HO)=some u:=z;cases z') (fun b z=>absurd rfl z) fun z=>absurd rfl z
 | none=>
  refine core (fun b=>if b=a then some (.frz {cls:=.type "list",data:=.seq vs.toArray} (.lst (ns.map V.int))) else none) (fun b=>?_) (.inl (.inr ⟨{cls:=.type "list",data:=.seq vs.toArray},ww4 rfl⟩)) (fun b u z=>?_) (fun b z=>?_) fun _=>hk
  ·by_cases hb:b=a
   ·exact .inr ⟨_,_,ww4 hb⟩
   ·exact .inl (wv5 hb)
  ·by_cases hb:b=a
   ·have z':=(ww4 hb).symm.trans z;cases z';subst hb;exact⟨ha,by rw[lqm];exact hl,vs,_,rv,ha⟩
   ·have z':=(wv5 hb).symm.trans z;cases z'
  ·by_cases hb:b=a
   ·exact hb
   ·exact absurd (wv5 hb) z
theorem wf9{l:PySem.W.OpenLaw}{n k:Nat}{q:Program}{loose:List Str}{XP:(Str->Option Value)->Heap->Prop}{YP:World->Heap->Prop}{d:DefRec}{K:Params->PySem.W.Frag}{CX:World->CXT}{sp:World->Sp}{x:Str}
  (hn:l.most=some n) (hn2:n<=sizeLine) (hdf:d.params.defaults=[]) (hr:Room k callerA)
  (hY:∀(w:World)(h:Heap),YP w h->(K w.params).In h)
  (F:∀(w:World)(mg:Str->Option Value)(fa:Addr)(h:Heap),(K w.params).In h->h.Ns mainGlobals mg->mg d.name=some (.ref fa)->
   ∃fd:FuncData,(∀(s:Shared)(u:Value),BindsTo s fd ⟨[u],[]⟩ [(x,u)])/\
    ∀base:Heap,(K w.params).In base->base.Ns mainGlobals mg->FnOk l.prog w (K w.params) mg base (CX w) k fa fd [x] (sp w))
  (hsp:∀(w:World)(H:Hp)(a:Addr)(ns:List Int),ns.length<=n->Only H->SqL (K w.params) H a (ns.map V.int)->sp w [.ref a] H (fun v _=>v=.bl true) fun _ _ _=>False)
  (hCX:∀(w:World)(H:Hp)(s:Shared)(e:Value)(s':Shared),CX w [] H s (fun _ _ _=>False) e s'->False):
  PySem.W.WalkO q loose XP YP l.row.toRowW d [] (fun f vs=>PySem.call f vs):=by
 refine Att.attach_call hn hdf fun w s₀ s₁ mg mb fa o pm cd doc a vs ns G Y ho hd hcd hmg hobj hints hlen hg=>?_;have KX:=hY w _ Y;obtain⟨fd,hb,hF⟩:=F w mg fa _ KX G.T.g hmg;exact xx3 KX G.T.g G.T.b G.T.builtins G.T.nolimit hg hobj hints (wx6 hlen hn2) hr hF hb (fun H hO hS=>hsp w H a ns hlen hO hS) fun H e s'=>hCX w H s₁ e s'
def zq2(s:Stmt):Arguments:=match s with
 | .FunctionDef _ a _ _ _ _ _ _ _ _=>a
 | _=>{posonlyargs:=[],args:=[],vararg:=none,kwonlyargs:=[],kw_defaults:=[],kwarg:=none,defaults:=[]}
def zg9(s:Stmt):List Stmt:=match s with
 | .FunctionDef _ _ b _ _ _ _ _ _ _=>b
 | _=>[]
def zc2(s:Stmt):Scope:=match s with
 | .FunctionDef _ _ _ _ _ _ sc _ _ _=>sc
 | _=>{kind:=.function,names:=[],isGenerator:=false,isCoroutine:=false}
abbrev CX0:CXT:=fun _ _ _ _ _ _=>False
abbrev E0:XK:=fun _ _ _=>False
theorem zc6{X:Cx}:xr6 CX0 X E0:=fun _ _ _ _ _ _ _ h=>h.elim
structure Fun(K:PySem.W.Frag)(x qual:Str)(st:Stmt)(f:Addr)(fd:FuncData):Prop where
 ex:∃(oc:Value)(od:Option Addr)(kV doc pm:Value)(an:Option Addr)(cdv ct:Value)(osl:Array (Option Value)),
  fd=PySem.W.fnOf x qual (zq2 st) (zg9 st) (zc2 st) .none kV doc pm an cdv ct/\K.lookup f=some ⟨oc,od,.func fd,osl⟩/\PySem.W.codeIn K cdv qual=true
 kp:PySem.W.keepIn K (.ref f)=true
section
variable{P:Program}{w:World}{K:PySem.W.Frag}{mg:Str->Option Value}{base:Heap}
theorem Fun.ok{x qual:Str}{st:Stmt}{f:Addr}{fd:FuncData}{N ps:List Str}{k:Nat}{sp:Sp}(F:Fun K x qual st f fd)(S:zd1 N ps (zc2 st))(len:∀vs H Q E,sp vs H Q E->vs.length=ps.length)
  (hbody:∀(cdv:Value)(A:Around)(outer:List Env)(s:Shared)(H:Hp)(vs:List V)(Q:VK)(E:XK),Room k (A.deeper (envOfC qual (zc2 st) s.heap.objs.size f cdv))->sp vs H Q E->
   ∃t,PSs (cxOf CX0 P w K mg base N qual (zc2 st) f cdv A outer s H E).nox (zg9 st) t/\t {nx:=fun _ H'=>Q .non H',rt:=Q} (start N vs) H):FnOk P w K mg base CX0 (k+1) f fd ps sp:=by
 obtain⟨oc,od,kV,doc,pm,an,cdv,ct,osl,rfl,lk,hcd⟩:=F.ex;refine fn_of lk hcd S len fun A outer s H vs Q E hr hsp=>?_;obtain⟨t,h,q⟩:=hbody cdv A outer s H vs Q E hr hsp;exact⟨t,h.nox,q⟩
theorem Fun.binds{x qual:Str}{st:Stmt}{f:Addr}{fd:FuncData}{ps:List Str}(F:Fun K x qual st f fd)
  (h:∀(kV doc pm:Value)(an:Option Addr)(cdv ct:Value)(us:List Value),us.length=ps.length->bindArgs (PySem.W.fnOf x qual (zq2 st) (zg9 st) (zc2 st) .none kV doc pm an cdv ct) ⟨us,[]⟩=pure (ps.zip us)):Binds K fd ps []:=by
 obtain⟨oc,od,kV,doc,pm,an,cdv,ct,osl,rfl,lk,hcd⟩:=F.ex;exact .all (h kV doc pm an cdv ct)
theorem wc1{x qual:Str}{st:Stmt}{f:Addr}{oc:Value}{od an:Option Addr}{osl:Array (Option Value)}{kV doc pm cdv ct:Value}(l:K.lookup f=some ⟨oc,od,.func (PySem.W.fnOf x qual (zq2 st) (zg9 st) (zc2 st) .none kV doc pm an cdv ct),osl⟩)
  (c:PySem.W.codeIn K cdv qual=true) (k:PySem.W.keepIn K (.ref f)=true):Fun K x qual st f (PySem.W.fnOf x qual (zq2 st) (zg9 st) (zc2 st) .none kV doc pm an cdv ct):=⟨⟨oc,od,kV,doc,pm,an,cdv,ct,osl,rfl,l,c⟩,k⟩
end
theorem zn1{A:Around}{k:Nat}(hr:Room k A):A.units+1<cLine:=Nat.lt_of_le_of_lt (Nat.add_le_add_left (by decide:1<=64) _) hr.units
theorem zc0{n:Nat}(h:n<=1000):n<sizeLine:=Nat.lt_of_le_of_lt h (by decide)
theorem pv(i:Nat){x:Str}{pos:Pos}(hN:X.N[i]?=some x:=by rfl)(hv:Vis X.env.scope x:=by first | exact wt1 rfl | exact wz3 (wt1 rfl) | exact wz3 (wz3 rfl))(hd:(x == ("__debug__":Str))=false:=by decide)
  (hcd:(x == ("__classdict__":Str))=false:=by decide):PE X (.Name x pos) (tVar i):=xp5 hN hv hd hcd
theorem ym7:CallR X (.builtin "len") (fun xs H Q=>∃a kvs,xs=[V.ref a]/\H a=some (.dK kvs)/\Q (.int kvs.length) H):=by
 intro pins s σ H xs us Q I r h;obtain⟨a,kvs,rfl,ha,q⟩:=h;obtain⟨u,rfl,ru⟩:=zq8 r;cases ru;exact d_len I (.inl ha) fun t s' I'=>⟨.int kvs.length,H,I',⟨t,rfl⟩,q⟩
theorem iteF{A B:Prop}(h:B):if false=true then A else B:=by
 rw[wv5 wt2];exact h
theorem iteT{A B:Prop}(h:A):if true=true then A else B:=by
 rw[ww4 rfl];exact h
theorem ite2{c A B:Prop}[Decidable c](h1:c->A)(h2:¬c->B):if c then A else B:=by
 by_cases h:c
 ·rw[ww4 h];exact h1 h
 ·rw[wv5 h];exact h2 h
section
variable{κ:Type}[DecidableEq κ]
theorem zw7{kvs:List (κ×V)}{k:κ}(h:valV kvs k=none):¬k∈kvs.map (·.1):=by
 intro m;obtain⟨p,hp,e⟩:=ws2.mp m;have q:(kvs.any fun kv=>decide (kv.1=k))=true:=vk3.mpr ⟨p,hp,wt8 e⟩;rw[zm3,h]at q;exact absurd q (by simp)
theorem yj7{kvs:List (κ×V)}{k:κ}{v:V}(h:valV kvs k=some v):k∈kvs.map (·.1):=by
 have q:(kvs.any fun kv=>decide (kv.1=k))=true:=by
  rw[zm3,h]
  all_goals rfl
 obtain⟨p,hp,e⟩:=vk3.mp q;exact ws2.mpr ⟨p,hp,ws0 e⟩
theorem yd3:∀{l:List κ}{k:κ},l.Nodup->¬k∈l->(l++[k]).Nodup
 | [],k,_,_=>by simp
 | a::r,k,h,hk=>by
  obtain⟨h1,h2⟩:=wx9.mp h;show(a::(r++[k])).Nodup;refine wx9.mpr ⟨fun m=>?_,yd3 h2 fun m=>hk (ws5.mpr (wz3 m))⟩;rcases wt9.mp m with q | q
  ·exact h1 q
  ·exact hk (ws5.mpr (wt1 (wv1.mp q).symm))
end
def clOf(env:Env):List (Str×NameKind)->List (Str×Addr)
 | []=>[]
 | (n,k)::r=>clOf env r++(if k=.free then [(n,(env.cells.lookup n).getD 0)] else [])
theorem zv1{env:Env}:∀(l:List (Str×NameKind))(cs:List (Str×Addr)),(∀y∈l,y.2=.free->∃c,env.cells.lookup y.1=some c)->
  (forIn l cs fun(x:Str×NameKind) (r:List (Str×Addr))=>if (x.2 == .free)=true then(do let c ←cellOf env x.1;pure (ForInStep.yield ((x.1,c)::r)):Sem (ForInStep (List (Str×Addr)))) else pure (ForInStep.yield r))=pure (clOf env l++cs)
 | [],cs,_=>by simp[clOf]
 | (n,k)::r,cs,h=>by
  rw[vm2]
  by_cases hk:k=.free
  ·subst hk;obtain⟨c,hc⟩:=h (n,.free) (by simp) rfl;have e:cellOf env n=pure c:=by unfold cellOf;rw[hc]
   simp only[beq_self_eq_true,if_true,e,pure_bind];rw[zv1 r ((n,c)::cs) fun y hy=>h y (ww6 _ hy)];simp[clOf,hc]
  ·have hb:(k == NameKind.free)=false:=by simpa using hk
   simp only[hb,vb7,vg9,pure_bind];rw[zv1 r cs fun y hy=>h y (ww6 _ hy)];simp[clOf,hk]
theorem zj7{env:Env}{scope:Scope}(h:∀y∈scope.names,y.2=.free->∃c,env.cells.lookup y.1=some c):closureFor scope env=pure (clOf env scope.names):=by
 have e:=zv1 (env:=env) scope.names [] h;rw[wx1]at e;unfold closureFor;refine Eq.trans ?_ (wx5 (fun z=>z >>= pure) e);rfl
theorem yk3{env:Env}{x:Str}{c:Addr}:∀{l:List (Str×NameKind)},(x,c)∈clOf env l->(x,NameKind.free)∈l/\c=(env.cells.lookup x).getD 0
 | [],h=>by simp[clOf]at h
 | (n,k)::r,h=>by
  unfold clOf at h;rcases wt9.mp h with h | h
  ·obtain⟨h1,h2⟩:=yk3 h;exact⟨ww6 _ h1,h2⟩
  ·by_cases hk:k=.free
   ·rw[ww4 hk]at h;have e:=wv1.mp h;cases e;subst hk;exact⟨by simp,rfl⟩
   ·rw[wv5 hk]at h;simp at h
theorem yv8{env:Env}{x:Str}:∀{l:List (Str×NameKind)},(x,NameKind.free)∈l->(x,(env.cells.lookup x).getD 0)∈clOf env l
 | [],h=>by simp at h
 | (n,k)::r,h=>by
  unfold clOf;rcases ws5.mp h with h | h
  ·cases h;exact wv4 _ (by simp)
  ·exact vj0 _ (yv8 h)
theorem zp0{x:Str}{v:Addr}:∀{l:List (Str×Addr)},(x,v)∈l->(∀w,(x,w)∈l->w=v)->l.lookup x=some v
 | [],h,_=>by simp at h
 | (n,w)::r,h,u=>by
  rw[vn6]
  by_cases e:x=n
  ·subst e;simp[u w (by simp)]
  ·have hb:(x == n)=false:=by simpa using e
   rw[hb];rcases ws5.mp h with h | h
   ·cases h;exact absurd rfl e
   ·exact zp0 h fun w' hw=>u w' (ww6 _ hw)
theorem yt1{env:Env}{x:Str}{l:List (Str×NameKind)}(h:(x,NameKind.free)∈l):(clOf env l).lookup x=some ((env.cells.lookup x).getD 0):=
 zp0 (yv8 h) fun w hw=>(yk3 hw).2
def blk(X:Cx)(scope:Scope)(N':List Str)(s3:Shared)(H3:Hp)(C:Addr)(fp:List Addr):Cx:=
 {X with N:=N',s₀:=s3,H₀:=H3,env:=compEnvC scope (clOf X.env scope.names) C X.env,outer:=X.stack,stack:=X.stack,ex:=fp,fn:=fun x=>((clOf X.env scope.names).lookup x).isNone,pn:=[],xe:=fun _ _=>False}
structure BlkN(X:Cx)(scope:Scope)(N':List Str)(src:List (Option Nat)):Prop where
 kind:scope.kind=.function
 nocell:(scope.names.all fun y=>decide (y.2≠.cell))=true
 locs:(scope.names.all fun y=>decide (y.2=.local->scope.names.lookup y.1=some .local))=true
 frees:(scope.names.all fun y=>decide (y.2=.free->X.env.kindOf y.1=some .cell∨X.env.kindOf y.1=some .free))=true
 slen:src.length=N'.length
 cap:((N'.zip src).all fun p=>match p.2 with | some j=>decide (X.N[j]?=some p.1) && decide ((p.1,NameKind.free)∈scope.names) | none=>true)=true
def sub(src:List (Option Nat))(σ:St):St:=src.map fun o=>o.bind fun j=>(σ[j]?).join
theorem zs2{scope:Scope}{env:Env}{x:Str}{k:NameKind}(h:(relabel scope env).names.lookup x=some k):(x,k)∈scope.names∨(k=.cell/\(x,NameKind.free)∈scope.names):=by
 have m:=vd6 h;obtain⟨⟨n,k'⟩,hm,e⟩:=ws2.mp m;dsimp only at e
 split at e
 ·rename_i hc
  cases e;have:k'=.free:=by
   simp only[vh3,beq_iff_eq]at hc;exact hc.1.1
  subst this;exact .inr ⟨rfl,hm⟩
 ·cases e;exact .inl hm
theorem zv6{env:Env}{x:Str}:∀{names:List (Str×NameKind)},(x,NameKind.free)∈names->(∀k,(x,k)∈names->k≠.local/\k≠.globalExplicit/\k≠.globalImplicit/\k≠.cell)->
  let q:=(names.map fun(n,k)=>if (k == NameKind.free && env.scope.kind == .function && env.kindOf n == some .cell) then(n,NameKind.cell) else(n,k)).lookup x
  q=some .cell∨q=some .free
 | [],h,_=>by simp at h
 | (n,k)::r,h,u=>by
  intro q;show List.lookup x ((if (k == NameKind.free && env.scope.kind == .function && env.kindOf n == some .cell)=true then(n,NameKind.cell) else(n,k))::_)=_∨List.lookup x ((if (k == NameKind.free && env.scope.kind == .function && env.kindOf n == some .cell)=true then(n,NameKind.cell) else(n,k))::_)=_
  by_cases e:x=n
  ·subst e;obtain⟨u1,u2,u3,u4⟩:=u k (by simp);have hk:k=.free:=by cases k <;> simp_all
   subst hk
   by_cases hc:(NameKind.free == NameKind.free && env.scope.kind == .function && env.kindOf x == some .cell)=true
   ·rw[ww4 hc];left;simp[vn6]
   ·rw[wv5 hc];right;simp[vn6]
  ·have hb:(x == n)=false:=by simpa using e
   have ih:=zv6 (env:=env) (names:=r) (x:=x) ((ws5.mp h).resolve_left fun z=>e (by cases z;rfl)) fun k' hk'=>u k' (ww6 _ hk')
   split
   ·simp only[vn6,hb];exact ih
   ·simp only[vn6,hb];exact ih
section
variable{scope:Scope}{N':List Str}{src:List (Option Nat)}{pins:List (Addr×Obj)}{σ:St}{H3:Hp}{s3 s4:Shared}{C:Addr}{fp:List Addr}
theorem BlkN.cells(B:BlkN X scope N' src)(ok:X.Ok){x:Str}(h:(x,NameKind.free)∈scope.names):∃c,X.env.cells.lookup x=some c/\(clOf X.env scope.names).lookup x=some c:=by
 have q:=ws0 (ww0.mp B.frees (x,.free) h);obtain⟨c,hc⟩:=ok.has x (q rfl);exact⟨c,hc,by rw[yt1 h,hc];rfl⟩
theorem BlkN.back(B:BlkN X scope N' src)(ok:X.Ok){x:Str}{c:Addr}(h:(clOf X.env scope.names).lookup x=some c):X.env.cells.lookup x=some c/\(x,NameKind.free)∈scope.names:=by
 obtain⟨h1,h2⟩:=yk3 (vd6 h);obtain⟨c',e1,e2⟩:=B.cells ok h1;rw[h]at e2;cases e2;exact⟨e1,h1⟩
theorem BlkN.captured(B:BlkN X scope N' src){i j:Nat}{x:Str}(h1:N'[i]?=some x)(h2:src[i]?=some (some j)):X.N[j]?=some x/\(x,NameKind.free)∈scope.names:=by
 have hz:(N'.zip src)[i]?=some (x,some j):=by
  rw[vh8];exact⟨h1,h2⟩
 have q:=ww0.mp B.cap (x,some j) (ws4 hz);have q':(decide (X.N[j]?=some x) && decide ((x,NameKind.free)∈scope.names))=true:=q;rw[vh3]at q';exact⟨ws0 q'.1,ws0 q'.2⟩
theorem yc9(B:BlkN X scope N' src)(I:Inv X pins σ H3 s3)(hf:∀b∈fp,FpOk X pins H3 b)(hlt:∀b∈fp,b<s3.heap.objs.size)(hnl:∀x k,(x,k)∈scope.names->k=.free->∀k',(x,k')∈scope.names->k'=.free)
  (hC:C=s3.heap.objs.size) (hn:s4.heap.Ns C (fun _=>none)) (hk:∀b o,s3.heap.get? b=some o->s4.heap.get? b=some o) (ho:s4.os=s3.os) (hg:s4.gens=s3.gens):
  Inv (blk X scope N' s3 H3 C fp) [] (sub src σ) H3 s4:=by
 subst hC;have ok:=I.ok;refine⟨⟨ok.mod,B.kind,ok.glob,ok.blt,wr5 _,fun x y c h1 h2=>?_,fun x h=>?_,fun x c h1 h2=>?_,ok.hd,ok.frames,.inl rfl,fun b hb=>⟨ws6 (hlt b hb),fun x c h=>?_⟩,I.bs,wx6 ok.bsz I.sz,fun b o e hb=>?_,fun b hb hs=>?_,I.stack,I.stkFree⟩,
  ho,?_,Un.kept hk,⟨_,hn,fun i x v h1 h2 h3=>?_⟩,fun x c h=>?_,I.hok.fresh (wr5 _),fun x c h=>I.freeC x c (B.back ok h).1,fun p hp=>absurd (show p∈([]:List (Addr×Obj)) from hp) (by simp),I.hok.kept hk,?_⟩
 ·exact ok.inj x y c (B.back ok h1).1 (B.back ok h2).1
 ·have h:(relabel scope X.env).names.lookup x=some .cell∨(relabel scope X.env).names.lookup x=some .free:=h;have hm:(x,NameKind.free)∈scope.names:=by
   rcases h with h | h
   ·rcases zs2 h with q | ⟨_,q⟩
    ·exact absurd rfl (ws0 (ww0.mp B.nocell _ q))
    ·exact q
   ·rcases zs2 h with q | ⟨z,_⟩
    ·exact q
    ·cases z
  obtain⟨c,_,e⟩:=B.cells ok hm;exact⟨c,e⟩
 ·have h1:((clOf X.env scope.names).lookup x).isNone=true:=h1;have h2:(clOf X.env scope.names).lookup x=some c:=h2;rw[h2]at h1;simp at h1
 ·exact(hf b hb).2.2.2.2.1 x c (B.back ok h).1
 ·rcases(hf b hb).2.2.2.1 with z | z
  ·exact ok.noex b o e z
  ·exact absurd (ww2 (ws1 e) (wx6 ok.bsz z)) (vb6 _)
 ·rcases ws5.mp (I.stkSub b hs)with z | z
  ·exact(hf b hb).2.1 z
  ·exact(hf b hb).2.2.1 z
 ·rw[hg];exact I.bare
 ·have hs2:∃j,src[i]?=some (some j)/\σ[j]?=some (some v):=by
   have h2:(src.map fun o=>o.bind fun j=>(σ[j]?).join)[i]?=some (some v):=h2;rw[wr3]at h2;cases e:src[i]? with
   | none=>rw[e]at h2;cases h2
   | some o=>
    rw[e]at h2;cases o with
    | none=>cases h2
    | some j=>
     refine⟨j,rfl,?_⟩;have h2:some ((σ[j]?).join)=some (some v):=h2;cases e2:σ[j]? with
     | none=>rw[e2]at h2;cases h2
     | some z=>rw[e2]at h2;cases z with
      | none=>cases h2
      | some z=>cases h2;rfl
  obtain⟨j,hj,hv⟩:=hs2;obtain⟨hN,hm⟩:=B.captured h1 hj;obtain⟨c,hc,hcl⟩:=B.cells ok hm;have kk:=ws0 (ww0.mp B.frees _ hm) rfl;obtain⟨m,_,hl⟩:=I.loc;have hvis:Vis X.env.scope x:=by
   rcases kk with z | z
   ·exact .inr (.inl z)
   ·exact .inr (.inr z)
  obtain⟨u,ru,lk⟩:=hl j x v hN hv hvis;refine⟨u,ru,.inr ⟨?_,c,hcl,?_⟩⟩
  ·exact zv6 hm fun k hk'=>by
    have:=hnl x .free hm rfl k hk';subst this;exact⟨by decide,by decide,by decide,by decide⟩
  ·rcases lk with ⟨z,_⟩ | ⟨_,c',e',⟨o,eo,ed⟩⟩
   ·rcases kk with y | y <;> (rw[z]at y;cases y)
   ·rw[hc]at e';cases e';exact⟨o,hk _ _ eo,ed⟩
 ·obtain⟨v,o,e,d⟩:=I.cell x c (B.back ok h).1;exact⟨v,o,hk _ _ e,d⟩
 ·show(sub src σ).length=N'.length;unfold sub;rw[lqm];exact B.slen
end
theorem yn0{prog:Program}{w:World}{A:Around}{R:Result->Shared->Prop}{s:Shared}{elt target iter:Expr}{ifs:List Expr}{scope:Scope}{pos:Pos}{it acc:Value}{env:Env}(I:Nat->Shared->Prop)
  (turn:∀n s,I n s->wpAny (model prog w) A (pyNext it) (fun r s₁=>match r with
   | none=>R (.ok .next) s₁
   | some v=>wpAny (model prog w) A (letOwnedTupleGo target it v) (fun _ s₁=>wpAny (model prog w) A (assign target env v) (fun _ s₂=>
     wpAny (model prog w) A (forIn ifs true fun c r=>if r=true then do let ok ←isTrue c env (eval c env);pure (ForInStep.yield ok) else pure (ForInStep.yield r)) (fun ok s₃=>
      if ok=true then wpAny (model prog w) A (eval elt env) (fun x s₄=>
       wpAny (model prog w) A (call (.builtin "list.append") [acc,x]) (fun _ s₅=>∃m,m<n/\I m s₅) (fun _ _=>False) s₄) (fun _ _=>False) s₃
      else ∃m,m<n/\I m s₃) (fun _ _=>False) s₂) (fun _ _=>False) s₁) (fun _ _=>False) s₁) (fun _ _=>False) s)
  (n:Nat) (h:I n s):
  codeAny (model prog w) A (.compLoop (.ListComp elt [⟨target,iter,ifs,0⟩] scope pos) 0 it acc env) R s:=by
 refine codeAny_loop rfl I (fun n s hI=>?_) n h;show wpAny _ A ((compTurn (.ListComp elt [⟨target,iter,ifs,0⟩] scope pos) 0 it acc env).onRaise (fun x=>do noteFrame x env;theTreesLotGoes x)) _ _ s;refine wpAny_noted ?_;rw[compTurn_list];refine wq8 (vj8 (wq8 (wz4 (turn n s hI) (fun r s₁ h₁=>?_) fun _ _ h'=>h'.elim)));cases r with
 | none=>exact wr7 h₁
 | some v=>
  refine wq8 (wz4 h₁ (fun _ s₁ h₁=>?_) fun _ _ h'=>h'.elim);refine wq8 (wz4 h₁ (fun _ s₂ h₂=>wq8 (wz4 h₂ (fun ok s₃ h₃=>?_) fun _ _ h'=>h'.elim)) fun _ _ h'=>h'.elim);cases ok with
  | false=>exact wr7 ⟨rfl,h₃⟩
  | true=>
   exact wq8 (wq8 (wz4 h₃ (fun x s₄ h₄=>wq8 (wz4 h₄ (fun _ s₅ h₅=>wr7 (wr7 ⟨rfl,h₅⟩)) fun _ _ h'=>h'.elim)) fun _ _ h'=>h'.elim))
def PTs(X:Cx)(ifs:List Expr)(t:TT):Prop:=
 ∀(pins:List (Addr×Obj))(s:Shared)(σ:St)(H:Hp)(Q:Bool->Hp->Prop),Inv X pins σ H s->t σ H Q->
  wpAny (model X.prog X.w) X.A (forIn ifs true fun c r=>if r=true then do let ok ←isTrue c X.env (eval c X.env);pure (ForInStep.yield ok) else pure (ForInStep.yield r)) (TP X pins σ Q) X.xe s
def tAll:TT:=fun _ H Q=>Q true H
theorem zg5{X:Cx}:PTs X [] tAll:=fun _ _ _ H _ I h=>wpAny_tests_nil ⟨H,I,h⟩
theorem zm7{X:Cx}{c:Expr}{t:TT}(h:PT X c t):PTs X [c] t:=fun pins s σ H Q I q=>wpAny_tests_one (h pins s σ H Q I q)
def yd7(J:It)(g:TG)(tt:TT)(te:TE)(D:Addr)(σ0:St)(H0:Hp)(Q:Hp->Prop):Prop:=
 ∃W:Nat->Nat->St->Hp->Prop,(∃m,W 0 m σ0 H0)/\∀i m σ H,W i m σ H->
 (J.stop i H/\Q H)∨(J.go i H/\∃N:St->Hp->Prop,(∀σ' H',N σ' H'->∃m',m'<m/\W (i+1) m' σ' H')/\∀x H',J.yld i H x H'->g x σ H' fun σ2 H2=>tt σ2 H2 fun b H3=>
  if b=true then te σ2 H3 fun v H4=>∃xs,H4 D=some (.lst xs)/\xs.length<sizeLine/\N σ2 (upd H4 D (.lst (xs++[v]))) else N σ2 H3)
section
variable{scope:Scope}{N':List Str}{src:List (Option Nat)}{pins:List (Addr×Obj)}{σ:St}{H2:Hp}{s2:Shared}
theorem yf5{elt tg iter:Expr}{ifs:List Expr}{pos:Pos}{it:Addr}{fp:List Addr}{tn:Nat->Heap->Prop}{J:It}{g:TG}{tt:TT}{te:TE}{Q:Addr->Hp->Prop}
  {RR:Value->Addr->Result->Shared->Prop} {E:Value->Shared->Prop} (hc:X.calm=true)
  (B:BlkN X scope N' src) (hnl:∀x k,(x,k)∈scope.names->k=.free->∀k',(x,k')∈scope.names->k'=.free) (T:Turn X.prog X.w X.K tg J fp it tn) (I:Inv X pins σ H2 s2) (h0:tn 0 s2.heap) (hf:∀b∈fp,FpOk X pins H2 b)
  (hg:∀s3 H3 C,PG (blk X scope N' s3 H3 C fp) tg g) (ht:∀s3 H3 C,PTs (blk X scope N' s3 H3 C fp) ifs tt) (he:∀s3 H3 C,PE (blk X scope N' s3 H3 C fp) elt te)
  (hw:∀D,H2 D=none->yd7 J g tt te D (sub src σ) (upd H2 D (.lst [])) (Q D))
  (hQ:∀D C H' s',C≠D->(∃m,s'.heap.Ns C m)->(∀h'' ,Heap.SameBut C s'.heap h''->Inv X pins σ H' {s' with heap:=h''})->Inv X pins σ H' s'->H' C=none->C≠X.env.locals->(∀x c,X.env.cells.lookup x=some c->c≠C)->X.s₀.heap.objs.size<=C->(∀p∈X.pn++pins,p.1≠C)->Q D H'->RR (.ref D) C (.ok .next) s'):
  wpAny (model X.prog X.w) X.A (newList []) (fun acc s₃=>wpAny (model X.prog X.w) X.A (newFunctionEnv scope X.env.globals (clOf X.env scope.names) [] X.env.qual none .none (some X.env)) (fun cenv s₄=>
   codeAny (model X.prog X.w) X.A (.compStart (.ListComp elt [⟨tg,iter,ifs,0⟩] scope pos) 0 (.ref it) acc {cenv with scope:=relabel scope X.env}) (RR acc cenv.locals) s₄) E s₃) E s2:=by
 have hcell:∀y∈scope.names,y.2≠.cell:=fun y hy=>ws0 (ww0.mp B.nocell y hy);refine wx0 (wpAny_newFunctionEnv hcell (by intro y hy;simp at hy) (fun h₁ hns₁ hsb₁=>?_) B.kind);dsimp only at hns₁ hsb₁ ⊢;have hDn:H2 s2.heap.objs.size=none:=I.hok.fresh (wr5 _);have I3:Inv X pins σ (upd H2 s2.heap.objs.size (.lst [])) {s2 with heap:=s2.heap.push {cls:=.type "list",dict:=none,data:=.seq ([]:List Value).toArray}}:=
  I.laid (t':=s2.toks) (fun b o e=>wr4 _ e) (wr5 _) ⟨wt6 _,[],_,.nil,wt0 _ rfl⟩
 generalize hH3:(s2.heap.push {cls:=.type "list",dict:=none,data:=.seq ([]:List Value).toArray})=hp3 at hns₁ hsb₁ I3 ⊢;have hsz3:hp3.objs.size=s2.heap.objs.size+1:=by rw[←hH3,Heap.size_push]
 have keep23:∀b o,s2.heap.get? b=some o->hp3.get? b=some o:=fun b o e=>by rw[←hH3];exact wr4 _ e
 have keep34:∀b o,hp3.get? b=some o->h₁.get? b=some o:=fun b o e=>hsb₁.extBut b o (ws6 (ws1 e)) (wr4 _ e);have hDlt:s2.heap.objs.size<hp3.objs.size:=by rw[hsz3];exact Nat.lt_succ_self _
 have hf3:∀b∈fp,FpOk X pins (upd H2 s2.heap.objs.size (.lst [])) b:=fun b hb=>by
  obtain⟨o,e,_⟩:=T.obj _ _ h0 b hb;refine⟨?_,(hf b hb).2⟩;rw[zb5 (ws6 (ws1 e))];exact(hf b hb).1
 have hlt3:∀b∈fp,b<hp3.objs.size:=fun b hb=>by
  obtain⟨o,e,_⟩:=T.obj _ _ h0 b hb;exact wz2 (ws1 e) hDlt
 have hIb:=yc9 (fp:=fp) (C:=hp3.objs.size) (s4:={s2 with heap:=h₁,toks:=s2.toks+([]:List (Str×Value)).length}) B I3 hf3 hlt3 hnl rfl hns₁ keep34 rfl rfl;have h04:tn 0 h₁:=T.keep _ _ _ h0 fun b hb o e=>keep34 b o (keep23 b o e);obtain⟨W,⟨m0,w0⟩,turn⟩:=hw s2.heap.objs.size hDn;have frB:∀{H':Hp},(∀b∈fp,H' b=none)->∀b∈fp,FpOk (blk X scope N' {s2 with heap:=hp3} (upd H2 s2.heap.objs.size (.lst [])) hp3.objs.size fp) [] H' b:=fun hn b hb=>by
  refine⟨hn b hb,ws6 (hlt3 b hb),?_,.inl hb,fun x c h=>(hf b hb).2.2.2.2.1 x c (B.back I.ok h).1,fun p hp=>absurd (show p∈([]:List (Addr×Obj)) from hp) (by simp)⟩;intro z;rcases ws5.mp (I3.stkSub b z)with y | y
  ·exact(hf b hb).2.1 y
  ·exact(hf b hb).2.2.1 y
 have fin:∀(s':Shared)(σ':St)(H':Hp),Inv (blk X scope N' {s2 with heap:=hp3} (upd H2 s2.heap.objs.size (.lst [])) hp3.objs.size fp) [] σ' H' s'->Q s2.heap.objs.size H'->RR (.ref s2.heap.objs.size) hp3.objs.size (.ok .next) s':=fun s' σ' H' J' q=>by
  obtain⟨hh,gg,dd,tt',os'⟩:=s';have eos:os'=s2.os:=J'.os;subst eos;have IX:Inv X pins σ H' {({s2 with heap:=hp3}:Shared)with heap:=hh,gens:=gg,drawn:=dd,toks:=tt'}:=Inv.call (s:={s2 with heap:=hp3}) I3 (h':=hh) (g':=gg) (d':=dd) (t':=tt') (ch:=fp) J'.base J'.hok J'.bare fun b hb=>⟨(hf b hb).2.2.2.1,(hf b hb).2.1,(hf b hb).2.2.2.2.1,(hf b hb).2.2.2.2.2⟩;have hCs:s2.heap.objs.size<=hp3.objs.size:=ws3 hDlt;have hCL:hp3.objs.size≠X.env.locals:=wv9 I3.lt;have hCc:∀x c,X.env.cells.lookup x=some c->c≠hp3.objs.size:=fun x c e z=>by
   obtain⟨v,q⟩:=I3.cell x c e;exact absurd (show c<hp3.objs.size from q.lt) (by rw[z];exact vb6 _)
  have hCp:∀p∈X.pn++pins,p.1≠hp3.objs.size:=fun p hp z=>by
   have:=ws1 (I3.pin p hp).1;exact absurd (show p.1<hp3.objs.size from this) (by rw[z];exact vb6 _)
  have hCh:H' hp3.objs.size=none:=J'.free;obtain⟨m,hm,_⟩:=J'.loc;refine hQ _ _ H' _ (wv9 hDlt) ⟨m,hm⟩ (fun h'' sb=>?_) IX hCh hCL hCc (wx6 I3.sz (wr5 _)) hCp q;exact IX.turned (t':=tt') (fun b o hb e=>(sb.2 b hb).trans e) hCh hCL (.inr (wx6 I3.sz (wr5 _))) hCc hCp
 have loop:∀s₃:Shared,s₃={s2 with heap:=h₁,toks:=s2.toks+([]:List (Str×Value)).length}->
   codeAny (model X.prog X.w) X.A (.compLoop (.ListComp elt [⟨tg,iter,ifs,0⟩] scope pos) 0 (.ref it) (.ref s2.heap.objs.size) (compEnvC scope (clOf X.env scope.names) hp3.objs.size X.env))
    (RR (.ref s2.heap.objs.size) hp3.objs.size) s₃:=by
  rintro s₃ rfl;refine yn0 (fun n s'=>∃i σ' H',Inv (blk X scope N' {s2 with heap:=hp3} (upd H2 s2.heap.objs.size (.lst [])) hp3.objs.size fp) [] σ' H' s'/\tn i s'.heap/\(∀b∈fp,H' b=none)/\W i n σ' H') ?_ m0 ⟨0,_,_,hIb,h04,fun b hb=>(hf3 b hb).1,w0⟩;rintro n s5 ⟨i,σ5,H5,I5,st5,fr5,w5⟩;rcases turn i n σ5 H5 w5 with ⟨stop,qn⟩ | ⟨go,Nx,hN,step⟩
  ·refine thn (T.done (blk X scope N' {s2 with heap:=hp3} (upd H2 s2.heap.objs.size (.lst [])) hp3.objs.size fp) rfl rfl rfl hc i [] s5 σ5 H5 _ I5 (frB fr5) st5 stop) fun r s6 ⟨hr,I6⟩=>?_;subst hr;exact fin s6 σ5 H5 I6 qn
  ·refine thn (T.item (blk X scope N' {s2 with heap:=hp3} (upd H2 s2.heap.objs.size (.lst [])) hp3.objs.size fp) rfl rfl rfl hc i [] s5 σ5 H5 _ I5 (frB fr5) st5 go) fun r s6 ⟨u,hr,h6⟩=>?_;subst hr;refine thn h6 fun _ s7 ⟨x,H7,I7,r7,y7,st7,fr7⟩=>?_;have I7':=I7.pinned (frB fr7) (T.obj _ _ st7);refine thn (hg _ _ _ _ s7 σ5 H7 x u _ I7' r7 (step x H7 y7)) fun _ s8 ⟨σ8,H8,I8,q8⟩=>?_;refine thn (ht _ _ _ _ s8 σ8 H8 _ I8 q8) fun ok s9 ⟨H9,I9,q9⟩=>?_;have again:∀{σa:St}{Ha:Hp}{sa:Shared},Inv (blk X scope N' {s2 with heap:=hp3} (upd H2 s2.heap.objs.size (.lst [])) hp3.objs.size fp) ([]++yd2 fp s7.heap) σa Ha sa->Nx σa Ha->
     ∃m,m<n/\∃i σ' H',Inv (blk X scope N' {s2 with heap:=hp3} (upd H2 s2.heap.objs.size (.lst [])) hp3.objs.size fp) [] σ' H' sa/\tn i sa.heap/\(∀b∈fp,H' b=none)/\W i m σ' H':=fun {σa Ha sa} Ia na=>by
    obtain⟨m',hm,wa⟩:=hN σa Ha na;refine⟨m',hm,i+1,σa,Ha,Ia.unpinned,T.keep _ _ _ st7 fun b hb o e=>(Ia.pin (b,o) (wv4 _ (wv4 _ (zj5 hb e)))).1,fun b hb=>?_,wa⟩;obtain⟨o,e,d⟩:=T.obj _ _ st7 b hb;exact(Ia.pin (b,o) (wv4 _ (wv4 _ (zj5 hb e)))).2.1
   cases ok with
   | false=>exact again I9 q9
   | true=>
    refine thn (he _ _ _ _ s9 σ8 H9 _ I9 q9) fun y s10 ⟨v,H10,I10,r10,xs,hx,hl,q10⟩=>?_;refine thn (zf5 (X:=blk X scope N' {s2 with heap:=hp3} (upd H2 s2.heap.objs.size (.lst [])) hp3.objs.size fp) _ s10 σ8 H10 (.ref s2.heap.objs.size) [v] (.ref s2.heap.objs.size) [y] (fun _ H'=>Nx σ8 H') I10 rfl (.cons r10 .nil) ⟨_,xs,v,rfl,rfl,hx,hl,q10⟩) fun _ s11 ⟨_,H11,I11,_,q11⟩=>?_;exact again I11 q11
 exact codeAny_compStart_list (loop _ rfl) (T.self _ 0 _ _ _ h04 (loop _ rfl))
def xq2(wi:TI)(src:List (Option Nat))(g:TG)(tt:TT)(te:TE):TE:=fun σ H Q=>wi σ H fun J H2=>∀D,H2 D=none->yd7 J g tt te D (sub src σ) (upd H2 D (.lst [])) fun H'=>Q (.ref D) H'
theorem zh4{elt tg iter:Expr}{ifs:List Expr}{pos:Pos}{wi:TI}{g:TG}{tt:TT}{te:TE}(hc:X.calm=true)(B:BlkN X scope N' src)(hi:PI X tg iter wi)
  (hg:∀s3 H3 C fp,PG (blk X scope N' s3 H3 C fp) tg g) (ht:∀s3 H3 C fp,PTs (blk X scope N' s3 H3 C fp) ifs tt) (he:∀s3 H3 C fp,PE (blk X scope N' s3 H3 C fp) elt te)
  (hnl:(scope.names.all fun y=>decide (y.2=.free->∀z∈scope.names,z.1=y.1->z.2=.free))=true:=by decide +kernel)
  (hs:∀x,foldedSetIterable iter X.env x=pure x:=by intro _;rfl):
  PE X (.ListComp elt [⟨tg,iter,ifs,0⟩] scope pos) (xq2 wi src g tt te):=by
 intro pins s σ H Q I h;have hnl':∀x k,(x,k)∈scope.names->k=.free->∀k',(x,k')∈scope.names->k'=.free:=fun x k hm hk k' hm'=>ws0 (ww0.mp hnl (x,k) hm) hk (x,k') hm' rfl;have hclos:closureFor scope X.env=pure (clOf X.env scope.names):=zj7 fun y hy hf=>I.ok.has y.1 (ws0 (ww0.mp B.frees y hy) hf);have hnames:∀y∈scope.names,y.2=.local->scope.names.lookup y.1=some .local:=fun y hy=>ws0 (ww0.mp B.locs y hy);rw[eval_ListComp];refine vf5 (use:=none) rfl hs hclos B.kind hnames (thn (hi pins s σ H _ I h) fun xv s₁ h₁=>thn h₁ fun itv s2 h2=>?_);obtain⟨it,fp,tn,J,H2,rfl,I2,T,h0,hf,hw⟩:=h2;refine yf5 (RR:=fun acc C=>compPost (model X.prog X.w) X.A X.xe none (EP X pins σ Q) acc C) (Q:=fun D H'=>Q (.ref D) H') hc B hnl' T I2 h0 hf (fun a b c=>hg a b c fp) (fun a b c=>ht a b c fp) (fun a b c=>he a b c fp) hw ?_;intro D C H' s' hCD hm hsb IX hCh hCL hCc hCs hCp q;obtain⟨m,hm⟩:=hm;exact⟨m,hm,fun h'' sb=>⟨.ref D,H',hsb h'' sb,rfl,q⟩⟩
theorem zh1{elt tg iter:Expr}{ifs:List Expr}{pos spos py:Pos}{wi:TI}{g:TG}{tt:TT}{te:TE}{i:Nat}{y:Str}(hc:X.calm=true)(hN:X.N.Nodup)(hi':X.N[i]?=some y)(hy:X.env.scope.names.lookup y=some .local)(B:BlkN X scope N' src)(hi:PI X tg iter wi)
  (hg:∀s3 H3 C fp,PG (blk X scope N' s3 H3 C fp) tg g) (ht:∀s3 H3 C fp,PTs (blk X scope N' s3 H3 C fp) ifs tt) (he:∀s3 H3 C fp,PE (blk X scope N' s3 H3 C fp) elt te)
  (hsw:swapsWith (.ListComp elt [⟨tg,iter,ifs,0⟩] scope pos) (some (.Name y py)) spos.line X.env=pure true:=by rfl)
  (hnl:(scope.names.all fun y=>decide (y.2=.free->∀z∈scope.names,z.1=y.1->z.2=.free))=true:=by decide +kernel)
  (hs:∀x,foldedSetIterable iter X.env x=pure x:=by intro _;rfl):
  PS X (.Assign [.Name y py] (.ListComp elt [⟨tg,iter,ifs,0⟩] scope pos) spos) (tAsg (xq2 wi src g tt te) (zd9 i)):=by
 intro pins s σ H D I h;have hnl':∀x k,(x,k)∈scope.names->k=.free->∀k',(x,k')∈scope.names->k'=.free:=fun x k hm hk k' hm'=>ws0 (ww0.mp hnl (x,k) hm) hk (x,k') hm' rfl;have hclos:closureFor scope X.env=pure (clOf X.env scope.names):=zj7 fun y hy hf=>I.ok.has y.1 (ws0 (ww0.mp B.frees y hy) hf);have hnames:∀y∈scope.names,y.2=.local->scope.names.lookup y.1=some .local:=fun y hy=>ws0 (ww0.mp B.locs y hy);rw[exec_Assign_Name_used _ _ _ _ hsw];refine wq8 (vj8 (wq8 ?_));show wpAny _ X.A (do let _ ←comprehension (.ListComp elt [⟨tg,iter,ifs,0⟩] scope pos) scope X.env _ (newList []) false (eval iter X.env) (some (assign (.Name y py) X.env))) _ _ s;have h':wi σ H fun J H2=>∀D',H2 D'=none->yd7 J g tt te D' (sub src σ) (upd H2 D' (.lst [])) fun H'=>D.nx (σ.set i (some (.ref D'))) H':=h;refine wq8 (wz4 (vf5 (use:=some (assign (.Name y py) X.env)) (Q:=fun _ s'=>SP X pins D .next s') rfl hs hclos B.kind hnames
  (thn (hi pins s σ H _ I h') fun xv s₁ h₁=>thn h₁ fun itv s2 h2=>?_)) (fun _ s' hq=>wr7 (wr7 hq)) fun _ _ e=>e)
 obtain⟨it,fp,tn,J,H2,rfl,I2,T,h0,hf,hw⟩:=h2;refine yf5 (RR:=fun acc C=>compPost (model X.prog X.w) X.A X.xe (some (assign (.Name y py) X.env)) (fun _ s'=>SP X pins D .next s') acc C) (Q:=fun D' H'=>D.nx (σ.set i (some (.ref D'))) H') hc B hnl' T I2 h0 hf (fun a b c=>hg a b c fp) (fun a b c=>ht a b c fp) (fun a b c=>he a b c fp) hw ?_;intro D' C H' s' hCD hm hsb IX hCh hCL hCc hCs hCp q;obtain⟨m,hm⟩:=hm;show wpAny _ X.A (assign (.Name y py) X.env (.ref D')) _ _ _;refine wpAny_assign_Name ?_;refine zz4 (v:=.ref D') IX hN hi' (.inl hy) rfl (fun s'' I'' hsame=>?_) (.inr hy);obtain⟨a,hs',ha⟩:=hsame;have hCa:C≠a:=by
  rintro rfl;rcases ha with z | z
  ·exact hCL z
  ·exact hCc _ _ z rfl
 refine⟨m,hm.sameBut hs' hCa,fun h'' sb=>⟨_,H',?_,q⟩⟩;exact I''.turned (t':=s''.toks) (fun b o hb e=>(sb.2 b hb).trans e) hCh hCL (.inr hCs) hCc hCp
end
section
variable{pins:List (Addr×Obj)}{σ:St}{H:Hp}{s:Shared}{a:Addr}{o:Obj}{u:HO}
theorem xt8{P:Program}{w:World}{H:Hp}{h:Heap}{a:Addr}{u v:HO}(ok:HOk P w H h)(e:H a=some u)(nt:∀xs,u≠.tup xs)(no:∀y,u≠.own y)(new:ObjOk P w (upd H a v) h a v):HOk P w (upd H a v) h:=fun b z q=>by
 by_cases hb:b=a
 ·subst hb;rw[zb1]at q;cases q;exact new
 ·rw[zb5 hb]at q;refine(ok b z q).stay (fun c w' _ r=>r) (fun c r=>?_) fun c xs r=>?_
  ·rw[zb5];exact r;rintro rfl;rw[e]at r;cases r;exact no _ rfl
  ·rw[zb5];exact r;rintro rfl;rw[e]at r;cases r;exact nt _ rfl
theorem Inv.swap{u v:HO}(I:Inv X pins σ H s)(e:H a=some u)(nt:∀xs,u≠.tup xs)(no:∀y,u≠.own y)(nb:∀ps,u≠.tbl ps)(hz:∀ob y,X.H₀ a≠some (.frz ob y))(new:ObjOk X.prog X.w (upd H a v) s.heap a v):Inv X pins σ (upd H a v) s:=by
 have ne:∀b,H b=none->b≠a:=fun b n z=>by subst z;rw[e]at n;cases n
 refine⟨I.ok,I.os,I.bare,⟨I.base.keep,I.base.slot,fun b ob q n hx=>?_,I.base.there,fun b xs q=>?_,fun b ob y q=>?_,fun b ps q=>?_⟩,I.loc,I.cell,?_,fun x c h=>?_,fun p hp=>?_,xt8 I.hok e nt no new,I.len⟩
 ·have:=I.base.free b ob q n hx;rw[zb5 (ne b this)];exact this
 ·have:=I.base.tups b xs q;rw[zb5];exact this;rintro rfl;rw[e]at this;cases this;exact nt _ rfl
 ·have:=I.base.frzs b ob y q;rw[zb5];exact this;rintro rfl;exact hz _ _ q
 ·obtain⟨m,this⟩:=I.base.tbls b ps q;refine⟨m,?_⟩;rw[zb5];exact this;rintro rfl;rw[e]at this;cases this;exact nb _ rfl
 ·rw[zb5 (ne _ I.free)];exact I.free
 ·rw[zb5 (ne _ (I.freeC x c h))];exact I.freeC x c h
 ·obtain⟨h1,h2,h3⟩:=I.pin p hp;exact⟨h1,by rw[zb5 (ne _ h2)];exact h2,h3⟩
theorem Inv.unfrozen{kvs:List (Key×V)}(I:Inv X pins σ H s)(e:H a=some (.dK kvs)):∀ob y,X.H₀ a≠some (.frz ob y):=fun ob y q=>by
 have:=I.base.frzs a ob y q;rw[e]at this;cases this
theorem Inv.freeze{kvs:List (Key×V)}(I:Inv X pins σ H s)(e:H a=some (.dK kvs))(ho:s.heap.get? a=some o):Inv X pins σ (upd H a (.frz o (.dK kvs))) s:=
 I.swap e (fun _ h=>nomatch h) (fun _ h=>nomatch h) (fun _ h=>nomatch h) (I.unfrozen e) ⟨ho,I.hok a _ e⟩
theorem Inv.thaw{kvs:List (Key×V)}(I:Inv X pins σ H s)(e:H a=some (.frz o (.dK kvs)))(hz:∀ob y,X.H₀ a≠some (.frz ob y)):Inv X pins σ (upd H a (.dK kvs)) s:=
 I.swap e (fun _ h=>nomatch h) (fun _ h=>nomatch h) (fun _ h=>nomatch h) hz (I.hok a _ e).2
end
def Itx(ok:Hp->Prop)(xs:List V):It:=⟨fun i H=>ok H/\i<xs.length,fun i H x H'=>H'=H/\xs[i]?=some x,fun i H=>ok H/\xs.length<=i⟩
def Frz(a:Addr)(o:Obj)(kvs:List (Key×V))(H:Hp):Prop:=H a=some (.frz o (.dK kvs))
theorem KV.get{kvs:List (Key×V)}{vs:List (Key×Value)}(r:KV kvs vs):∀{i:Nat}{k:Key}{x:Value},vs[i]?=some (k,x)->∃v,kvs[i]?=some (k,v)/\RelV v x:=by
 unfold KV at r
 induction r with
 | nil=>intro i k x h;simp at h
 | @cons p q ps qs h t ih=>
  intro i k x hx;cases i with
  | zero=>
   simp at hx;subst hx;obtain⟨p1,p2⟩:=p;obtain⟨h1,h2⟩:=h;have h1:p1=k:=h1;subst h1;exact⟨p2,by simp,h2⟩
  | succ i=>simpa using ih (by simpa using hx)
theorem zr3{P:Program}{w:World}{h:Heap}{a:Addr}{o:Obj}{kvs:List (Key×V)}(ho:h.get? a=some o)(d:∃vs,KV kvs vs/\h.DictOf (zc7 P w) a vs):
  ∃vs ep,KV kvs vs/\∀h':Heap,h'.get? a=some o->h'.DictAt (zc7 P w) a vs ep:=by
 obtain⟨vs,r,o',es,ep,e,q⟩:=d;rw[ho]at e;cases e;exact⟨vs,ep,r,fun h' e'=>⟨o,es,e',q⟩⟩
theorem xj6{P:Program}{w:World}{K:PySem.W.Frag}{tg:Expr}{o:Obj}{kvs:List (Key×V)}{vs:List (Key×Value)}{ep:Nat}(a it:Addr)(hne:a≠it)(r:KV kvs vs)(hd:∀h':Heap,h'.get? a=some o->h'.DictAt (zc7 P w) a vs ep):
  Turn P w K tg (Itx (Frz a o kvs) (kvs.map fun kv=>kV kv.1)) [it] it (fun i h=>h.IsKeyIter it a i vs.length ep) where
 mem:=by simp
 obj:=fun i h st b hb=>by
  have e:b=it:=by simpa using hb
  subst e;obtain⟨o,e,c,d⟩:=st;exact⟨o,e,fun v z=>by rw[d]at z;cases z⟩
 keep:=fun i h h' st k=>st.at fun o e=>k it (by simp) o e
 item:=by
  intro X hP hw hK hc i pins s σ H E I hf st hg;subst hP hw hK;obtain⟨hz,hi⟩:=hg;have ho:=(I.hok a _ hz).1;obtain⟨f0,f1,f2,f3,f4,f5⟩:=hf it (by simp);have hl:i<vs.length:=by rw[←r.length];simpa using hi
  have W:=Walks.dictKeys (prog:=X.prog) (w:=X.w) (knd:=zc7 X.prog X.w) (A:=X.A) (I.ok.hd hc) it a hne vs ep;refine W.item i s _ _ hl ⟨st,hd _ ho⟩ fun v h' tk hv st' kk=>?_;obtain⟨k,x,hx,hk⟩:=hv;have I1:Inv X pins σ H {s with heap:=h',toks:=tk}:=I.turned (fun b o hb e=>kk b o (by simpa using hb) e) f0 f1 f3 f4 f5;obtain⟨o',e',c',d'⟩:=id st'.1;obtain⟨v',hv',_⟩:=r.get hx;refine⟨_,rfl,ys7 (s:={s with heap:=h',toks:=tk}) e' c' d' (by decide) ⟨kV k,H,I1,?_,⟨rfl,by rw[wr3,hv'];rfl⟩,st'.1,fun b hb=>(hf b hb).1⟩⟩;rcases zd8 hk with ⟨n,t,rfl,rfl⟩ | ⟨n,t,rfl,rfl⟩
  ·exact⟨t,rfl⟩
  ·exact⟨t,rfl⟩
 done:=by
  intro X hP hw hK hc i pins s σ H E I hf st hg;subst hP hw hK;obtain⟨hz,hi⟩:=hg;have ho:=(I.hok a _ hz).1;obtain⟨f0,f1,f2,f3,f4,f5⟩:=hf it (by simp);have hl:vs.length<=i:=by rw[←r.length];simpa using hi
  exact wpAny_pyNext_dict_end (I.ok.hd hc) st (hd _ ho) (by simpa using hl) fun h' he'=>⟨rfl,I.turned (t':=s.toks) (fun b o hb e=>he' b o hb e) f0 f1 f3 f4 f5⟩
 self:=fun _ _ _ _ _ st h=>wpAny_pyIter_keyiter st h
theorem xj0{P:Program}{w:World}{K:PySem.W.Frag}{tg:Expr}{o:Obj}{kvs:List (Key×V)}{vs:List (Key×Value)}{ep:Nat}(a it:Addr)(hne:a≠it)(r:KV kvs vs)(hd:∀h':Heap,h'.get? a=some o->h'.DictAt (zc7 P w) a vs ep):
  Turn P w K tg (Itx (Frz a o kvs) (kvs.map fun kv=>kv.2)) [it] it (fun i h=>h.IsValIter it a i vs.length ep) where
 mem:=by simp
 obj:=fun i h st b hb=>by
  have e:b=it:=by simpa using hb
  subst e;obtain⟨o,e,c,d⟩:=st;exact⟨o,e,fun v z=>by rw[d]at z;cases z⟩
 keep:=fun i h h' st k=>st.at fun o e=>k it (by simp) o e
 item:=by
  intro X hP hw hK hc i pins s σ H E I hf st hg;subst hP hw hK;obtain⟨hz,hi⟩:=hg;have ho:=(I.hok a _ hz).1;obtain⟨f0,f1,f2,f3,f4,f5⟩:=hf it (by simp);have hl:i<vs.length:=by rw[←r.length];simpa using hi
  have W:=Walks.dictValues (prog:=X.prog) (w:=X.w) (knd:=zc7 X.prog X.w) (A:=X.A) (I.ok.hd hc) it a hne vs ep;refine W.item i s _ _ hl ⟨st,hd _ ho⟩ fun v h' tk hv st' kk=>?_;obtain⟨k,hx⟩:=hv;have I1:Inv X pins σ H {s with heap:=h',toks:=tk}:=I.turned (fun b o hb e=>kk b o (by simpa using hb) e) f0 f1 f3 f4 f5;obtain⟨o',e',c',d'⟩:=id st'.1;obtain⟨v',hv',rv⟩:=r.get hx;exact⟨_,rfl,ys7 (s:={s with heap:=h',toks:=tk}) e' c' d' (by decide) ⟨v',H,I1,rv,⟨rfl,by rw[wr3,hv'];rfl⟩,st'.1,fun b hb=>(hf b hb).1⟩⟩
 done:=by
  intro X hP hw hK hc i pins s σ H E I hf st hg;subst hP hw hK;obtain⟨hz,hi⟩:=hg;have ho:=(I.hok a _ hz).1;obtain⟨f0,f1,f2,f3,f4,f5⟩:=hf it (by simp);have hl:vs.length<=i:=by rw[←r.length];simpa using hi
  exact wpAny_pyNext_values_end (I.ok.hd hc) st (hd _ ho) (by simpa using hl) fun h' he'=>⟨rfl,I.turned (t':=s.toks) (fun b o hb e=>he' b o hb e) f0 f1 f3 f4 f5⟩
 self:=fun _ _ _ _ _ st h=>wpAny_pyIter_valiter st h
section
variable{tg:Expr}
def iDict(te:TE):TI:=fun σ H R=>te σ H fun x H1=>∃a kvs,x=.ref a/\H1 a=some (.dK kvs)/\∀o,R (Itx (Frz a o kvs) (kvs.map fun kv=>kV kv.1)) (upd H1 a (.frz o (.dK kvs)))
theorem yj1{l:Expr}{te:TE}(hl:PE X l te):PI X tg l (iDict te):=by
 intro pins s σ H R I h;refine thn (hl pins s σ H _ I h) fun v s1 ⟨x,H1,I1,r1,q1⟩=>?_;obtain⟨a,kvs,e,hq,q⟩:=q1;subst e;cases r1;obtain⟨hz,hsys,hd⟩:=yj3 I1.hok hq;obtain⟨o,ho⟩:∃o,s1.heap.get? a=some o:=by obtain⟨vs,_,o,_,_,e,_⟩:=hd;exact⟨o,e⟩
 obtain⟨vs,ep,r,hat⟩:=zr3 ho hd;refine wpAny_pyIter_dict hsys (hat _ ho) ?_;have I2:=I1.freeze hq ho;refine⟨s1.heap.objs.size,[s1.heap.objs.size],_,_,_,rfl,I2.kept (t':=s1.toks) fun b o e=>wr4 _ e,xj6 a _ (ws6 (ws1 ho)) r hat,⟨_,wt0 _ rfl,rfl,rfl⟩,fun b hb=>?_,q o⟩;have e:b=s1.heap.objs.size:=by simpa using hb
 subst e;exact I2.fpOk (wr5 _) (I2.hok.fresh (wr5 _))
def iVals(te:TE):TI:=fun σ H R=>te σ H fun x H1=>∃a kvs,x=.ref a/\H1 a=some (.dK kvs)/\∀o,R (Itx (Frz a o kvs) (kvs.map fun kv=>kv.2)) (upd H1 a (.frz o (.dK kvs)))
theorem wj2{l:Expr}{te:TE}{apos cpos:Pos}(hl:PE X l te)(base:attributeBase l "values" X.env (eval l X.env)=eval l X.env:=by rfl)
  (few:((backTo cpos (starEach [] X.env)).all (fun x=>!x.1) && (backToKw cpos (keywordEach [] X.env)).all (fun x=>x.1.isSome) && decide (([]:List Expr).length+([]:List Keyword).length+(if ([]:List Keyword).isEmpty then 0 else 1)<30))=true:=by rfl)
  (line:(apos.endLine == cpos.line)=true:=by rfl) (trees:backTo cpos (starEach [] X.env)=[]:=by rfl):PI X tg (.Call (.Attribute l "values" apos) [] [] cpos) (iVals te):=by
 intro pins s σ H R I h;refine vg3 base few line wz9 PySem.F.slot_dict_values PySem.F.type_dict_values (thn (hl pins s σ H _ I h) fun u s1 ⟨x,H1,I1,rx,a,kvs,ex,hq,q⟩=>?_);subst ex;obtain rfl:u=Value.ref a:=rx;obtain⟨t1,t2,hsys⟩:=yf0 I1 (.inl ⟨kvs,.inl hq⟩);refine⟨t1,t2,?_⟩;rw[trees];refine vb5 rfl (PySem.evalArgs_none ?_);obtain⟨hz,_,hd⟩:=yj3 I1.hok hq;obtain⟨o,ho⟩:∃o,s1.heap.get? a=some o:=by obtain⟨vs,_,o,_,_,e,_⟩:=hd;exact⟨o,e⟩
 obtain⟨vs,ep,r,hat⟩:=zr3 ho hd;refine vj6 PySem.F.slot_dict_values t1 PySem.F.entry_dict_values (PySem.F.args_dict_values_1 _) (meets_dict_values (zc7 X.prog X.w) a hsys) ⟨⟨vs,(hat _ ho).dictOf⟩,?_⟩;have ho2:(s1.heap.push {cls:=.type "dict_values",data:=.fields #[.ref a]}).get? a=some o:=wr4 _ ho;have I2:Inv X pins σ H1 {s1 with heap:=s1.heap.push {cls:=.type "dict_values",data:=.fields #[.ref a]}}:=I1.kept (t':=s1.toks) fun b o e=>wr4 _ e;refine wpAny_pyIter_values (s:={s1 with heap:=s1.heap.push {cls:=.type "dict_values",data:=.fields #[.ref a]}}) ⟨_,wt0 _ rfl,rfl,rfl⟩ (hat _ ho2) ?_;have I3:=I2.freeze hq ho2;refine⟨_,[_],_,_,_,rfl,I3.kept (t':=s1.toks) fun b o e=>wr4 _ e,xj0 a _ (ws6 (ws1 ho2)) r hat,⟨_,wt0 _ rfl,rfl,rfl⟩,fun b hb=>?_,q o⟩;rw[wv1.mp hb];exact I3.fpOk (wr5 _) (I3.hok.fresh (wr5 _))
def thawE(t:TE):TE:=fun σ H Q=>∃a kvs,H a=some (.dK kvs)/\t σ H fun v H'=>∃o,H' a=some (.frz o (.dK kvs))/\Q v (upd H' a (.dK kvs))
theorem xn4{e:Expr}{t:TE}(h:PE X e t):PE X e (thawE t):=by
 intro pins s σ H Q I ⟨a,kvs,ha,q⟩;have hz:=I.unfrozen ha;refine thn (h pins s σ H _ I q) fun u s1 ⟨x,H1,I1,r1,o,h1,q1⟩=>⟨x,_,I1.thaw h1 hz,r1,q1⟩
def thawD(D:Ends)(a:Addr)(kvs:List (Key×V)):Ends where
 nx:=fun σ H=>∃o,H a=some (.frz o (.dK kvs))/\D.nx σ (upd H a (.dK kvs))
 rt:=fun v H=>∃o,H a=some (.frz o (.dK kvs))/\D.rt v (upd H a (.dK kvs))
 bk:=fun σ H=>∃o,H a=some (.frz o (.dK kvs))/\D.bk σ (upd H a (.dK kvs))
 ct:=fun σ H=>∃o,H a=some (.frz o (.dK kvs))/\D.ct σ (upd H a (.dK kvs))
def thawS(t:TS):TS:=fun D σ H=>∃a kvs,H a=some (.dK kvs)/\t (thawD D a kvs) σ H
theorem xp0{st:Stmt}{t:TS}(h:PS X st t):PS X st (thawS t):=by
 intro pins s σ H D I ⟨a,kvs,ha,q⟩;have hz:=I.unfrozen ha;refine thn (h pins s σ H _ I q) fun f s1 hf=>?_;cases f with
 | next=>obtain⟨σ',H',I1,o,h1,q1⟩:=hf;exact⟨σ',_,I1.thaw h1 hz,q1⟩
 | brk=>obtain⟨σ',H',I1,o,h1,q1⟩:=hf;exact⟨σ',_,I1.thaw h1 hz,q1⟩
 | cont=>obtain⟨σ',H',I1,o,h1,q1⟩:=hf;exact⟨σ',_,I1.thaw h1 hz,q1⟩
 | ret u=>obtain⟨v,σ',H',I1,r,o,h1,q1⟩:=hf;exact⟨v,σ',_,I1.thaw h1 hz,r,q1⟩
end
def Ite(K:PySem.W.Frag)(a:Addr):It:=
 ⟨fun i H=>∃xs x,SqL K H a xs/\xs[i]?=some x,fun i H x H'=>∃p y,H p=none/\x=.ref p/\H'=upd H p (.tup [.int i,y])/\∀xs,SqL K H a xs->xs[i]?=some y,fun i H=>∃xs,SqL K H a xs/\xs.length<=i⟩
theorem xm5{P:Program}{w:World}{K:PySem.W.Frag}{es:List Expr}{k:Nat}{pos:Pos}(a e it:Addr)(hei:e≠it):Turn P w K (.Tuple es k pos) (Ite K a) [e,it] e (fun i h=>(∃old,IsEnum h e it i old)/\h.IsListIter it a i) where
 mem:=by simp
 obj:=fun i h st b hb=>by
  obtain⟨⟨old,he⟩,hi⟩:=st;rcases ws5.mp hb with rfl | hb
  ·exact⟨_,he,fun v z=>by
    have z':Data.fields _=Data.cell v:=z;cases z'⟩
  ·have e:b=it:=by simpa using hb
   subst e;obtain⟨o,e,c,d⟩:=hi;exact⟨o,e,fun v z=>by rw[d]at z;cases z⟩
 keep:=fun i h h' st kp=>by
  obtain⟨⟨old,he⟩,hi⟩:=st;exact⟨⟨old,kp e (by simp) _ he⟩,hi.at fun o x=>kp it (by simp) o x⟩
 item:=by
  intro X hP hw hK hc i pins s σ H E I hf st hg;subst hP hw hK;obtain⟨xs,x,hq,hx⟩:=hg;obtain⟨⟨old,he⟩,hit⟩:=st;obtain⟨its,rv,p,hz⟩:=I.list hq;obtain⟨u,hu,ru⟩:=rv.get hx;obtain⟨f0,f1,f2,f3,f4,f5⟩:=hf e (by simp);obtain⟨g0,g1,g2,g3,g4,g5⟩:=hf it (by simp);have helt:e<s.heap.objs.size:=ws1 he;have hilt:it<s.heap.objs.size:=by obtain⟨_,x,_⟩:=hit;exact ws1 x
  refine wpAny_pyNext_enum_item he hit p.isList (x:=u) (by simpa using hu) hei fun h' ho hit' hT hsz kk=>?_
  refine⟨_,rfl,wpAny_letOwnedTupleGo_enum (s:={s with heap:=h',toks:=s.toks+1}) ho fun h'' he'' hs''=>?_⟩;have hTe:s.heap.objs.size≠e:=wv9 helt;have hTi:s.heap.objs.size≠it:=wv9 hilt;have hfree:H s.heap.objs.size=none:=I.hok.fresh (wr5 _);have keep:∀b o,b≠e->b≠it->s.heap.get? b=some o->h''.get? b=some o:=fun b o h1 h2 e=>(hs''.2 b h1).trans (kk b o h1 h2 e);have nit:∀b u,H b=some u->b≠e/\b≠it:=fun b u e'=>⟨fun z=>(by rw[z,f0]at e';cases e'),fun z=>(by rw[z,g0]at e';cases e')⟩
  have I0:Inv X pins σ H {s with heap:=h'',toks:=s.toks+1}:=by
   refine I.step (g':=s.gens) (d':=s.drawn) (ch:=[e,it]) (fun b hb=>?_) (fun b o _ _ hc e _=>keep b o (fun z=>hc (by simp[z])) (fun z=>hc (by simp[z])) e) (fun b o _ _ hc e _=>⟨o.slots,keep b o (fun z=>hc (by simp[z])) (fun z=>hc (by simp[z])) e⟩)
    (fun _ _ _ _ n=>n) (fun b o hc e=>⟨o,keep b o (fun z=>hc (by simp[z])) (fun z=>hc (by simp[z])) e⟩) (fun _ _ e=>e) (fun _ _ _ e=>e) (fun b ps e=>⟨#[],by rw[e];simp⟩) (fun m hm=>?_) (fun b u eq=>?_) I.bare
   ·rcases ws5.mp hb with rfl | hb
    ·exact⟨f3,f1,f4,f5⟩
    ·have e:b=it:=by simpa using hb
     subst e;exact⟨g3,g1,g4,g5⟩
   ·obtain⟨o,es,ep,ho,r⟩:=hm;exact⟨o,es,ep,keep _ o (vb3 f1) (vb3 g1) ho,r⟩
   ·refine(I.hok b u eq).stay (fun c v hc q=>keep c v ?_ ?_ q) (fun _ q=>q) fun _ _ q=>q
    ·rcases hc with z | z
     ·rw[z];exact(nit b u eq).1
     ·exact(nit c _ z).1
    ·rcases hc with z | z
     ·rw[z];exact(nit b u eq).2
     ·exact(nit c _ z).2
  have hT2:h''.get? s.heap.objs.size=some {cls:=.type "tuple",data:=.seq #[.int i s.toks,u]}:=(hs''.2 _ hTe).trans hT;have I1:Inv X pins σ (upd H s.heap.objs.size (.tup [.int i,x])) {s with heap:=h'',toks:=s.toks+1}:=by
   have base:=I0.base;have hok:HOk X.prog X.w (upd H s.heap.objs.size (.tup [.int i,x])) h'':=by
    intro b z q
    by_cases hb:b=s.heap.objs.size
    ·subst hb;rw[zb1]at q;cases q;refine⟨⟨by show 2<=sizeLine;decide,_,hT2,rfl⟩,[.int i s.toks,u],.cons ⟨_,rfl⟩ (.cons ru .nil),_,hT2,rfl,_,rfl⟩
    ·rw[zb5 hb]at q;refine(I0.hok b z q).stay (fun c w' _ r=>r) (fun c r=>?_) fun c xs r=>?_
     ·rw[zb5 (zb4 r hfree)];exact r
     ·rw[zb5 (zb4 r hfree)];exact r
   have old:∀b o',X.s₀.heap.get? b=some o'->b≠s.heap.objs.size:=fun b o' e=>ws6 (ww2 (ws1 e) I.sz);refine⟨I0.ok,I0.os,I0.bare,⟨base.keep,base.slot,fun b ob q n hx=>?_,base.there,fun b ys q=>?_,fun b ob y q=>?_,fun b ps q=>?_⟩,I0.loc,I0.cell,?_,fun y c h=>?_,fun p hp=>?_,hok,I0.len⟩
   ·rw[zb5 (old b ob q)];exact base.free b ob q n hx
   ·have:=base.tups b ys q;rw[zb5 (zb4 this hfree)];exact this
   ·have:=base.frzs b ob y q;rw[zb5 (zb4 this hfree)];exact this
   ·obtain⟨m,this⟩:=base.tbls b ps q;exact⟨m,by rw[zb5 (zb4 this hfree)];exact this⟩
   ·rw[zb5 (ws6 I.lt)];exact I.free
   ·obtain⟨v,q⟩:=I.cell y c h;rw[zb5 (ws6 q.lt)];exact I.freeC y c h
   ·obtain⟨h1,h2,h3⟩:=I0.pin p hp;have:=ws1 (I.pin p hp).1;exact⟨h1,by rw[zb5 (ws6 this)];exact h2,h3⟩
  have hit2:h''.IsListIter it a (i+1):=hit'.at fun o y=>(hs''.2 it hei.symm).trans y;have hen:IsEnum h'' e it ((i+1:Nat):Int) u:=by simpa using he''
  refine⟨.ref s.heap.objs.size,_,I1,rfl,⟨_,x,hfree,rfl,rfl,fun ys hy=>by rw[I.list_inj hy hq];exact hx⟩,⟨⟨u,hen⟩,hit2⟩,fun b hb=>?_⟩;rcases ws5.mp hb with rfl | hb
  ·rw[zb5 (vb3 hTe)];exact f0
  ·have e:b=it:=by simpa using hb
   subst e;rw[zb5 (vb3 hTi)];exact g0
 done:=by
  intro X hP hw hK hc i pins s σ H E I hf st hg;subst hP hw hK;obtain⟨xs,hq,hx⟩:=hg;obtain⟨⟨old,he⟩,hit⟩:=st;obtain⟨its,rv,p,hz⟩:=I.list hq;obtain⟨g0,g1,g2,g3,g4,g5⟩:=hf it (by simp);have hl:=rv.length;refine wpAny_pyNext_enum_end (I.ok.hd hc) he hit p.isList (Array.getElem?_eq_none (by simp;lia)) fun h' hx=>⟨rfl,I.turned (t':=s.toks) (fun b o hb e=>hx b o hb e) g0 g1 g3 g4 g5⟩
 self:=fun _ _ _ _ _ st h=>by
  obtain⟨⟨old,he⟩,_⟩:=st;exact wpAny_pyIter_enum he h
def iEnum(K:PySem.W.Frag)(ta:TA):TI:=fun σ H R=>ta σ H fun vs H1=>∃a xs,vs=[.ref a]/\SqL K H1 a xs/\R (Ite K a) H1
theorem boot_enumerate:bootBuiltins "enumerate"=some (.type "enumerate"):=by first | exact PySem.boot_enumerate | rfl
theorem xj5{X:Cx}{es:List Expr}{k:Nat}{tpos:Pos}{a:Expr}{ta:TA}{p pos:Pos}(hg:Gl X "enumerate")(hm:X.mg "enumerate"=none)(ha:PA X [a] ta)(hs:starEach [a] X.env=[(false,eval a X.env)]:=by rfl):PI X (.Tuple es k tpos) (.Call (.Name "enumerate" p) [a] [] pos) (iEnum X.K ta):=by
 intro pins s σ H R I h;refine Call_ (zv5 I hg hm boot_enumerate (wz5 (thn (ha pos pins s σ H _ I h) fun us s1 ⟨vs,H1,I1,r1,q1⟩=>?_) hs rfl));obtain⟨l,xs,e,hq,q⟩:=q1;subst e;cases r1 with
 | cons r rr=>
  cases rr;cases r;obtain⟨its,rv,pl,hz⟩:=I1.list hq;refine call_enumerate_list pl.isList fun h' he hit hsz kk=>?_;refine wpAny_pyIter_enum (s:={s1 with heap:=h'}) he ?_;have I2:Inv X pins σ H1 {s1 with heap:=h'}:=I1.kept (t':=s1.toks) kk;refine⟨s1.heap.objs.size+1,[s1.heap.objs.size+1,s1.heap.objs.size],_,_,H1,rfl,I2,xm5 l _ _ (Nat.succ_ne_self _),⟨⟨_,he⟩,hit⟩,fun b hb=>?_,q⟩;rcases ws5.mp hb with rfl | hb
  ·exact I1.fpOk (Nat.le_succ _) (I1.hok.fresh (Nat.le_succ _))
  ·have e:b=s1.heap.objs.size:=by simpa using hb
   subst e;exact I1.fpOk (wr5 _) (I1.hok.fresh (wr5 _))
theorem xd8{Q:Int->Shared->Prop}(h:Q 0xFCA86420 {s with toks:=s.toks+1}):wpAny (model prog w) A (pyHash .none) Q E s:=by
 unfold pyHash pyHashByItsType;have hv:[Value.none].any Value.onHeap=false:=rfl;refine wq8 ?_;rw[cRoomFor,wv5 (by rw[hv];exact wt2)];refine wr7 ?_;refine wq8 (vf1 (typeIs_none s) vh0.lookup ?_);show wpAny _ _ (if (some (Value.builtin "NoneType.__hash__") == some Value.none)=true then _ else _) Q E s;rw[wv5 (by rw[beq_builtin_none];exact wt2)];refine wq8 (vf1 (typeIs_none s) vh0.lookup ?_);show wpAny _ _ (callSpecialIfBoundUnlessNone? .none "__hash__" _ >>= _) Q E s;refine wq8 (wpAny_callSpecialIfBoundUnlessNone?_slot (typeIs_none s) vh0
  (ww9 vh0 (typeIs_none s) PySem.F.entry_NoneType_hash
   (show wpAny _ _ (do ret (←mkInt 0xFCA86420)) _ _ s from wpAny_ret_mkInt ?_) (PySem.F.args_NoneType_hash_1 _)))
 show wpAny _ _ (if (decide (-(2:Int) ^ 63<=0xFCA86420) && decide ((0xFCA86420:Int)<2 ^ 63))=true then _ else _) Q E _;rw[ww4 (by decide)];exact wr7 h
def xb1:Option Key->Value->Bool
 | some k,v=>zt0 k v
 | none,v=>match v with | .none=>true | _=>false
theorem zg8{v:Value}(h:xb1 none v=true):v=.none:=by
 cases v <;> first | rfl | (simp[xb1]at h)
theorem yj5{k:Key}:zt0 k .none=false:=by cases k <;> rfl
def keyHN(w:World):Option Key->Int
 | some k=>keyH w k
 | none=>0xFCA86420
def yg4(prog:Program)(w:World):PySem.KeyKind prog w (Option Key) where
 is:=xb1
 hash:=keyHN w
 inj:=fun v a b ha hb=>by
  cases a with
  | none=>
   have e:=zg8 ha;subst e;cases b with
   | none=>rfl
   | some b=>have hb:zt0 b .none=true:=hb;rw[yj5]at hb;cases hb
  | some a=>
   cases b with
   | none=>
    have e:=zg8 hb;subst e;have ha:zt0 a .none=true:=ha;rw[yj5]at ha;cases ha
   | some b=>exact wx5 some ((zc7 prog w).inj v a b ha hb)
 byValue:=fun k v h=>by
  cases k with
  | none=>rw[zg8 h];rfl
  | some k=>exact(zc7 prog w).byValue k v h
 pyHash:=fun {A E s k v Q} hv h=>by
  cases k with
  | none=>rw[zg8 hv];exact xd8 h
  | some k=>exact(zc7 prog w).pyHash (k:=k) hv h
 eqBool:=fun {A E s a b u v Q} hu hv h=>by
  cases a with
  | none=>
   have e:=zg8 hu;subst e;cases b with
   | none=>
    have e:=zg8 hv;subst e;have h:Q true s:=by simpa using h
    exact SeqAt.EqAt.same _ _ _ _ _ h
   | some b=>
    have h:Q false s:=by simpa using h
    rcases zd8 hv with ⟨i,t,rfl,rfl⟩ | ⟨x,t,rfl,rfl⟩
    ·exact SeqAt.EqAt.none_int _ _ _ _ _ _ h
    ·exact SeqAt.EqAt.none_str _ _ _ _ _ _ h
  | some a=>
   cases b with
   | none=>
    have e:=zg8 hv;subst e;have h:Q false s:=by simpa using h
    rcases zd8 hu with ⟨i,t,rfl,rfl⟩ | ⟨x,t,rfl,rfl⟩
    ·exact SeqAt.EqAt.int_none _ _ _ _ _ _ h
    ·exact SeqAt.EqAt.str_none _ _ _ _ _ _ h
   | some b=>exact(zc7 prog w).eqBool (a:=a) (b:=b) hu hv (by simpa using h)
 «strs»:=fun k x t v h=>by
  cases k with
  | none=>have:=zg8 h;cases this
  | some k=>exact(zc7 prog w).strs k x t v h
theorem wb0{prog:Program}{w:World}{h:Heap}{a:Addr}{vs:List (Key×Value)}(d:h.DictOf (zc7 prog w) a vs):h.MapOf (yg4 prog w) a (fun k=>k.bind (valueAt vs)):=by
 obtain⟨o,es,ep,e,c,dd,hk,hp,hn⟩:=d;refine⟨o,es,ep,e,c,dd,fun x hx=>?_,fun k=>?_⟩
 ·obtain⟨k,h1,h2⟩:=hk x hx;exact⟨some k,h1,h2⟩
 ·cases k with
  | none=>
   show findBy xb1 es none=none;unfold findBy;rw[Array.find?_eq_none.mpr]
   ·rfl
   ·intro x hx;obtain⟨k,h1,_⟩:=hk x hx;intro z;rw[zg8 z]at h1;have h1:zt0 k .none=true:=h1;rw[yj5]at h1;cases h1
  | some k=>
   have q:=(Heap.DictOf.mapOf (knd:=zc7 prog w) ⟨o,es,ep,e,c,dd,hk,hp,hn⟩);obtain⟨o',es',ep',e',_,dd',_,q⟩:=q;rw[e]at e';cases e';rw[dd]at dd';cases dd';exact q k
section
variable{o e f:Expr}{apos cpos:Pos}{td ty tx:TE}
def DAsk(H:Hp)(a:Addr)(y:V)(r:Option V):Prop:=∃kvs,Rd H a (.dK kvs)/\((y=.non/\r=none)∨∃k,y=kV k/\r=valV kvs k)
def tDAsk1(td ty:TE):TE:=fun σ H Q=>td σ H fun x H1=>∃a,x=.ref a/\IsD H1 a/\ty σ H1 fun y H2=>∃o,DAsk H2 a y o/\Q (o.getD .non) H2
def tDAsk2(td ty tx:TE):TE:=fun σ H Q=>td σ H fun x H1=>∃a,x=.ref a/\IsD H1 a/\ty σ H1 fun y H2=>tx σ H2 fun z H3=>∃o,DAsk H3 a y o/\Q (o.getD z) H3
theorem xv0(hu:X.A.units+1<cLine)(ho:PE X o td)(he:PE X e ty)(m:M1 X o "get" apos e cpos):PE X (.Call (.Attribute o "get" apos) [e] [] cpos) (tDAsk1 td ty):=by
 intro pins s σ H Q I h;refine vg3 m.base m.few m.line wz9 wz0 vm1 (thn (ho pins s σ H _ I h) fun u s1 ⟨x,H1,I1,rx,a,ex,d,q1⟩=>?_);subst ex;obtain rfl:u=Value.ref a:=rx;obtain⟨t1,t2,_⟩:=yf0 I1 d;refine⟨t1,t2,?_⟩;rw[m.trees];refine vb5 rfl (vd1 (wz6 (thn (he pins s1 σ H1 _ I1 q1) fun iv s2 ⟨y,H2,I2,ry,ov,g,q2⟩=>vd5 ?_)));obtain⟨kvs,er,g⟩:=g;rcases g with ⟨rfl,rfl⟩ | ⟨k,rfl,rfl⟩
 ·obtain rfl:iv=Value.none:=ry;obtain⟨z,hd,vs,rel,dd⟩:=yd6 I2.hok er;exact vj6 wz0 dd.typeIs vd4 (vp9 _ _) (meets_dict_get (yg4 X.prog X.w) a (k:=none) rfl hd) ⟨_,wb0 dd,⟨.non,H2,I2.tok _,rfl,q2⟩⟩
 ·exact wc2 hu I2 (.inl ⟨kvs,k,er,rfl,rfl⟩) ry fun w' s3 I3 rw'=>⟨_,H2,I3,rw',q2⟩
theorem xt5(hu:X.A.units+1<cLine)(ho:PE X o td)(he:PE X e ty)(hf:PE X f tx)(m:M2 X o "get" apos e f cpos):PE X (.Call (.Attribute o "get" apos) [e,f] [] cpos) (tDAsk2 td ty tx):=by
 intro pins s σ H Q I h;refine vg3 m.base m.few m.line wz9 wz0 vm1 (thn (ho pins s σ H _ I h) fun u s1 ⟨x,H1,I1,rx,a,ex,d,q1⟩=>?_);subst ex;obtain rfl:u=Value.ref a:=rx;obtain⟨t1,t2,_⟩:=yf0 I1 d;refine⟨t1,t2,?_⟩;rw[m.trees];refine vb5 rfl (vd1 (wz6 (thn (he pins s1 σ H1 _ I1 q1) fun iv s2 ⟨y,H2,I2,ry,q2⟩=>
  wz6 (thn (hf pins s2 σ H2 _ I2 q2) fun fv s3 ⟨z,H3,I3,rz,ov,g,q3⟩=>vd5 ?_))))
 obtain⟨kvs,er,g⟩:=g;rcases g with ⟨rfl,rfl⟩ | ⟨k,rfl,rfl⟩
 ·obtain rfl:iv=Value.none:=ry;obtain⟨_,hd,vs,rel,dd⟩:=yd6 I3.hok er;exact vj6 wz0 dd.typeIs vd4 (vq0 _ _ _) (meets_dict_get_default (yg4 X.prog X.w) a (k:=none) rfl hd fv) ⟨_,wb0 dd,⟨z,H3,I3.tok _,rz,q3⟩⟩
 ·exact wb4 hu I3 (.inl ⟨kvs,k,er,rfl,rfl⟩) ry rz fun w' s4 I4 rw'=>⟨_,H3,I4,rw',q3⟩
def tDSet(td ty tx:TE):TE:=fun σ H Q=>td σ H fun x H1=>∃a,x=.ref a/\IsD H1 a/\ty σ H1 fun y H2=>tx σ H2 fun z H3=>∃kvs k,H3 a=some (.dK kvs)/\y=kV k/\kvs.length<sizeLine/\
 (∀v,valV kvs k=some v->Q v H3)/\(valV kvs k=none->Q z (upd H3 a (.dK (putK kvs k z))))
theorem wq6(ho:PE X o td)(he:PE X e ty)(hf:PE X f tx)(m:M2 X o "setdefault" apos e f cpos):PE X (.Call (.Attribute o "setdefault" apos) [e,f] [] cpos) (tDSet td ty tx):=by
 intro pins s σ H Q I h;refine vg3 m.base m.few m.line wz9 PySem.F.slot_dict_setdefault PySem.F.type_dict_setdefault (thn (ho pins s σ H _ I h) fun u s1 ⟨x,H1,I1,rx,a,ex,d,q1⟩=>?_);subst ex;obtain rfl:u=Value.ref a:=rx;obtain⟨t1,t2,_⟩:=yf0 I1 d;refine⟨t1,t2,?_⟩;rw[m.trees];refine vb5 rfl (vd1 (wz6 (thn (he pins s1 σ H1 _ I1 q1) fun iv s2 ⟨y,H2,I2,ry,q2⟩=>
  wz6 (thn (hf pins s2 σ H2 _ I2 q2) fun fv s3 ⟨z,H3,I3,rz,kvs,k,er,ey,hl,g1,g2⟩=>vd5 ?_))))
 subst ey;obtain⟨hz,hd,vs,rel,dd⟩:=yj3 I3.hok er;have rv:=rel.val k;refine vj6 PySem.F.slot_dict_setdefault dd.typeIs PySem.F.entry_dict_setdefault (PySem.F.args_dict_setdefault_3 _ _ _) (kt_meets_setdefault (zc7 X.prog X.w) a (yg6 ry) hd fv) ⟨vs,dd,by rw[←rel.length];exact hz,fun v hv=>?_,fun hv h' dd' hs=>?_⟩
 ·rw[hv]at rv;cases q:valV kvs k with
  | none=>rw[q]at rv;exact False.elim rv
  | some v'=>rw[q]at rv;exact⟨v',H3,I3.tok _,rv,g1 v' q⟩
 ·rw[hv]at rv;cases q:valV kvs k with
  | some v'=>rw[q]at rv;exact False.elim rv
  | none=>
   have he:∃q,h'.get? a=some q:=let ⟨q,_,_,hq,_⟩:=dd';⟨q,hq⟩
   have hl2:(putK kvs k z).length<=sizeLine:=by have:=zg7 kvs k z;lia
   exact⟨z,_,zn9 I3 (by rw[er];exact vj4) hs he (ym6 hl2 hd (rel.put k rz) dd'),rz,g2 q⟩
end
theorem wm0{xs:List V}:∀{us:List Value},xs.length=us.length->(∀(i:Nat) x u,xs[i]?=some x->us[i]?=some u->RelV x u)->Vals xs us:=by
 induction xs with
 | nil=>intro us hl h;cases us with
  | nil=>exact .nil
  | cons _ _=>simp at hl
 | cons x xs ih=>intro us hl h;cases us with
  | nil=>simp at hl
  | cons u us=>exact .cons (h 0 x u rfl rfl) (ih (by simpa using hl) fun i x u h1 h2=>h (i+1) x u (by simpa using h1) (by simpa using h2))
theorem zq1(hc:X.calm=true):CallR X (.type "list") (fun xs H Q=>∃p kvs,xs=[.ref p]/\Rd H p (.dK kvs)/\∀l,H l=none->Q (.ref l) (upd H l (.lst (kvs.map fun kv=>kV kv.1)))):=by
 intro pins s σ H xs us Q I r h;obtain⟨p,kvs,rfl,er,q⟩:=h;obtain⟨u,rfl,rx⟩:=zq8 r;cases rx;obtain⟨hz,hsys,hd⟩:=yd6 I.hok er;obtain⟨o,ho⟩:∃o,s.heap.get? p=some o:=by obtain⟨vs,_,o,_,_,e,_⟩:=hd;exact⟨o,e⟩
 obtain⟨vs,ep,rel,hat⟩:=zr3 ho hd;have hlen:=rel.length;refine PySem.W.kdl_call (PySem.W.kdl_dict (knd:=zc7 X.prog X.w) (kvs:=vs) (ep:=ep) (d:=p) hsys) (I.ok.hd hc) (hat _ ho) (by lia) fun h' tk acc c' kp e hacc=>?_
 refine⟨.ref s.heap.objs.size,_,I.laid (t':=tk) kp (wr5 _) (show ObjOk X.prog X.w _ h' _ (.lst (kvs.map fun kv=>kV kv.1)) from ⟨by rw[lqm];exact hz,acc.toList,c',?_,by simpa using e⟩),rfl,q _ (I.hok.fresh (wr5 _))⟩;refine wm0 (by have h1:=hacc.1;have h2:acc.toList.length=acc.size:=ww1;rw[lqm];lia) fun i x u h1 h2=>?_
 obtain⟨k,y,hy,hk⟩:=hacc.2 i u (by rw[←vf0];exact h2);obtain⟨v',hv',_⟩:=rel.get hy;rw[wr3,hv']at h1;cases h1;rcases zd8 hk with ⟨n,t,rfl,rfl⟩ | ⟨n,t,rfl,rfl⟩
 ·exact⟨t,rfl⟩
 ·exact⟨t,rfl⟩
theorem yq8{prog:Program}{w:World}{A:Around}{bs:List Bool}{its:List Value}(r:Vals (bs.map V.bl) its):TruthOf prog w A (fun i v=>its.toArray[i]?=some v) (fun i=>bs.getD i false):=by
 intro i v s Q E hv hq;have hv:its[i]?=some v:=by simpa using hv
 have hl:=r.length;rw[lqm]at hl;obtain⟨hi,_⟩:=wr1.mp hv;have hb:bs[i]?=some bs[i]:=wq9 (by lia);obtain⟨u,hu,ru⟩:=r.get (i:=i) (x:=V.bl bs[i]) (by rw[wr3,hb];rfl);rw[hv]at hu;cases hu;obtain rfl:v=Value.bool bs[i]:=ru;have e:bs.getD i false=bs[i]:=by rw[vd3,hb];rfl
 have hq:Q (bs.getD i false) s:=hq;rw[e]at hq;exact vj1 hq
theorem xs0(bs:List Bool):(List.range bs.length).any (fun i=>bs.getD i false)=bs.any id:=by
 rw[vd9];simp only[vk3,List.mem_range]
 constructor
 ·rintro⟨i,hi,h⟩;refine⟨bs[i],ww5 hi,?_⟩;rw[vd3,wq9 hi]at h;exact h
 ·rintro⟨b,hb,h⟩;obtain⟨i,hi,e⟩:=vc0 hb;refine⟨i,hi,?_⟩;rw[vd3,wq9 hi,e];exact h
theorem xx7(hc:X.calm=true):CallR X (.builtin "any") (fun xs H Q=>∃(p:Addr)(bs:List Bool),xs=[.ref p]/\SqL X.K H p (bs.map V.bl)/\Q (.bl (bs.any id)) H):=by
 intro pins s σ H xs us Q I r h;obtain⟨p,bs,rfl,hq,q⟩:=h;obtain⟨u,rfl,rx⟩:=zq8 r;cases rx;obtain⟨its,rv,pl,hz⟩:=I.list hq;have hl:=rv.length;rw[lqm]at hl;obtain⟨o,ho,_⟩:=id pl.isList;refine call_any_walk (wpAny_pyIter_list pl.isList ?_);have hne:p≠s.heap.objs.size:=ws6 (ws1 ho);have I1:Inv X pins σ H {s with heap:=s.heap.push {cls:=.type "list_iterator",data:=.fields #[.ref p,.int 0 0]}}:=I.kept (t':=s.toks) fun b o e=>wr4 _ e;refine⟨_,_,_,_,_,_,_,rfl,Walks.list (A:=X.A.in1) (I.ok.hd hc) _ p hne its.toArray,⟨⟨_,wt0 _ rfl,rfl,rfl⟩,pl.isList.at fun o e=>wr4 _ e⟩,yq8 rv,fun h' tk kk=>?_⟩;rw[ws9,←hl,xs0];refine⟨.bl _,H,I1.turned (t':=tk) (fun b o hb e=>kk b o (by simpa using hb) e) (I.hok.fresh (wr5 _)) (wv9 I.lt) (.inr I.sz) (fun x c e z=>?_) (fun p hp z=>?_),rfl,q⟩
 ·obtain⟨v,q⟩:=I.cell x c e;exact absurd q.lt (by rw[z];exact vb6 _)
 ·exact absurd (ws1 (I.pin p hp).1) (by rw[z];exact vb6 _)
theorem wm5{ss:List Str}{its:List Value}(r:Vals (ss.map V.str) its):StrsAre its ss:=by
 induction ss generalizing its with
 | nil=>cases r;exact .nil
 | cons x ss ih=>
  cases r with
  | cons h t=>obtain⟨tk,rfl⟩:=h;exact .cons _ _ (ih t)
theorem xg2{ss:List Str}{its:List Value}(r:StrsAre its ss):Vals (ss.map V.str) its:=by
 induction r with
 | nil=>exact .nil
 | cons _ _ _ ih=>exact .cons ⟨_,rfl⟩ ih
theorem zp1:CallR X (.builtin "sorted") (fun xs H Q=>∃(p:Addr)(ss:List Str),xs=[.ref p]/\SqL X.K H p (ss.map V.str)/\ss.length<64/\∀(l:Addr)(ss':List Str),H l=none->ss'.Perm ss->sortedS ss'=true->Q (.ref l) (upd H l (.lst (ss'.map V.str)))):=by
 intro pins s σ H xs us Q I r h;obtain⟨p,ss,rfl,hq,h64,q⟩:=h;obtain⟨u,rfl,rx⟩:=zq8 r;cases rx;obtain⟨its,rv,pl,hz⟩:=I.list hq;have hl:=rv.length;rw[lqm]at hl;refine sorted_strs pl.isList (wm5 rv) (by lia) fun out ss' h1 h2 h3=>?_
 obtain⟨e,he⟩:=sortedAll_at s.heap its out;refine⟨.ref (s.heap.objs.size+1),_,I.laid (t':=s.toks) (fun b o e=>sortedAll_old e) (Nat.le_succ _) (show ObjOk X.prog X.w _ _ _ (.lst (ss'.map V.str)) from ⟨?_,out.toList,e,xg2 h1,by simpa [seqObj]using he⟩),rfl,q _ _ (I.hok.fresh (Nat.le_succ _)) h2 h3⟩;rw[lqm,h2.length_eq];rw[lqm]at hz;exact hz
theorem zr5{prog:Program}{w:World}{A:Around}{R:Result->Shared->Prop}{s:Shared}{kx vx target iter:Expr}{ifs:List Expr}{scope:Scope}{pos:Pos}{it:Value}{DD:Addr}{env:Env}(I:Nat->Shared->Prop)
  (turn:∀n s,I n s->wpAny (model prog w) A (pyNext it) (fun r s₁=>match r with
   | none=>R (.ok .next) s₁
   | some v=>wpAny (model prog w) A (letOwnedTupleGo target it v) (fun _ s₁=>wpAny (model prog w) A (assign target env v) (fun _ s₂=>
     wpAny (model prog w) A (forIn ifs true fun c r=>if r=true then do let ok ←isTrue c env (eval c env);pure (ForInStep.yield ok) else pure (ForInStep.yield r)) (fun ok s₃=>
      if ok=true then wpAny (model prog w) A (eval kx env) (fun kv s₄=>wpAny (model prog w) A (eval vx env) (fun vv s₅=>
       wpAny (model prog w) A (dictSet DD kv vv) (fun _ s₆=>∃m,m<n/\I m s₆) (fun _ _=>False) s₅) (fun _ _=>False) s₄) (fun _ _=>False) s₃
      else ∃m,m<n/\I m s₃) (fun _ _=>False) s₂) (fun _ _=>False) s₁) (fun _ _=>False) s₁) (fun _ _=>False) s)
  (n:Nat) (h:I n s):
  codeAny (model prog w) A (.compLoop (.DictComp kx vx [⟨target,iter,ifs,0⟩] scope pos) 0 it (.ref DD) env) R s:=by
 refine codeAny_loop rfl I (fun n s hI=>?_) n h;show wpAny _ A ((compTurn (.DictComp kx vx [⟨target,iter,ifs,0⟩] scope pos) 0 it (.ref DD) env).onRaise (fun x=>do noteFrame x env;theTreesLotGoes x)) _ _ s;refine wpAny_noted ?_;rw[compTurn_dict];refine wq8 (vj8 (wq8 (wz4 (turn n s hI) (fun r s₁ h₁=>?_) fun _ _ h'=>h'.elim)));cases r with
 | none=>exact wr7 h₁
 | some v=>
  refine wq8 (wz4 h₁ (fun _ s₁ h₁=>?_) fun _ _ h'=>h'.elim);refine wq8 (wz4 h₁ (fun _ s₂ h₂=>wq8 (wz4 h₂ (fun ok s₃ h₃=>?_) fun _ _ h'=>h'.elim)) fun _ _ h'=>h'.elim);cases ok with
  | false=>exact wr7 ⟨rfl,h₃⟩
  | true=>
   exact wq8 (wq8 (wz4 h₃ (fun kv s₄ h₄=>wq8 (wx2 (wz4 h₄ (fun vv s₅ h₅=>wq8 (vj8 (wx2 (wz4 h₅ (fun _ s₆ h₆=>wr7 ⟨rfl,h₆⟩) fun _ _ h'=>h'.elim)))) fun _ _ h'=>h'.elim))) fun _ _ h'=>h'.elim))
def yx9(J:It)(g:TG)(tt:TT)(tk te:TE)(D:Addr)(σ0:St)(H0:Hp)(Q:Hp->Prop):Prop:=
 ∃W:Nat->Nat->St->Hp->Prop,(∃m,W 0 m σ0 H0)/\∀i m σ H,W i m σ H->
 (J.stop i H/\Q H)∨(J.go i H/\∃N:St->Hp->Prop,(∀σ' H',N σ' H'->∃m',m'<m/\W (i+1) m' σ' H')/\∀x H',J.yld i H x H'->g x σ H' fun σ2 H2=>tt σ2 H2 fun b H3=>
  if b=true then tk σ2 H3 fun kx H4=>te σ2 H4 fun v H5=>∃kvs k,kx=kV k/\H5 D=some (.dK kvs)/\kvs.length<sizeLine/\N σ2 (upd H5 D (.dK (putK kvs k v))) else N σ2 H3)
section
variable{scope:Scope}{N':List Str}{src:List (Option Nat)}{pins:List (Addr×Obj)}{σ:St}{H2:Hp}{s2:Shared}
theorem zz5{kx vx tg iter:Expr}{ifs:List Expr}{pos:Pos}{it:Addr}{fp:List Addr}{tn:Nat->Heap->Prop}{J:It}{g:TG}{tt:TT}{tkx te:TE}{Q:Addr->Hp->Prop}
  {RR:Value->Addr->Result->Shared->Prop} {E:Value->Shared->Prop} (hc:X.calm=true)
  (B:BlkN X scope N' src) (hnl:∀x k,(x,k)∈scope.names->k=.free->∀k',(x,k')∈scope.names->k'=.free) (T:Turn X.prog X.w X.K tg J fp it tn) (I:Inv X pins σ H2 s2) (h0:tn 0 s2.heap) (hf:∀b∈fp,FpOk X pins H2 b)
  (hg:∀s3 H3 C,PG (blk X scope N' s3 H3 C fp) tg g) (ht:∀s3 H3 C,PTs (blk X scope N' s3 H3 C fp) ifs tt) (hk:∀s3 H3 C,PE (blk X scope N' s3 H3 C fp) kx tkx) (he:∀s3 H3 C,PE (blk X scope N' s3 H3 C fp) vx te)
  (hw:∀D,H2 D=none->yx9 J g tt tkx te D (sub src σ) (upd H2 D (.dK [])) (Q D))
  (hQ:∀D C H' s',C≠D->(∃m,s'.heap.Ns C m)->(∀h'' ,Heap.SameBut C s'.heap h''->Inv X pins σ H' {s' with heap:=h''})->Inv X pins σ H' s'->H' C=none->C≠X.env.locals->(∀x c,X.env.cells.lookup x=some c->c≠C)->X.s₀.heap.objs.size<=C->(∀p∈X.pn++pins,p.1≠C)->Q D H'->RR (.ref D) C (.ok .next) s'):
  wpAny (model X.prog X.w) X.A (newDict) (fun acc s₃=>wpAny (model X.prog X.w) X.A (newFunctionEnv scope X.env.globals (clOf X.env scope.names) [] X.env.qual none .none (some X.env)) (fun cenv s₄=>
   codeAny (model X.prog X.w) X.A (.compStart (.DictComp kx vx [⟨tg,iter,ifs,0⟩] scope pos) 0 (.ref it) acc {cenv with scope:=relabel scope X.env}) (RR acc cenv.locals) s₄) E s₃) E s2:=by
 have hcell:∀y∈scope.names,y.2≠.cell:=fun y hy=>ws0 (ww0.mp B.nocell y hy);refine wx0 (wpAny_newFunctionEnv hcell (by intro y hy;simp at hy) (fun h₁ hns₁ hsb₁=>?_) B.kind);dsimp only at hns₁ hsb₁ ⊢;have hDn:H2 s2.heap.objs.size=none:=I.hok.fresh (wr5 _);have I3:Inv X pins σ (upd H2 s2.heap.objs.size (.dK [])) {s2 with heap:=s2.heap.push {cls:=.type "dict",data:=.dict #[]}}:=
  I.laid (t':=s2.toks) (fun b o e=>wr4 _ e) (wr5 _) (yg7 s2.heap I.big)
 generalize hH3:(s2.heap.push {cls:=.type "dict",data:=.dict #[]})=hp3 at hns₁ hsb₁ I3 ⊢;have hsz3:hp3.objs.size=s2.heap.objs.size+1:=by rw[←hH3,Heap.size_push]
 have keep23:∀b o,s2.heap.get? b=some o->hp3.get? b=some o:=fun b o e=>by rw[←hH3];exact wr4 _ e
 have keep34:∀b o,hp3.get? b=some o->h₁.get? b=some o:=fun b o e=>hsb₁.extBut b o (ws6 (ws1 e)) (wr4 _ e);have hDlt:s2.heap.objs.size<hp3.objs.size:=by rw[hsz3];exact Nat.lt_succ_self _
 have hf3:∀b∈fp,FpOk X pins (upd H2 s2.heap.objs.size (.dK [])) b:=fun b hb=>by
  obtain⟨o,e,_⟩:=T.obj _ _ h0 b hb;refine⟨?_,(hf b hb).2⟩;rw[zb5 (ws6 (ws1 e))];exact(hf b hb).1
 have hlt3:∀b∈fp,b<hp3.objs.size:=fun b hb=>by
  obtain⟨o,e,_⟩:=T.obj _ _ h0 b hb;exact wz2 (ws1 e) hDlt
 have hIb:=yc9 (fp:=fp) (C:=hp3.objs.size) (s4:={s2 with heap:=h₁,toks:=s2.toks+([]:List (Str×Value)).length}) B I3 hf3 hlt3 hnl rfl hns₁ keep34 rfl rfl;have h04:tn 0 h₁:=T.keep _ _ _ h0 fun b hb o e=>keep34 b o (keep23 b o e);obtain⟨W,⟨m0,w0⟩,turn⟩:=hw s2.heap.objs.size hDn;have frB:∀{H':Hp},(∀b∈fp,H' b=none)->∀b∈fp,FpOk (blk X scope N' {s2 with heap:=hp3} (upd H2 s2.heap.objs.size (.dK [])) hp3.objs.size fp) [] H' b:=fun hn b hb=>by
  refine⟨hn b hb,ws6 (hlt3 b hb),?_,.inl hb,fun x c h=>(hf b hb).2.2.2.2.1 x c (B.back I.ok h).1,fun p hp=>absurd (show p∈([]:List (Addr×Obj)) from hp) (by simp)⟩;intro z;rcases ws5.mp (I3.stkSub b z)with y | y
  ·exact(hf b hb).2.1 y
  ·exact(hf b hb).2.2.1 y
 have fin:∀(s':Shared)(σ':St)(H':Hp),Inv (blk X scope N' {s2 with heap:=hp3} (upd H2 s2.heap.objs.size (.dK [])) hp3.objs.size fp) [] σ' H' s'->Q s2.heap.objs.size H'->RR (.ref s2.heap.objs.size) hp3.objs.size (.ok .next) s':=fun s' σ' H' J' q=>by
  obtain⟨hh,gg,dd,tt',os'⟩:=s';have eos:os'=s2.os:=J'.os;subst eos;have IX:Inv X pins σ H' {({s2 with heap:=hp3}:Shared)with heap:=hh,gens:=gg,drawn:=dd,toks:=tt'}:=Inv.call (s:={s2 with heap:=hp3}) I3 (h':=hh) (g':=gg) (d':=dd) (t':=tt') (ch:=fp) J'.base J'.hok J'.bare fun b hb=>⟨(hf b hb).2.2.2.1,(hf b hb).2.1,(hf b hb).2.2.2.2.1,(hf b hb).2.2.2.2.2⟩;have hCs:s2.heap.objs.size<=hp3.objs.size:=ws3 hDlt;have hCL:hp3.objs.size≠X.env.locals:=wv9 I3.lt;have hCc:∀x c,X.env.cells.lookup x=some c->c≠hp3.objs.size:=fun x c e z=>by
   obtain⟨v,q⟩:=I3.cell x c e;exact absurd (show c<hp3.objs.size from q.lt) (by rw[z];exact vb6 _)
  have hCp:∀p∈X.pn++pins,p.1≠hp3.objs.size:=fun p hp z=>by
   have:=ws1 (I3.pin p hp).1;exact absurd (show p.1<hp3.objs.size from this) (by rw[z];exact vb6 _)
  have hCh:H' hp3.objs.size=none:=J'.free;obtain⟨m,hm,_⟩:=J'.loc;refine hQ _ _ H' _ (wv9 hDlt) ⟨m,hm⟩ (fun h'' sb=>?_) IX hCh hCL hCc (wx6 I3.sz (wr5 _)) hCp q;exact IX.turned (t':=tt') (fun b o hb e=>(sb.2 b hb).trans e) hCh hCL (.inr (wx6 I3.sz (wr5 _))) hCc hCp
 have loop:∀s₃:Shared,s₃={s2 with heap:=h₁,toks:=s2.toks+([]:List (Str×Value)).length}->
   codeAny (model X.prog X.w) X.A (.compLoop (.DictComp kx vx [⟨tg,iter,ifs,0⟩] scope pos) 0 (.ref it) (.ref s2.heap.objs.size) (compEnvC scope (clOf X.env scope.names) hp3.objs.size X.env))
    (RR (.ref s2.heap.objs.size) hp3.objs.size) s₃:=by
  rintro s₃ rfl;refine zr5 (fun n s'=>∃i σ' H',Inv (blk X scope N' {s2 with heap:=hp3} (upd H2 s2.heap.objs.size (.dK [])) hp3.objs.size fp) [] σ' H' s'/\tn i s'.heap/\(∀b∈fp,H' b=none)/\W i n σ' H') ?_ m0 ⟨0,_,_,hIb,h04,fun b hb=>(hf3 b hb).1,w0⟩;rintro n s5 ⟨i,σ5,H5,I5,st5,fr5,w5⟩;rcases turn i n σ5 H5 w5 with ⟨stop,qn⟩ | ⟨go,Nx,hN,step⟩
  ·refine thn (T.done (blk X scope N' {s2 with heap:=hp3} (upd H2 s2.heap.objs.size (.dK [])) hp3.objs.size fp) rfl rfl rfl hc i [] s5 σ5 H5 _ I5 (frB fr5) st5 stop) fun r s6 ⟨hr,I6⟩=>?_;subst hr;exact fin s6 σ5 H5 I6 qn
  ·refine thn (T.item (blk X scope N' {s2 with heap:=hp3} (upd H2 s2.heap.objs.size (.dK [])) hp3.objs.size fp) rfl rfl rfl hc i [] s5 σ5 H5 _ I5 (frB fr5) st5 go) fun r s6 ⟨u,hr,h6⟩=>?_;subst hr;refine thn h6 fun _ s7 ⟨x,H7,I7,r7,y7,st7,fr7⟩=>?_;have I7':=I7.pinned (frB fr7) (T.obj _ _ st7);refine thn (hg _ _ _ _ s7 σ5 H7 x u _ I7' r7 (step x H7 y7)) fun _ s8 ⟨σ8,H8,I8,q8⟩=>?_;refine thn (ht _ _ _ _ s8 σ8 H8 _ I8 q8) fun ok s9 ⟨H9,I9,q9⟩=>?_;have again:∀{σa:St}{Ha:Hp}{sa:Shared},Inv (blk X scope N' {s2 with heap:=hp3} (upd H2 s2.heap.objs.size (.dK [])) hp3.objs.size fp) ([]++yd2 fp s7.heap) σa Ha sa->Nx σa Ha->
     ∃m,m<n/\∃i σ' H',Inv (blk X scope N' {s2 with heap:=hp3} (upd H2 s2.heap.objs.size (.dK [])) hp3.objs.size fp) [] σ' H' sa/\tn i sa.heap/\(∀b∈fp,H' b=none)/\W i m σ' H':=fun {σa Ha sa} Ia na=>by
    obtain⟨m',hm,wa⟩:=hN σa Ha na;refine⟨m',hm,i+1,σa,Ha,Ia.unpinned,T.keep _ _ _ st7 fun b hb o e=>(Ia.pin (b,o) (wv4 _ (wv4 _ (zj5 hb e)))).1,fun b hb=>?_,wa⟩;obtain⟨o,e,d⟩:=T.obj _ _ st7 b hb;exact(Ia.pin (b,o) (wv4 _ (wv4 _ (zj5 hb e)))).2.1
   cases ok with
   | false=>exact again I9 q9
   | true=>
    refine thn (hk _ _ _ _ s9 σ8 H9 _ I9 q9) fun kv s9' ⟨kk,H9',I9',rk,q9'⟩=>?_;refine thn (he _ _ _ _ s9' σ8 H9' _ I9' q9') fun y s10 ⟨v,H10,I10,r10,kvs,k,ek,hx,hl,q10⟩=>?_;subst ek;obtain⟨z,hd,vs,rel,dd⟩:=yj3 I10.hok hx;have hz:vs.length<=sizeLine:=by rw[←rel.length];exact z
    have hl2:(putK kvs k v).length<=sizeLine:=by have:=zg7 kvs k v;lia
    refine wpAny_dictSet_pairs (knd:=zc7 X.prog X.w) (hsz:=hz) (yg6 rk) dd fun h' dd' hs=>?_;have he':∃q,h'.get? s2.heap.objs.size=some q:=let ⟨q,_,_,hq,_⟩:=dd';⟨q,hq⟩
    have I11:=zn9 (t':=s10.toks+1) I10 (by rw[hx];exact vj4) hs he' (ym6 hl2 hd (rel.put k r10) dd');exact again I11 q10
 exact codeAny_compStart_dict (loop _ rfl) (T.self _ 0 _ _ _ h04 (loop _ rfl))
def wb3(wi:TI)(src:List (Option Nat))(g:TG)(tt:TT)(tkx te:TE):TE:=fun σ H Q=>wi σ H fun J H2=>∀D,H2 D=none->yx9 J g tt tkx te D (sub src σ) (upd H2 D (.dK [])) fun H'=>Q (.ref D) H'
theorem xs9{kx vx tg iter:Expr}{ifs:List Expr}{pos:Pos}{wi:TI}{g:TG}{tt:TT}{tkx te:TE}(hc:X.calm=true)(B:BlkN X scope N' src)(hi:PI X tg iter wi)
  (hg:∀s3 H3 C fp,PG (blk X scope N' s3 H3 C fp) tg g) (ht:∀s3 H3 C fp,PTs (blk X scope N' s3 H3 C fp) ifs tt) (hk:∀s3 H3 C fp,PE (blk X scope N' s3 H3 C fp) kx tkx) (he:∀s3 H3 C fp,PE (blk X scope N' s3 H3 C fp) vx te)
  (hnl:(scope.names.all fun y=>decide (y.2=.free->∀z∈scope.names,z.1=y.1->z.2=.free))=true:=by decide +kernel)
  (hs:∀x,foldedSetIterable iter X.env x=pure x:=by intro _;rfl):
  PE X (.DictComp kx vx [⟨tg,iter,ifs,0⟩] scope pos) (wb3 wi src g tt tkx te):=by
 intro pins s σ H Q I h;have hnl':∀x k,(x,k)∈scope.names->k=.free->∀k',(x,k')∈scope.names->k'=.free:=fun x k hm hk k' hm'=>ws0 (ww0.mp hnl (x,k) hm) hk (x,k') hm' rfl;have hclos:closureFor scope X.env=pure (clOf X.env scope.names):=zj7 fun y hy hf=>I.ok.has y.1 (ws0 (ww0.mp B.frees y hy) hf);have hnames:∀y∈scope.names,y.2=.local->scope.names.lookup y.1=some .local:=fun y hy=>ws0 (ww0.mp B.locs y hy);rw[arm_eval_DictComp];refine vf5 (use:=none) rfl hs hclos B.kind hnames (thn (hi pins s σ H _ I h) fun xv s₁ h₁=>thn h₁ fun itv s2 h2=>?_);obtain⟨it,fp,tn,J,H2,rfl,I2,T,h0,hf,hw⟩:=h2;refine zz5 (RR:=fun acc C=>compPost (model X.prog X.w) X.A X.xe none (EP X pins σ Q) acc C) (Q:=fun D H'=>Q (.ref D) H') hc B hnl' T I2 h0 hf (fun a b c=>hg a b c fp) (fun a b c=>ht a b c fp) (fun a b c=>hk a b c fp) (fun a b c=>he a b c fp) hw ?_;intro D C H' s' hCD hm hsb IX hCh hCL hCc hCs hCp q;obtain⟨m,hm⟩:=hm;exact⟨m,hm,fun h'' sb=>⟨.ref D,H',hsb h'' sb,rfl,q⟩⟩
theorem yv1{kx vx tg iter:Expr}{ifs:List Expr}{pos spos py:Pos}{wi:TI}{g:TG}{tt:TT}{tkx te:TE}{i:Nat}{y:Str}(hc:X.calm=true)(hN:X.N.Nodup)(hi':X.N[i]?=some y)(hy:X.env.scope.names.lookup y=some .local)(B:BlkN X scope N' src)(hi:PI X tg iter wi)
  (hg:∀s3 H3 C fp,PG (blk X scope N' s3 H3 C fp) tg g) (ht:∀s3 H3 C fp,PTs (blk X scope N' s3 H3 C fp) ifs tt) (hk:∀s3 H3 C fp,PE (blk X scope N' s3 H3 C fp) kx tkx) (he:∀s3 H3 C fp,PE (blk X scope N' s3 H3 C fp) vx te)
  (hsw:swapsWith (.DictComp kx vx [⟨tg,iter,ifs,0⟩] scope pos) (some (.Name y py)) spos.line X.env=pure true:=by rfl)
  (hnl:(scope.names.all fun y=>decide (y.2=.free->∀z∈scope.names,z.1=y.1->z.2=.free))=true:=by decide +kernel)
  (hs:∀x,foldedSetIterable iter X.env x=pure x:=by intro _;rfl):
  PS X (.Assign [.Name y py] (.DictComp kx vx [⟨tg,iter,ifs,0⟩] scope pos) spos) (tAsg (wb3 wi src g tt tkx te) (zd9 i)):=by
 intro pins s σ H D I h;have hnl':∀x k,(x,k)∈scope.names->k=.free->∀k',(x,k')∈scope.names->k'=.free:=fun x k hm hk k' hm'=>ws0 (ww0.mp hnl (x,k) hm) hk (x,k') hm' rfl;have hclos:closureFor scope X.env=pure (clOf X.env scope.names):=zj7 fun y hy hf=>I.ok.has y.1 (ws0 (ww0.mp B.frees y hy) hf);have hnames:∀y∈scope.names,y.2=.local->scope.names.lookup y.1=some .local:=fun y hy=>ws0 (ww0.mp B.locs y hy);rw[exec_Assign_Name_used _ _ _ _ hsw];refine wq8 (vj8 (wq8 ?_));show wpAny _ X.A (do let _ ←comprehension (.DictComp kx vx [⟨tg,iter,ifs,0⟩] scope pos) scope X.env _ (newDict) false (eval iter X.env) (some (assign (.Name y py) X.env))) _ _ s;have h':wi σ H fun J H2=>∀D',H2 D'=none->yx9 J g tt tkx te D' (sub src σ) (upd H2 D' (.dK [])) fun H'=>D.nx (σ.set i (some (.ref D'))) H':=h;refine wq8 (wz4 (vf5 (use:=some (assign (.Name y py) X.env)) (Q:=fun _ s'=>SP X pins D .next s') rfl hs hclos B.kind hnames
  (thn (hi pins s σ H _ I h') fun xv s₁ h₁=>thn h₁ fun itv s2 h2=>?_)) (fun _ s' hq=>wr7 (wr7 hq)) fun _ _ e=>e)
 obtain⟨it,fp,tn,J,H2,rfl,I2,T,h0,hf,hw⟩:=h2;refine zz5 (RR:=fun acc C=>compPost (model X.prog X.w) X.A X.xe (some (assign (.Name y py) X.env)) (fun _ s'=>SP X pins D .next s') acc C) (Q:=fun D' H'=>D.nx (σ.set i (some (.ref D'))) H') hc B hnl' T I2 h0 hf (fun a b c=>hg a b c fp) (fun a b c=>ht a b c fp) (fun a b c=>hk a b c fp) (fun a b c=>he a b c fp) hw ?_;intro D' C H' s' hCD hm hsb IX hCh hCL hCc hCs hCp q;obtain⟨m,hm⟩:=hm;show wpAny _ X.A (assign (.Name y py) X.env (.ref D')) _ _ _;refine wpAny_assign_Name ?_;refine zz4 (v:=.ref D') IX hN hi' (.inl hy) rfl (fun s'' I'' hsame=>?_) (.inr hy);obtain⟨a,hs',ha⟩:=hsame;have hCa:C≠a:=by
  rintro rfl;rcases ha with z | z
  ·exact hCL z
  ·exact hCc _ _ z rfl
 refine⟨m,hm.sameBut hs' hCa,fun h'' sb=>⟨_,H',?_,q⟩⟩;exact I''.turned (t':=s''.toks) (fun b o hb e=>(sb.2 b hb).trans e) hCh hCL (.inr hCs) hCc hCp
end
def Itd(hi:Int)(n:Nat):It:=⟨fun i _=>i<n,fun i H x H'=>H'=H/\x=.int (hi-i),fun i _=>n<=i⟩
theorem xj1{P:Program}{w:World}{K:PySem.W.Frag}{tg:Expr}(it:Addr)(hi:Int)(n:Nat):Turn P w K tg (Itd hi n) [it] it (fun i h=>IsRangeIter h it (hi+(i:Nat)*-1) ((n:Int)-(i:Nat)) (-1)) where
 mem:=by simp
 obj:=fun i h st b hb=>by
  have e:b=it:=by simpa using hb
  subst e;exact⟨_,st,fun v z=>by
   have z':Data.fields _=Data.cell v:=z;cases z'⟩
 keep:=fun i h h' st k=>k it (by simp) _ st
 item:=by
  intro X hP hw hK hc i pins s σ H E I hf st hg;subst hP hw hK;obtain⟨f0,f1,f2,f3,f4,f5⟩:=hf it (by simp);have W:=Walks.range (prog:=X.prog) (w:=X.w) (I.ok.hd hc) it hi (-1) n;refine W.item i s _ _ hg st fun v h' tk hv st' kk=>?_;obtain⟨t,rfl⟩:=hv;have I1:Inv X pins σ H {s with heap:=h',toks:=tk}:=I.turned (fun b o hb e=>kk b o (by simpa using hb) e) f0 f1 f3 f4 f5;refine⟨_,rfl,ys7 (s:={s with heap:=h',toks:=tk}) (n:="range_iterator") st' rfl rfl (by decide) ⟨.int (hi-i),H,I1,⟨t,?_⟩,⟨rfl,rfl⟩,st',fun b hb=>(hf b hb).1⟩⟩;have e:hi+(i:Int)*-1=hi-i:=by lia
  rw[e]
 done:=by
  intro X hP hw hK hc i pins s σ H E I hf st hg;subst hP hw hK;obtain⟨f0,f1,f2,f3,f4,f5⟩:=hf it (by simp);exact wpAny_pyNext_range_end (I.ok.hd hc) st (by have:n<=i:=hg;lia) fun h' eb=>⟨rfl,I.turned (t':=s.toks) (fun b o hb e=>eb b o hb e) f0 f1 f3 f4 f5⟩
 self:=fun _ _ _ _ _ st h=>wpAny_pyIter_rangeiter st h
theorem xd5{a b:Int}(ha:-(2 ^ 30)<=a)(ha':a<2 ^ 30)(hb:-(2 ^ 30)<=b)(hb':b<2 ^ 30):Builtin.Range.small a b (-1)=true:=by
 unfold Builtin.Range.small;have e:Builtin.Range.rangeSize a b (-1)=if a > b then a-b else 0:=by
  unfold Builtin.Range.rangeSize;simp only[show ¬((-1:Int) > 0) by decide,vg9,show -(-1:Int)=1 by decide,Int.ediv_one]
  split <;> lia
 rw[e];simp only[Builtin.Range.rangeFitsLong,vh3,Bool.or_eq_true,decide_eq_true_eq,beq_iff_eq,show ¬((-1:Int) > 0) by decide,vg9]
 split <;> lia
def iDown(ta:TA):TI:=fun σ H R=>ta σ H fun vs H1=>∃i j:Int,vs=[.int i,.int j,.int (-1)]/\(-(2 ^ 30)<=i/\i<2 ^ 30/\-(2 ^ 30)<=j/\j<2 ^ 30)/\R (Itd i (i-j).toNat) H1
theorem wk2{X:Cx}{tg a b c:Expr}{ta:TA}{p pos:Pos}(hg:Gl X "range")(hm:X.mg "range"=none)(ha:PA X [a,b,c] ta)(hs:starEach [a,b,c] X.env=[(false,eval a X.env),(false,eval b X.env),(false,eval c X.env)]:=by rfl)
  (hs2:starEach [b,c] X.env=[(false,eval b X.env),(false,eval c X.env)]:=by rfl):PI X tg (.Call (.Name "range" p) [a,b,c] [] pos) (iDown ta):=by
 intro pins s σ H R I h;refine Call_ (zv5 I hg hm boot_range (wz5 (thn (ha pos pins s σ H _ I h) fun us s1 ⟨vs,H1,I1,r1,q1⟩=>?_) (by rw[hs,hs2]) (by rw[hs2];rfl)));obtain⟨i,j,e,⟨q1,q2,q3,q4⟩,q⟩:=q1;subst e;cases r1 with
 | cons r rr=>
  cases rr with
  | cons r' rr=>
   cases rr with
   | cons r'' rr=>
    cases rr;obtain⟨t,rfl⟩:=r;obtain⟨t',rfl⟩:=r';obtain⟨t'',rfl⟩:=r'';refine call_range_3 (by decide) ?_ (wt1 (PyProof.noPylong_small (by decide)));refine wpAny_pyIter_range (IsRange.new ..) (xd5 q1 q2 q3 q4) ?_;have I2:Inv X pins σ H1 {s1 with heap:=s1.heap.push {cls:=.type "range",data:=.fields #[.int i t,.int j t',.int (-1) t'']},toks:=s1.toks}:=I1.kept fun b o e=>wr4 _ e;refine⟨_,[_],_,_,H1,rfl,I2.kept (t':=s1.toks) fun b o e=>wr4 _ e,xj1 _ i (i-j).toNat,?_,fun b hb=>?_,q⟩
    ·have e1:i+((0:Nat):Int)*-1=i:=by lia
     have e2:(((i-j).toNat:Nat):Int)-((0:Nat):Int)=Builtin.Range.rangeSize i j (-1):=by
      unfold Builtin.Range.rangeSize;simp only[show ¬((-1:Int) > 0) by decide,vg9,show -(-1:Int)=1 by decide,Int.ediv_one]
      split <;> lia
     show IsRangeIter _ _ (i+((0:Nat):Int)*-1) ((((i-j).toNat:Nat):Int)-((0:Nat):Int)) (-1);rw[e1,e2];exact wt0 _ rfl
    ·rw[wv1.mp hb];exact I2.fpOk (wr5 _) (I2.hok.fresh (wr5 _))
theorem xx4{hi:Int}{n:Nat}{g:TG}{tb:TS}{D:Ends}{σ:St}{H:Hp}(Pv:Nat->St->Hp->Prop)(h0:Pv 0 σ H)
  (hs:∀i σ H,i<n->Pv i σ H->g (.int (hi-i)) σ H fun σ2 H2=>tb {D with nx:=Pv (i+1),ct:=Pv (i+1),bk:=D.nx} σ2 H2) (hd:∀σ H,Pv n σ H->D.nx σ H):
  ∃W:Nat->Nat->St->Hp->Prop,(∃m,W 0 m σ H)/\∀i m σ H,W i m σ H->
   ((Itd hi n).stop i H/\D.nx σ H)∨((Itd hi n).go i H/\∃N:St->Hp->Prop,(∀σ' H',N σ' H'->∃m',m'<m/\W (i+1) m' σ' H')/\∀x H',(Itd hi n).yld i H x H'->g x σ H' fun σ2 H2=>tb {D with nx:=N,ct:=N,bk:=D.nx} σ2 H2):=by
 refine⟨fun i m σ H=>m=n-i/\i<=n/\Pv i σ H,⟨n,by simp,wt6 _,h0⟩,?_⟩;rintro i m σ H ⟨rfl,hi,p⟩
 by_cases hlt:i<n
 ·refine .inr ⟨hlt,Pv (i+1),fun σ' H' p'=>⟨n-(i+1),by lia,rfl,hlt,p'⟩,fun x H' y=>?_⟩;obtain⟨e,y⟩:=y;subst e y;exact hs i σ _ hlt p
 ·have e:i=n:=by lia
  subst e;exact .inl ⟨wr5 _,hd σ H p⟩
def rSlS:V->Option Int->Option Int->Hp->VK->Prop:=fun x lo hi H Q=>∃z,x=.str z/\z.length<=sizeLine/\Q (.str (Txt.slice z lo hi)) H
theorem wf5:SlR X rSlS:=by
 intro pins s σ H x v vl vu lo hi sl Q I rx hs pl pu h;obtain⟨z,rfl,hz,q⟩:=h;obtain⟨t,rfl⟩:=rx;refine⟨"str",_,F.slot_str_getitem.lookup,typeIs_str _ _ _,?_⟩;have fin:∀(l u:Option (Int×Tok)),s.heap.IsSlice sl l u none->l.map (·.1)=lo->u.map (·.1)=hi->wpAny (model X.prog X.w) X.A (getItem (.str z t) (.ref sl)) (EP X pins σ Q) X.xe s:=fun l u hsl el eu=>by
  refine wpAny_getItem_str_slice (l:=l) (u:=u) (st:=none) hsl rfl (post_val_or_str ⟨?_,fun t' k=>?_⟩)
  ·have:=Txt.slice_le z lo hi;rw[←el,←eu]at this;exact wx6 this hz
  ·refine⟨.str (Txt.slice z lo hi),H,I.tok _,⟨t',?_⟩,q⟩;rw[←el,←eu];rfl
 cases pl with
 | none=>cases pu with
  | none=>exact fin none none hs rfl rfl
  | int j tj=>exact fin none (some (j,tj)) hs rfl rfl
 | int i ti=>cases pu with
  | none=>exact fin (some (i,ti)) none hs rfl rfl
  | int j tj=>exact fin (some (i,ti)) (some (j,tj)) hs rfl rfl
def rMulS:R2:=fun x y H Q=>∃z n,x=.str z/\y=.int n/\(n=0∨n=1)/\Q (.str (if n=0 then Str.empty else z)) H
theorem wj5:OpR X (binaryOp .Mult) rMulS:=by
 intro pins s σ H x y v u Q I rx ry h;obtain⟨z,n,rfl,rfl,hn,q⟩:=h;obtain⟨t,rfl⟩:=rx;obtain⟨t',rfl⟩:=ry;refine SB.mul ⟨?_,?_,?_⟩ fun t'' k=>⟨.str (Txt.mul z n),H,I.tok _,⟨t'',rfl⟩,?_⟩
 ·rcases hn with rfl | rfl <;> decide
 ·rcases hn with rfl | rfl
  ·intro h;exact absurd (by decide) h
  ·intro _ h;simp at h
 ·rcases hn with rfl | rfl
  ·intro h;exact absurd (by decide) h
  ·intro _ h;simp at h
 ·rcases hn with rfl | rfl
  ·exact q
  ·exact q
def rEqL(K:PySem.W.Frag)(neg:Bool):R2:=fun x y H Q=>∃a b xs,x=.ref a/\y=.ref b/\a≠b/\SqL K H a xs/\SqL K H b []/\Q (.bl (xs.isEmpty != neg)) H
theorem yx1(hu:X.A.units<cLine):OpR X (compareOp .Eq) (rEqL X.K false):=by
 intro pins s σ H x y v u Q I rx ry h;obtain⟨a,b,xs,rfl,rfl,hab,h1,h2,q⟩:=h;cases rx;cases ry;obtain⟨its,r,p,hz⟩:=I.list h1;obtain⟨its2,r2,p2,_⟩:=I.list h2;cases r2;show wpAny _ _ (richCompare .Eq (.ref a) (.ref b)) _ _ _;cases r with
 | nil=>exact SeqAt.RcAt.lists (e:=fun _=>true) p.isList p2.isList rfl hu (fun j h=>absurd h (by simp)) _ _ _ _ ⟨.bl true,H,I,by simp;rfl,q⟩
 | cons r rr=>exact SeqAt.RcAt.lists_lengths p.isList p2.isList (by simp) hu _ _ _ _ ⟨.bl false,H,I,rfl,q⟩
theorem zx1(hu:X.A.units<cLine):OpR X (compareOp .NotEq) (rEqL X.K true):=by
 intro pins s σ H x y v u Q I rx ry h;obtain⟨a,b,xs,rfl,rfl,hab,h1,h2,q⟩:=h;cases rx;cases ry;obtain⟨its,r,p,hz⟩:=I.list h1;obtain⟨its2,r2,p2,_⟩:=I.list h2;cases r2;show wpAny _ _ (richCompare .NotEq (.ref a) (.ref b)) _ _ _;cases r with
 | nil=>exact SeqAt.RcNeAt.lists (e:=fun _=>true) p.isList p2.isList rfl hu (fun j h=>absurd h (by simp)) _ _ _ _ ⟨.bl false,H,I,by simp;rfl,q⟩
 | cons r rr=>exact SeqAt.RcNeAt.lists_lengths p.isList p2.isList (by simp) hu _ _ _ _ ⟨.bl true,H,I,rfl,q⟩
theorem xw7(its:List Value):slicePick its.toArray none none (some (-1))=its.reverse.toArray:=by
 unfold slicePick;have e:sliceBounds none none (some (-1)) its.toArray.size=((its.length:Int)-1,-1,-1):=by
  unfold sliceBounds;simp
 rw[e];unfold sliceRange;simp only[show ¬((-1:Int) > 0) by decide,vg9,show -(-1:Int)=1 by decide,Int.ediv_one];have ec:(if (its.length:Int)-1 > -1 then(its.length:Int)-1 - -1 - -1-1 else 0).toNat=its.length:=by split <;> lia
 rw[ec]
 congr 1
 rw[List.filterMap_map];refine vq8 fun i=>?_;have key:∀(n:Nat),n<=its.length->(List.range n).filterMap ((fun x=>its.toArray[x]?)∘fun(k:Nat)=>((its.length:Int)-1+-1*(k:Int)).toNat)=its.reverse.take n:=by
  intro n
  induction n with
  | zero=>intro _;simp
  | succ n ih=>
   intro hn;rw[List.range_succ,List.filterMap_append,ih (by lia),ws7]
   congr 1
   have e2:((its.length:Int)-1+-1*(n:Int)).toNat=its.length-1-n:=by lia
   have e3:its[its.length-1-n]?=some its[its.length-1-n]:=wq9 (by lia);have e4:its.reverse[n]?=some its[its.length-1-n]:=by rw[List.getElem?_reverse (by lia)];exact e3
   rw[e4];have e5:((fun x=>its.toArray[x]?)∘fun(k:Nat)=>((its.length:Int)-1+-1*(k:Int)).toNat) n=some its[its.length-1-n]:=by
    show its.toArray[((its.length:Int)-1+-1*(n:Int)).toNat]?=_;rw[e2];simpa using e3
   rw[vp0,e5];rfl
 rw[key its.length (wr5 _)];rw[wr8 (by simp)]
def tRev(K:PySem.W.Frag)(te:TE)(ts:TE):TE:=fun σ H Q=>te σ H fun x H1=>ts σ H1 fun y H2=>y=.int (-1)/\∃a xs,x=.ref a/\SqL K H2 a xs/\∀p,H2 p=none->Q (.ref p) (upd H2 p (.lst xs.reverse))
theorem wd7{e st:Expr}{te ts:TE}{p2 pos:Pos}(he:PE X e te)(hst:PE X st ts):PE X (.Subscript e (.Slice none none (some st) p2) pos) (tRev X.K te ts):=by
 intro pins s σ H Q I h;refine Subscript_ (thn (he pins s σ H _ I h) fun v s1 ⟨x,H1,I1,r1,q1⟩=>?_);refine wpAny_Slice ?_;rw[evalPart_none];refine wr7 (wr7 ?_);refine thn (hst pins s1 σ H1 _ I1 q1) fun vs s3 ⟨y,H3,I3,ry,ey,a,xs,ex,hq,q⟩=>?_;subst ey ex;obtain⟨tk,rfl⟩:=ry;obtain rfl:v=Value.ref a:=r1;have I4:Inv X pins σ H3 {s3 with heap:=s3.heap.push {cls:=.type "slice",data:=.fields #[.none,.none,.int (-1) tk]}}:=I3.kept (t':=s3.toks) fun b ob q=>wr4 _ q;show wpAny (model X.prog X.w) X.A (subscriptTail e (.Slice none none (some st) p2) (.ref a) (.ref s3.heap.objs.size)) (EP X pins σ Q) X.xe {s3 with heap:=s3.heap.push {cls:=.type "slice",data:=.fields #[.none,.none,.int (-1) tk]}};obtain⟨its,r,ht,hz⟩:=I4.list hq;have hlen:=r.length;refine tail_any (ops:=[.ref a,.ref s3.heap.objs.size]) ht.isList.typeIs slot_list_getitem.lookup ?_ (by with_unfolding_all rfl);refine wpAny_getItem_list_slice ht.isList (Heap.IsSliceOf.new ..) .none .none (.int (-1) tk) (by simp) ?_ (by rw[ws9] <;> lia);rw[xw7];refine⟨.ref _,_,I4.laid (t':=s3.toks) (o:=.lst xs.reverse) (fun b ob q=>wr4 _ q) (wr5 _) ?_,rfl,q _ (I4.hok.fresh (wr5 _))⟩;exact⟨by rw[vk1];exact hz,_,0,r.reverse,wt0 _ rfl⟩
def ItB(tp:Bool)(h:Heap)(it l:Addr)(k:Nat):Prop:=match tp with | true=>h.IsTupleIter it l k | false=>h.IsListIter it l k
def SeB(tp:Bool)(h:Heap)(l:Addr)(xs:Array Value):Prop:=match tp with | true=>h.IsTuple l xs | false=>h.IsList l xs
theorem ItB.at{tp:Bool}{h h':Heap}{it l:Addr}{k:Nat}(x:ItB tp h it l k)(e:∀o,h.get? it=some o->h'.get? it=some o):ItB tp h' it l k:=by
 cases tp with
 | true=>exact Heap.IsTupleIter.at x e
 | false=>exact Heap.IsListIter.at x e
theorem SeB.at{tp:Bool}{h h':Heap}{l:Addr}{xs:Array Value}(x:SeB tp h l xs)(e:∀o,h.get? l=some o->h'.get? l=some o):SeB tp h' l xs:=by
 cases tp with
 | true=>obtain⟨o,ho,r⟩:=(show h.IsTuple l xs from x);exact⟨o,e _ ho,r⟩
 | false=>exact Heap.IsList.at x e
theorem zp7{tp:Bool}{it l:Addr}{k:Nat}{items:Array Value}{x:Value}{Q:Value->Shared->Prop}(hit:ItB tp s.heap it l k)(hl:SeB tp s.heap l items)(hx:items[k]?=some x)
  (hQ:∀h',ItB tp h' it l (k+1)->Heap.SameBut it s.heap h'->Q x {s with heap:=h'}):wpAny (model prog w) A (Builtin.SmallTypes.nextOf (.ref it)) Q E s:=by
 cases tp with
 | false=>exact wpAny_nextOf_list_item hit hl hx hQ
 | true=>
  have hit:s.heap.IsTupleIter it l k:=hit;obtain⟨o,ho,hc,hd⟩:=id hit;obtain⟨ol,hol,_,nl,hdl⟩:=(show s.heap.IsTuple l items from hl);unfold Builtin.SmallTypes.nextOf;refine wq8 (ww8 (name:=Str.ofString "__next__") hit.typeIs vh1 (ww9 vh1 hit.typeIs F.entry_tuple_iterator_next ?_ (F.args_tuple_iterator_next_1 _)));show wpAny _ _ (field (.ref it) 0 >>= _) _ _ s;refine wq8 (wx3 ho hd (x:=.ref l) rfl ?_);show wpAny _ _ (if (Value.ref l == Value.none)=true then _ else _) _ _ s;rw[wv5 (show ¬((Value.ref l == Value.none)=true) from wt2)];show wpAny _ _ (field (.ref it) 1 >>= _) _ _ s;refine wq8 (wx3 ho hd (x:=.int k 0) rfl ?_);show wpAny _ _ (seqItems? (.ref l) >>= _) _ _ s;refine wq8 (vc5 hol hdl ?_);simp only[vg2,hx];refine wq8 (wpAny_setField ho hd (by simp) (wr7 ⟨x,rfl,wr7 (hQ _ (show Heap.IsTupleIter _ it l (k+1) from ?_) (vg5 ..))⟩));exact⟨_,wz7 _ ho (Obj.isFreed_of_fields (Obj.data_mapFields hd _)),(Obj.cls_mapFields ..).trans hc,by rw[Obj.data_mapFields hd];simp[rawInt]⟩
theorem yh8{tp:Bool}{it l:Addr}{k:Nat}{items:Array Value}{Q:Value->Shared->Prop}(hh:A.handled=none)(hit:ItB tp s.heap it l k)(hl:SeB tp s.heap l items)(hx:items[k]?=none)
  (hE:∀h' e,Heap.ExtBut it s.heap h'->(∃o,h'.get? e=some o/\o.cls=.type "StopIteration")->E (.ref e) {s with heap:=h'}):wpAny (model prog w) A (Builtin.SmallTypes.nextOf (.ref it)) Q E s:=by
 cases tp with
 | false=>exact wpAny_nextOf_list_end hh hit hl hx hE
 | true=>
  have hit:s.heap.IsTupleIter it l k:=hit;obtain⟨o,ho,hc,hd⟩:=id hit;obtain⟨ol,hol,_,nl,hdl⟩:=(show s.heap.IsTuple l items from hl);unfold Builtin.SmallTypes.nextOf;refine wq8 (ww8 (name:=Str.ofString "__next__") hit.typeIs vh1 (ww9 vh1 hit.typeIs F.entry_tuple_iterator_next ?_ (F.args_tuple_iterator_next_1 _)));show wpAny _ _ (field (.ref it) 0 >>= _) _ _ s;refine wq8 (wx3 ho hd (x:=.ref l) rfl ?_);show wpAny _ _ (if (Value.ref l == Value.none)=true then _ else _) _ _ s;rw[wv5 (show ¬((Value.ref l == Value.none)=true) from wt2)];show wpAny _ _ (field (.ref it) 1 >>= _) _ _ s;refine wq8 (wx3 ho hd (x:=.int k 0) rfl ?_);show wpAny _ _ (seqItems? (.ref l) >>= _) _ _ s;refine wq8 (vc5 hol hdl ?_);simp only[vg2,hx];refine wq8 (vf4 (wq8 (wpAny_setField ho hd (by simp) ?_)));show wpAny _ _ (newExc (.type "StopIteration") [] >>= _) _ _ _;refine wq8 ?_;simp only[newExc,newTuple];refine wq8 (wx0 ?_ (by size_fits));refine wq8 (m:=firstArgMember _ _) (wpAny_of_eq (a:=Value.none) (by first | rfl | (simp only[firstArgMember];rfl)) ?_);refine wx0 ?_ (by size_fits);simp only[raiseNew];refine wq8 (wpAny_handled ?_)
  first | rw[show A.in1.handled=none from hh] | rw[hh]
  refine wq8 (wr7 (wpAny_throw ?_));exact hE _ _ (((vg5 ..).extBut.push _).push _) ⟨_,wt0 _ rfl,rfl⟩
theorem xp3{p q:Bool}{z TI TO i1 i2 l1 l2:Addr}{k:Nat}{xs ys:Array Value}{x y a b:Value}{Q:Option Value->Shared->Prop}(D:ZipApart z TI TO i1 i2 l1 l2)
  (hz:IsZip s.heap z TI TO .none) (hTI:IsPair s.heap TI (.ref i1) (.ref i2)) (hTO:IsPair s.heap TO a b)
  (h1:ItB p s.heap i1 l1 k) (h2:ItB q s.heap i2 l2 k) (hl1:SeB p s.heap l1 xs) (hl2:SeB q s.heap l2 ys) (hx:xs[k]?=some x) (hy:ys[k]?=some y)
  (hQ:∀h',IsZip h' z TI TO (rawInt s.heap.objs.size)->IsPair h' TO x y->ItB p h' i1 l1 (k+1)->ItB q h' i2 l2 (k+1)->IsPair h' s.heap.objs.size x y->
   (∀c o,c≠z->c≠TO->c≠i1->c≠i2->s.heap.get? c=some o->h'.get? c=some o)->Q (some (.ref s.heap.objs.size)) {s with heap:=h'}):
  wpAny (model prog w) A (pyNext (.ref z)) Q E s:=by
 have hT:s.TypeIs (.ref z) "zip":=⟨_,hz,rfl⟩;unfold pyNext;refine wq8 (vf8 (ww8 (name:=Str.ofString "__next__") hT vg6 (ww9 vg6 hT F.entry_zip_next ?_ (vq9 _))));show wpAny _ _ (field (.ref z) 2 >>= _) _ _ _;refine wq8 (wx3 hz rfl (x:=.bool false) rfl ?_);show wpAny _ _ (field (.ref z) 3 >>= _) _ _ _;refine wq8 (wx3 hz rfl (x:=.ref TI) rfl (wq8 (vc5 hTI rfl ?_)));show wpAny _ _ (Builtin.SmallTypes.ownedTupleIsFree (.ref z) >>= _) _ _ _;refine wq8 ?_;unfold Builtin.SmallTypes.ownedTupleIsFree;refine wq8 (wx3 hz rfl (x:=.none) rfl (wr7 ?_));simp only[if_true];refine wq8 (vf4 (wq8 (wx3 hz rfl (x:=.ref TO) rfl (wq8 (vb8 hz (by simp) fun h₁ hz₁ hs₁=>?_)))));replace hz₁:IsZip h₁ z TI TO .ellipsis:=hz₁;refine wq8 ?_;simp only[List.zipIdx_cons,List.zipIdx_nil,vm2,List.forIn_nil];refine wq8 (wq8 (wpAny_onRaise ?_));show wpAny _ _ (Builtin.SmallTypes.nextOf (.ref i1) >>= _) _ _ _;refine wq8 (zp7 (h1.at fun o e=>hs₁.extBut _ _ D.i1z e) (hl1.at fun o e=>hs₁.extBut _ _ D.l1z e) hx fun h₂ h1₂ hs₂=>wr7 ?_);have hTO₂:IsPair h₂ TO a b:=hs₂.extBut _ _ D.TOi1 (hs₁.extBut _ _ D.TOz hTO);refine wq8 (vc5 hTO₂ rfl (wq8 (wpAny_updateSeq_pair hTO₂ fun h₃ hTO₃ hs₃=>?_)));replace hTO₃:IsPair h₃ TO x b:=hTO₃;refine wq8 (wpAny_letGo (wr7 ?_));refine wq8 (wq8 (wpAny_onRaise ?_));show wpAny _ _ (Builtin.SmallTypes.nextOf (.ref i2) >>= _) _ _ _;refine wq8 (zp7 (h2.at fun o e=>hs₃.extBut _ _ D.TOi2.symm (hs₂.extBut _ _ D.i12.symm (hs₁.extBut _ _ D.i2z e)))
  (hl2.at fun o e=>hs₃.extBut _ _ D.l2TO (hs₂.extBut _ _ D.l2i1 (hs₁.extBut _ _ D.l2z e))) hy fun h₄ h2₄ hs₄=>wr7 ?_)
 have hTO₄:IsPair h₄ TO x b:=hs₄.extBut _ _ D.TOi2 hTO₃;refine wq8 (vc5 hTO₄ rfl (wq8 (wpAny_updateSeq_pair hTO₄ fun h₅ hTO₅ hs₅=>?_)));replace hTO₅:IsPair h₅ TO x y:=hTO₅;refine wq8 (wpAny_letGo (wr7 (wr7 ?_)));refine wq8 (vc5 hTO₅ rfl (wq8 (wpAny_newTuple ?_)));have hsz:h₅.objs.size=s.heap.objs.size:=by rw[hs₅.1,hs₄.1,hs₃.1,hs₂.1,hs₁.1]
 have hz₅:IsZip h₅ z TI TO .ellipsis:=hs₅.extBut _ _ D.TOz.symm (hs₄.extBut _ _ D.i2z.symm (hs₃.extBut _ _ D.TOz.symm (hs₂.extBut _ _ D.i1z.symm hz₁)));have hk₅:∀c o,c≠z->c≠TO->c≠i1->c≠i2->s.heap.get? c=some o->h₅.get? c=some o:=fun c o c1 c2 c3 c4 e=>
  hs₅.extBut _ _ c2 (hs₄.extBut _ _ c4 (hs₃.extBut _ _ c2 (hs₂.extBut _ _ c3 (hs₁.extBut _ _ c1 e))))
 have h1₅:ItB p h₅ i1 l1 (k+1):=h1₂.at fun o e=>hs₅.extBut _ _ D.TOi1.symm (hs₄.extBut _ _ D.i12 (hs₃.extBut _ _ D.TOi1.symm e));have h2₅:ItB q h₅ i2 l2 (k+1):=h2₄.at fun o e=>hs₅.extBut _ _ D.TOi2.symm e;have hzlt:z<h₅.objs.size:=ws1 hz₅;show wpAny _ _ (Builtin.SmallTypes.ownedTupleHandOut (.ref z) (.ref h₅.objs.size) >>= _) _ _ _;refine wq8 ?_;unfold Builtin.SmallTypes.ownedTupleHandOut;have hz₆:IsZip (h₅.push {cls:=.type "tuple",data:=.seq #[x,y]}) z TI TO .ellipsis:=wr4 _ hz₅;refine wq8 (vb8 hz₆ (by simp) fun h₇ hz₇ hs₇=>?_);replace hz₇:IsZip h₇ z TI TO (rawInt h₅.objs.size):=hz₇;refine vb8 hz₇ (by simp) fun h₈ hz₈ hs₈=>?_
 replace hz₈:IsZip h₈ z TI TO (rawInt h₅.objs.size):=hz₈;have up:∀c o,c≠z->h₅.get? c=some o->h₈.get? c=some o:=fun c o c1 e=>hs₈.extBut _ _ c1 (hs₇.extBut _ _ c1 (wr4 _ e));have hT₈:IsPair h₈ h₅.objs.size x y:=hs₈.extBut _ _ (wv9 hzlt) (hs₇.extBut _ _ (wv9 hzlt) (wt0 _ rfl));rw[hsz]at hz₈ hT₈;refine wr7 ⟨_,rfl,?_⟩;show wpAny _ _ (pure (some (Value.ref h₅.objs.size))) _ _ _;refine wr7 ?_;rw[hsz];exact hQ h₈ hz₈ (up _ _ D.TOz hTO₅) (h1₅.at fun o e=>up _ o D.i1z e) (h2₅.at fun o e=>up _ o D.i2z e) hT₈ fun c o c1 c2 c3 c4 e=>up c o c1 (hk₅ c o c1 c2 c3 c4 e)
theorem xv7{p q:Bool}{z TI TO i1 i2 l1 l2:Addr}{k:Nat}{xs ys:Array Value}{a b:Value}{Q:Option Value->Shared->Prop}(hh:A.handled=none)(D:ZipApart z TI TO i1 i2 l1 l2)
  (hz:IsZip s.heap z TI TO .none) (hTI:IsPair s.heap TI (.ref i1) (.ref i2)) (hTO:IsPair s.heap TO a b)
  (h1:ItB p s.heap i1 l1 k) (h2:ItB q s.heap i2 l2 k) (hl1:SeB p s.heap l1 xs) (hl2:SeB q s.heap l2 ys) (hend:xs[k]?=none∨ys[k]?=none)
  (hQ:∀h',(∀c o,c≠z->c≠TO->c≠i1->c≠i2->s.heap.get? c=some o->h'.get? c=some o)->Q none {s with heap:=h'}):wpAny (model prog w) A (pyNext (.ref z)) Q E s:=by
 have hT:s.TypeIs (.ref z) "zip":=⟨_,hz,rfl⟩;unfold pyNext;have stop:∀(h':Heap)(e:Addr),(∀c o,c≠z->c≠TO->c≠i1->c≠i2->s.heap.get? c=some o->h'.get? c=some o)->(∃o,h'.get? e=some o/\o.cls=.type "StopIteration")->
   wpAny (model prog w) A (do if (←isInstance (.ref e) (.type "StopIteration"))=true then pure none else throw (.ref e)) Q E {s with heap:=h'}:=fun h' e hk he=>by
  obtain⟨o,ho,hc⟩:=he;exact wq8 (vk4 (T:="StopIteration") (b:=true) ⟨o,ho,hc⟩ isSubtype_stop (wr7 (hQ _ hk)))
 refine wq8 (vf8 (ww8 (name:=Str.ofString "__next__") hT vg6 (ww9 vg6 hT F.entry_zip_next ?_ (vq9 _))));show wpAny _ _ (field (.ref z) 2 >>= _) _ _ _;refine wq8 (wx3 hz rfl (x:=.bool false) rfl ?_);show wpAny _ _ (field (.ref z) 3 >>= _) _ _ _;refine wq8 (wx3 hz rfl (x:=.ref TI) rfl (wq8 (vc5 hTI rfl ?_)));show wpAny _ _ (Builtin.SmallTypes.ownedTupleIsFree (.ref z) >>= _) _ _ _;refine wq8 ?_;unfold Builtin.SmallTypes.ownedTupleIsFree;refine wq8 (wx3 hz rfl (x:=.none) rfl (wr7 ?_));simp only[if_true];refine wq8 (vf4 (wq8 (wx3 hz rfl (x:=.ref TO) rfl (wq8 (vb8 hz (by simp) fun h₁ hz₁ hs₁=>?_)))));replace hz₁:IsZip h₁ z TI TO .ellipsis:=hz₁;refine wq8 ?_;simp only[List.zipIdx_cons,List.zipIdx_nil,vm2,List.forIn_nil];refine wq8 (wq8 (wpAny_onRaise ?_));show wpAny _ _ (Builtin.SmallTypes.nextOf (.ref i1) >>= _) _ _ _;have i1₁:=h1.at (h':=h₁) fun o e=>hs₁.extBut _ _ D.i1z e;have l1₁:=hl1.at (h':=h₁) fun o e=>hs₁.extBut _ _ D.l1z e;cases hx:xs[k]? with
 | none=>
  refine wq8 (yh8 hh i1₁ l1₁ hx fun h₂ e hs₂ he=>?_);obtain⟨oe,hoe,hce⟩:=he;have hz₂:IsZip h₂ z TI TO .ellipsis:=hs₂ _ _ D.i1z.symm hz₁;have hez:e≠z:=fun x=>by subst x;rw[hz₂]at hoe;cases hoe;simp at hce
  refine vb8 hz₂ (by simp) fun h₃ _ hs₃=>?_
  exact stop h₃ e (fun c o c1 _ c3 _ x=>hs₃.extBut _ _ c1 (hs₂ _ _ c3 (hs₁.extBut _ _ c1 x))) ⟨oe,hs₃.extBut _ _ hez hoe,hce⟩
 | some x=>
  have hy:ys[k]?=none:=by rcases hend with h | h;rw[hx]at h;cases h;exact h
  refine wq8 (zp7 i1₁ l1₁ hx fun h₂ h1₂ hs₂=>wr7 ?_);have hTO₂:IsPair h₂ TO a b:=hs₂.extBut _ _ D.TOi1 (hs₁.extBut _ _ D.TOz hTO);refine wq8 (vc5 hTO₂ rfl (wq8 (wpAny_updateSeq_pair hTO₂ fun h₃ hTO₃ hs₃=>?_)));refine wq8 (wpAny_letGo (wr7 ?_));refine wq8 (wq8 (wpAny_onRaise ?_));show wpAny _ _ (Builtin.SmallTypes.nextOf (.ref i2) >>= _) _ _ _;refine wq8 (yh8 hh (h2.at fun o e=>hs₃.extBut _ _ D.TOi2.symm (hs₂.extBut _ _ D.i12.symm (hs₁.extBut _ _ D.i2z e)))
   (hl2.at fun o e=>hs₃.extBut _ _ D.l2TO (hs₂.extBut _ _ D.l2i1 (hs₁.extBut _ _ D.l2z e))) hy fun h₄ e hs₄ he=>?_)
  obtain⟨oe,hoe,hce⟩:=he;have hz₄:IsZip h₄ z TI TO .ellipsis:=hs₄ _ _ D.i2z.symm (hs₃.extBut _ _ D.TOz.symm (hs₂.extBut _ _ D.i1z.symm hz₁));have hez:e≠z:=fun x=>by subst x;rw[hz₄]at hoe;cases hoe;simp at hce
  refine vb8 hz₄ (by simp) fun h₅ _ hs₅=>?_
  exact stop h₅ e (fun c o c1 c2 c3 c4 x=>hs₅.extBut _ _ c1 (hs₄ _ _ c4 (hs₃.extBut _ _ c2 (hs₂.extBut _ _ c3 (hs₁.extBut _ _ c1 x))))) ⟨oe,hs₅.extBut _ _ hez hoe,hce⟩
theorem boot_zip:bootBuiltins "zip"=some (.type "zip"):=by first | exact PySem.boot_zip | decide +kernel
theorem yd4:typeLookup (.type "list") "keys"=pure none:=by rw[vg7,vc1];kernel_rfl
theorem wh3{prog:Program}{w:World}{A:Around}{E:Value->Shared->Prop}{s:Shared}{a:Addr}{o:Obj}{xs:Array Value}{k:Nat}{Q:Option Value->Shared->Prop}
  (hx:s.heap.get? a=some o) (hc:o.cls=.type "list") (hdat:o.data=.seq xs k) (hd:o.dict=none) (hA:A.handled=none)
  (h:∀h' tk,(∀b ob,s.heap.get? b=some ob->h'.get? b=some ob)->Q none {s with heap:=h',toks:=tk}):
  wpAny (model prog w) A (getAttr? (.ref a) "keys") Q E s:=by
 obtain⟨c,dct,dat,sl⟩:=o;simp only at hc hdat hd;subst hc hdat hd;obtain⟨hp,g,d,tk,os⟩:=s;have hT:∀tk',(⟨hp,g,d,tk',os⟩:Shared).TypeIs (.ref a) "list":=fun _=>⟨_,hx,rfl⟩;have f1:=sub_AttributeError;have f3:=vp4.lookup;have f4:=vp4.bind (.ref a);have f5:=am_list_getattr_none;unfold getAttr? getAttrBy? getAttrBy
 repeat (any_goals (first | assumption | exact hT _ | ((with_reducible show wpAny _ _ (call (Value.builtin "list.__getattribute__") _ _) _ _ _);refine call_meets vp4 (hT _) am_entry_list_getattribute (F.args_list_getattribute_2 _ _) (meets_getattribute_miss_list a xs k sl "keys" _ yd4 (by decide) (by size_fits)) ⟨hx,hA,fun h' tk' e hx'=>?_⟩) | wp_step))
 obtain⟨t',u',he⟩:=hx'.there;show wpAny _ _ (getattributeRaised _ _ _ _ _ _ _) _ _ _;unfold getattributeRaised
 repeat (any_goals (first | assumption | wp_step))
 exact h h' tk' hx'.of.keeps
theorem zs4:plainId "dict.update.loop"=true:=by decide +kernel
theorem ym1:entryFor table "dict.update.loop"=some Builtin.«dict.update.loop»:=entryFor_of_fast (by kernel_rfl)
def wh1(h:Heap)(its:List Value)(kvs:List (Key×V)):Prop:=its.length=kvs.length/\∀(j:Nat) p,kvs[j]?=some p->∃T kv vv,its[j]?=some (.ref T)/\h.IsTuple T #[kv,vv]/\zt0 p.1 kv=true/\RelV p.2 vv
theorem yp5{kvs:List (Key×V)}{j:Nat}{p:Key×V}(h:kvs[j]?=some p):zf6 [] (kvs.take (j+1))=putK (zf6 [] (kvs.take j)) p.1 p.2:=by
 unfold zf6;rw[ws7,h,List.foldl_append];rfl
theorem xs7{prog:Program}{w:World}{A:Around}{R:Result->Shared->Prop}{D it l:Addr}{its:List Value}{kvs:List (Key×V)}(hh:A.handled=none)(hlD:l≠D)(hli:l≠it)(hDi:D≠it)(hz:kvs.length<sizeLine):
  ∀(n j:Nat)(s:Shared)(vs:List (Key×Value)),kvs.length-j=n->j<=kvs.length->s.heap.IsListIter it l j->s.heap.IsList l its.toArray->wh1 s.heap its kvs->(∀T,Value.ref T∈its->T≠D/\T≠it)->
  s.heap.DictOf (zc7 prog w) D vs->KV (zf6 [] (kvs.take j)) vs->
  (∀h' tk vs',h'.DictOf (zc7 prog w) D vs'->KV (zf6 [] kvs) vs'->(∀b o,b≠D->b≠it->s.heap.get? b=some o->h'.get? b=some o)->R (.ok (.ret .none)) {s with heap:=h',toks:=tk})->
  codeAny (model prog w) A (.builtin "dict.update.loop" ⟨[.ref D,.ref it,rawInt j,.none],[]⟩) R s:=by
 intro n
 induction n with
 | zero=>
  intro j s vs hn hj hit hl hp hT hd hk hR;have e:j=kvs.length:=by lia
  subst e;refine vm3 ym1 ?_;rw[vf7 zs4 _];show wpAny _ A.in1 (pyNext (.ref it) >>= _) _ _ s;refine wq8 (wpAny_pyNext_list_end (A:=A.in1) hh hit hl (by simp[hp.1]) fun h' eb=>?_);show wpAny _ A.in1 (Builtin.Dict.addKeywords D [] >>= _) _ _ _;refine wq8 (wr7 (wr7 (hR h' s.toks vs ?_ ?_ fun b o h1 h2 e=>eb b o h2 e)))
  ·exact hd.at fun o e=>eb D o hDi e
  ·rw[wr8 (wr5 _)]at hk;exact hk
 | succ n ih=>
  intro j s vs hn hj hit hl hp hT hd hk hR;have hlt:j<kvs.length:=by lia
  obtain⟨T,kv,vv,hi,ht,hkey,rv⟩:=hp.2 j kvs[j] (wq9 hlt);obtain⟨hTD,hTi⟩:=hT T (ws4 hi);refine vm3 ym1 ?_;rw[vf7 zs4 _];show wpAny _ A.in1 (pyNext (.ref it) >>= _) _ _ s;refine wq8 (wpAny_pyNext_list_item (A:=A.in1) hit hl (x:=.ref T) (by simpa using hi) fun h' hit' sb=>?_);have ht':h'.IsTuple T #[kv,vv]:=by obtain⟨o,e,r⟩:=ht;exact⟨o,sb.extBut _ _ hTi e,r⟩
  have hd':h'.DictOf (zc7 prog w) D vs:=hd.at fun o e=>sb.extBut _ _ hDi e;obtain⟨ot,eo,ec,nt,ed⟩:=id ht';have hvl:vs.length<=sizeLine:=by
   have h1:=hk.length;have h2:=zh7 (kvs.take j) [];rw[wt4]at h2;simp at h2;lia
  show wpAny _ A.in1 (holding [.ref T] _ >>= _) _ _ {s with heap:=h'};refine wq8 (wx2 (wq8 (wpAny_tryCatch ?_)));unfold Builtin.Dict.pairItems;refine wq8 (wpAny_typeOf (T:="tuple") ⟨ot,eo,ec⟩ ?_);rw[ww4 (by decide)];refine wq8 (vc5 eo ed (wr7 ?_));show wpAny _ A.in1 (holding [kv,vv] (dictSet D kv vv)) _ _ _;refine wx2 (wpAny_dictSet_pairs (knd:=zc7 prog w) (k:=kvs[j].1) (hsz:=hvl) hkey hd' fun h2 hd2 sb2=>?_);refine wr7 ⟨vr2 zs4 _,?_⟩;have keep2:∀b o,b≠D->b≠it->s.heap.get? b=some o->h2.get? b=some o:=fun b o h1 h3 e=>sb2.extBut _ _ h1 (sb.extBut _ _ h3 e);refine ih (j+1) {s with heap:=h2,toks:=s.toks+1} _ (by lia) hlt (hit'.at fun o e=>sb2.extBut _ _ (vb3 hDi) e) (hl.at fun o e=>keep2 l o hlD hli e) ⟨hp.1,fun j' p hj'=>?_⟩ hT hd2 ?_ fun h3 tk vs' hd3 hk3 kk=>?_
  ·obtain⟨T',kv',vv',hi',ht',hkey',rv'⟩:=hp.2 j' p hj';obtain⟨q1,q2⟩:=hT T' (ws4 hi');obtain⟨o,e,r⟩:=ht';exact⟨T',kv',vv',hi',⟨o,keep2 _ _ q1 q2 e,r⟩,hkey',rv'⟩
  ·rw[yp5 (wq9 hlt)];exact hk.put _ rv
  ·exact hR h3 tk vs' hd3 hk3 fun b o h1 h4 e=>kk b o h1 h4 (keep2 b o h1 h4 e)
def rDictL(K:PySem.W.Frag):List V->Hp->VK->Prop:=fun xs H Q=>∃(p:Addr)(ts:List Addr)(kvs:List (Key×V)),xs=[.ref p]/\SqL K H p (ts.map V.ref)/\ts.length=kvs.length/\kvs.length<sizeLine/\
 (∀(j:Nat) t kv,ts[j]?=some t->kvs[j]?=some kv->SqT K H t [kV kv.1,kv.2])/\∀l,H l=none->Q (.ref l) (upd H l (.dK (zf6 [] kvs)))
theorem zh6(hc:X.calm=true):CallR X (.type "dict") (rDictL X.K):=by
 intro pins s σ H xs us Q I r h;obtain⟨p,ts,kvs,rfl,hq,hlen,hzk,hpair,q⟩:=h;obtain⟨u,rfl,rx⟩:=zq8 r;cases rx;obtain⟨its,rv,pl,hz⟩:=I.list hq;obtain⟨ol,nl,hol,hcl,hdict,hdl⟩:=id pl;have hplt:p<s.heap.objs.size:=ws1 hol;have hil:its.length=ts.length:=by have:=rv.length;rw[lqm]at this;exact this.symm
 have hit:∀(j:Nat) t,ts[j]?=some t->its[j]?=some (.ref t):=fun j t e=>by
  obtain⟨u,hu,ru⟩:=rv.get (i:=j) (x:=V.ref t) (by rw[wr3,e];rfl);cases ru;exact hu
 refine callType_codes (Q₁:=fun obj s₁=>obj=.ref s.heap.objs.size/\s₁={s with heap:=s.heap.push {cls:=.type "dict",data:=.dict #[]}}) F.kt_called_dict (F.kt_typeCall_dict_1 _) F.entry_dict_init (kt_code_dict_new _ ⟨rfl,rfl⟩) ?_;rintro obj s₁ ⟨rfl,rfl⟩;have hnew:(s.heap.push {cls:=.type "dict",data:=.dict #[]}).DictOf (zc7 X.prog X.w) s.heap.objs.size []:=Heap.DictOf.new s.heap;refine⟨hnew.typeIs,F.args_dict_init_2 _ _,?_⟩;unfold Builtin.«dict.__init__»;refine wq8 ?_;unfold Builtin.Dict.selfAndRest;refine wq8 (vm4 hnew.typeIs ?_);show wpAny _ _ (pure (s.heap.objs.size,[Value.ref p])) _ _ _;refine wr7 ?_;show wpAny _ _ (Builtin.Dict.updateFrom "dict.__init__" s.heap.objs.size (.ref p) [] .none) _ _ _;unfold Builtin.Dict.updateFrom;have ho1:(s.heap.push {cls:=.type "dict",data:=.dict #[]}).get? p=some ol:=wr4 _ hol;refine wq8 (wpAny_typeOf (T:="list") ⟨ol,ho1,hcl⟩ ?_);rw[ww4 (by decide)];refine wq8 (wh3 (A:=X.A.in1.in1) ho1 hcl hdl hdict (I.ok.hd hc) fun h2 tk2 kk2=>?_);show wpAny _ _ (rule _ >>= _) _ _ _;refine wq8 (vf4 ?_);have keep2:∀b o,s.heap.get? b=some o->h2.get? b=some o:=fun b o e=>kk2 b o (wr4 _ e);have hl2:h2.IsList p its.toArray:=pl.isList.at fun o e=>keep2 p o e;have hD2:h2.DictOf (zc7 X.prog X.w) s.heap.objs.size []:=hnew.at fun o e=>kk2 _ o e;have hDlt:s.heap.objs.size<h2.objs.size:=by obtain⟨_,_,_,e,_⟩:=hD2;exact ws1 e
 refine wq8 (wpAny_pyIter_list (s:={s with heap:=h2,toks:=tk2}) hl2 (wr7 ⟨vr2 zs4 _,?_⟩));have keep3:∀b o,s.heap.get? b=some o->(h2.push {cls:=.type "list_iterator",data:=.fields #[.ref p,.int 0 0]}).get? b=some o:=fun b o e=>wr4 _ (keep2 b o e);have hTlt:∀(j:Nat) t,ts[j]?=some t->t<s.heap.objs.size/\∃kv kvv vv,kvs[j]?=some kv/\s.heap.IsTuple t #[kvv,vv]/\zt0 kv.1 kvv=true/\RelV kv.2 vv:=fun j t e=>by
  obtain⟨hj,_⟩:=wr1.mp e;have hk:kvs[j]?=some kvs[j]:=wq9 (by lia);obtain⟨itt,rt,pt,_⟩:=I.tuple (hpair j t _ e hk);cases rt with
  | cons r1 rr=>
   cases rr with
   | cons r2 rr=>
    cases rr;obtain⟨o,eo,rest⟩:=id pt;exact⟨ws1 eo,_,_,_,hk,pt,yg6 (P:=X.prog) (w:=X.w) r1,r2⟩
 refine xs7 (A:=X.A.in1) (I.ok.hd hc) (its:=its) (kvs:=kvs) (ws6 hplt) (ws6 (wz2 hplt hDlt)) (ws6 hDlt) hzk kvs.length 0 _ [] (by simp) (wt6 _) ⟨_,wt0 _ rfl,rfl,rfl⟩ (hl2.at fun o e=>wr4 _ e) ⟨by lia,fun j kv hj=>?_⟩ (fun T hT=>?_)
  (hD2.at fun o e=>wr4 _ e) .nil fun h' tk vs' hd' hk' kk=>?_
 ·obtain⟨hj',_⟩:=wr1.mp hj;have ht:ts[j]?=some ts[j]:=wq9 (by lia);obtain⟨_,kv',a,b,h1,h2',h3,h4⟩:=hTlt j _ ht;rw[hj]at h1;cases h1;obtain⟨o,e,r⟩:=h2';exact⟨_,a,b,hit j _ ht,⟨o,keep3 _ _ e,r⟩,h3,h4⟩
 ·obtain⟨j,hj,e⟩:=vc0 hT;have ht:ts[j]?=some ts[j]:=wq9 (by lia);have:=hit j _ ht;rw[wq9 hj,e]at this;cases this;have:=(hTlt j _ ht).1;exact⟨ws6 this,ws6 (wz2 this hDlt)⟩
 ·refine⟨rfl,⟨.ref s.heap.objs.size,_,?_,rfl,q _ (I.hok.fresh (wr5 _))⟩⟩;have hzm:(zf6 [] kvs).length<=sizeLine:=by
   have:=zh7 kvs [];simp at this;lia
  have hsys:(s.heap.objs.size == sysModules)=false:=by
   have:=I.big;simpa using wv9 this
  exact I.laid (t':=tk) (o:=.dK (zf6 [] kvs)) (fun b o e=>kk b o (ws6 (ws1 e)) (ws6 (wz2 (ws1 e) hDlt)) (keep3 b o e)) (wr5 _) ⟨hzm,hsys,vs',hk',hd'⟩
variable{tg:Expr}
theorem Inv.laidMany{X:Cx}{pins:List (Addr×Obj)}{σ:St}{H H':Hp}{s:Shared}{h':Heap}{t':Nat}(I:Inv X pins σ H s)(keep:∀b o,s.heap.get? b=some o->h'.get? b=some o)
  (agree:∀b,b<s.heap.objs.size->H' b=H b) (hok:HOk X.prog X.w H' h'):Inv X pins σ H' {s with heap:=h',toks:=t'}:=by
 have I0:Inv X pins σ H {s with heap:=h',toks:=t'}:=I.kept (t':=t') keep;have old:∀b o',X.s₀.heap.get? b=some o'->b<s.heap.objs.size:=fun b o' e=>ww2 (ws1 e) I.sz;have lt:∀b u,H b=some u->b<s.heap.objs.size:=fun b u e=>by
  rcases vj7 b s.heap.objs.size with h | h
  ·exact h
  ·rw[I.hok.fresh h]at e;cases e
 have base:=I0.base;refine⟨I0.ok,I0.os,I0.bare,⟨base.keep,base.slot,fun b ob q n hx=>?_,base.there,fun b ys q=>?_,fun b ob y q=>?_,fun b ps q=>?_⟩,I0.loc,I0.cell,?_,fun y c h=>?_,fun p hp=>?_,hok,I0.len⟩
 ·rw[agree b (old b ob q)];exact base.free b ob q n hx
 ·have:=base.tups b ys q;rw[agree b (lt b _ this)];exact this
 ·have:=base.frzs b ob y q;rw[agree b (lt b _ this)];exact this
 ·obtain⟨m,this⟩:=base.tbls b ps q;exact⟨m,by rw[agree b (lt b _ this)];exact this⟩
 ·rw[agree _ I.lt];exact I.free
 ·obtain⟨v,q⟩:=I.cell y c h;rw[agree _ q.lt];exact I.freeC y c h
 ·obtain⟨e1,e2,e3⟩:=I0.pin p hp;have:=ws1 (I.pin p hp).1;exact⟨e1,by rw[agree _ this];exact e2,e3⟩
abbrev yb2(h:Heap)(z TI TO T:Addr)(f:Bool):Prop:=
 h.get? z=some {cls:=.type "zip",dict:=none,data:=.fields #[rawInt T,.bool f,.bool false,.ref TI,.ref TO],slots:=#[]}
theorem zz3{z TI TO T:Addr}{f:Bool}{oT:Obj}{Q:Bool->Shared->Prop}(hz:yb2 s.heap z TI TO T f)(hT:s.heap.get? T=some oT)
  (h:∀h₁,yb2 h₁ z TI TO T true->Heap.SameBut z s.heap h₁->Q false {s with heap:=h₁}):wpAny (model prog w) A (Builtin.SmallTypes.ownedTupleIsFree (.ref z)) Q E s:=by
 unfold Builtin.SmallTypes.ownedTupleIsFree;refine wq8 (wx3 hz rfl (x:=rawInt T) rfl ?_);show wpAny _ _ (loadIfAlive ((T:Int).toNat) >>= _) _ _ _;rw[vg2];refine wq8 (PySem.W.kdx_alive hT ?_);show wpAny _ _ (field (.ref z) 1 >>= _) _ _ s;refine wq8 (wx3 hz rfl (x:=.bool f) rfl ?_);cases f with
 | true=>exact wr7 (h s.heap hz (Heap.SameBut.refl _ _))
 | false=>exact wq8 (vb8 hz (by simp) fun h₁ hz₁ hs₁=>wr7 (h h₁ hz₁ hs₁))
theorem xq0{z TI TO i1 i2 l1 l2 T:Addr}{f:Bool}{oT:Obj}{k:Nat}{xs ys:Array Value}{x y:Value}{Q:Option Value->Shared->Prop}(D:ZipApart z TI TO i1 i2 l1 l2)
  (hz:yb2 s.heap z TI TO T f) (hT:s.heap.get? T=some oT) (hTI:IsPair s.heap TI (.ref i1) (.ref i2))
  (h1:s.heap.IsListIter i1 l1 k) (h2:s.heap.IsListIter i2 l2 k) (hl1:s.heap.IsList l1 xs) (hl2:s.heap.IsList l2 ys) (hx:xs[k]?=some x) (hy:ys[k]?=some y)
  (hQ:∀h',yb2 h' z TI TO T true->h'.IsListIter i1 l1 (k+1)->h'.IsListIter i2 l2 (k+1)->IsPair h' s.heap.objs.size x y->
   (∀c o,c≠z->c≠i1->c≠i2->s.heap.get? c=some o->h'.get? c=some o)->Q (some (.ref s.heap.objs.size)) {s with heap:=h'}):
  wpAny (model prog w) A (pyNext (.ref z)) Q E s:=by
 have ty:s.TypeIs (.ref z) "zip":=⟨_,hz,rfl⟩;unfold pyNext;refine wq8 (vf8 (ww8 (name:=Str.ofString "__next__") ty vg6 (ww9 vg6 ty F.entry_zip_next ?_ (vq9 _))));show wpAny _ _ (field (.ref z) 2 >>= _) _ _ s;refine wq8 (wx3 hz rfl (x:=.bool false) rfl ?_);show wpAny _ _ (field (.ref z) 3 >>= _) _ _ s;refine wq8 (wx3 hz rfl (x:=.ref TI) rfl (wq8 (vc5 hTI rfl ?_)));show wpAny _ _ (Builtin.SmallTypes.ownedTupleIsFree (.ref z) >>= _) _ _ s;refine wq8 (zz3 hz hT fun h₁ hz₁ hs₁=>?_);simp only[vb7,vg9];refine wq8 ?_;simp only[List.forIn_toArray,vm2,List.forIn_nil];refine wq8 (wq8 (wx2 ?_));show wpAny _ _ (Builtin.SmallTypes.nextOf (.ref i1) >>= _) _ _ _;refine wq8 (zp7 (tp:=false) (h1.at fun o e=>hs₁.extBut _ _ D.i1z e) (hl1.at fun o e=>hs₁.extBut _ _ D.l1z e) hx fun h₂ h1₂ hs₂=>wr7 ?_);refine wr7 ?_;refine wq8 (wq8 (wx2 ?_));show wpAny _ _ (Builtin.SmallTypes.nextOf (.ref i2) >>= _) _ _ _;refine wq8 (zp7 (tp:=false) (h2.at fun o e=>hs₂.extBut _ _ D.i12.symm (hs₁.extBut _ _ D.i2z e)) (hl2.at fun o e=>hs₂.extBut _ _ D.l2i1 (hs₁.extBut _ _ D.l2z e)) hy fun h₃ h2₃ hs₃=>wr7 ?_);refine wr7 (wr7 ?_);have hsz:h₃.objs.size=s.heap.objs.size:=by rw[hs₃.1,hs₂.1,hs₁.1]
 show wpAny _ _ (newTuple [x,y] >>= _) _ _ _;refine wq8 (wpAny_newTuple ?_);refine wr7 ⟨_,rfl,?_⟩;show wpAny _ _ (pure (some (Value.ref h₃.objs.size))) _ _ _;refine wr7 ?_;have up:∀c o,c≠z->c≠i1->c≠i2->s.heap.get? c=some o->(h₃.push {cls:=.type "tuple",data:=.seq #[x,y]}).get? c=some o:=fun c o c1 c2 c3 e=>wr4 _ (hs₃.extBut _ _ c3 (hs₂.extBut _ _ c2 (hs₁.extBut _ _ c1 e)));have hT₃:IsPair (h₃.push {cls:=.type "tuple",data:=.seq #[x,y]}) h₃.objs.size x y:=wt0 _ rfl;rw[hsz]at hT₃ ⊢;refine hQ _ (wr4 _ (hs₃.extBut _ _ D.i2z.symm (hs₂.extBut _ _ D.i1z.symm hz₁))) ?_ ?_ hT₃ up
 ·exact(show Heap.IsListIter h₂ i1 l1 (k+1) from h1₂).at fun o e=>wr4 _ (hs₃.extBut _ _ D.i12 e)
 ·exact(show Heap.IsListIter h₃ i2 l2 (k+1) from h2₃).at fun o e=>wr4 _ e
theorem xt2{z TI TO i1 i2 l1 l2 T:Addr}{f:Bool}{oT:Obj}{k:Nat}{xs:Array Value}{Q:Option Value->Shared->Prop}(hh:A.handled=none)(D:ZipApart z TI TO i1 i2 l1 l2)
  (hz:yb2 s.heap z TI TO T f) (hT:s.heap.get? T=some oT) (hTI:IsPair s.heap TI (.ref i1) (.ref i2))
  (h1:s.heap.IsListIter i1 l1 k) (hl1:s.heap.IsList l1 xs) (hx:xs[k]?=none)
  (hQ:∀h',(∀c o,c≠z->c≠i1->s.heap.get? c=some o->h'.get? c=some o)->Q none {s with heap:=h'}):wpAny (model prog w) A (pyNext (.ref z)) Q E s:=by
 have ty:s.TypeIs (.ref z) "zip":=⟨_,hz,rfl⟩;unfold pyNext;refine wq8 (vf8 (ww8 (name:=Str.ofString "__next__") ty vg6 (ww9 vg6 ty F.entry_zip_next ?_ (vq9 _))));show wpAny _ _ (field (.ref z) 2 >>= _) _ _ s;refine wq8 (wx3 hz rfl (x:=.bool false) rfl ?_);show wpAny _ _ (field (.ref z) 3 >>= _) _ _ s;refine wq8 (wx3 hz rfl (x:=.ref TI) rfl (wq8 (vc5 hTI rfl ?_)));show wpAny _ _ (Builtin.SmallTypes.ownedTupleIsFree (.ref z) >>= _) _ _ s;refine wq8 (zz3 hz hT fun h₁ hz₁ hs₁=>?_);simp only[vb7,vg9];refine wq8 ?_;simp only[List.forIn_toArray,vm2,List.forIn_nil];refine wq8 (wq8 (wx2 ?_));show wpAny _ _ (Builtin.SmallTypes.nextOf (.ref i1) >>= _) _ _ _;refine wq8 (yh8 (tp:=false) hh (h1.at fun o e=>hs₁.extBut _ _ D.i1z e) (hl1.at fun o e=>hs₁.extBut _ _ D.l1z e) hx fun h₂ e hs₂ he=>?_);obtain⟨oe,hoe,hce⟩:=he;exact wq8 (vk4 (T:="StopIteration") (b:=true) ⟨oe,hoe,hce⟩ isSubtype_stop (wr7 (hQ _ fun c o c1 c2 q=>hs₂ _ _ c2 (hs₁.extBut _ _ c1 q))))
structure ZipSt(h:Heap)(S z TI TO i1 i2 l1 l2:Addr)(xs ys:List Value)(i:Nat)(ts:List Addr):Prop where
 zs:(ts=[]/\IsZip h z TI TO .none)∨∃T f,T∈ts/\yb2 h z TI TO T f
 tI:IsPair h TI (.ref i1) (.ref i2)
 tO:∃a b,IsPair h TO a b
 a1:h.IsListIter i1 l1 i
 a2:h.IsListIter i2 l2 i
 b1:h.IsList l1 xs.toArray
 b2:h.IsList l2 ys.toArray
 len:ts.length=i
 nd:ts.Nodup
 up:∀t∈ts,S<t
 prs:∀(j:Nat) t,ts[j]?=some t->∃x y,xs[j]?=some x/\ys[j]?=some y/\IsPair h t x y
theorem ZipSt.move{h h':Heap}{S z TI TO i1 i2 l1 l2:Addr}{xs ys:List Value}{i:Nat}{ts:List Addr}(q:ZipSt h S z TI TO i1 i2 l1 l2 xs ys i ts)(hS:z≠S/\TI≠S/\TO≠S/\i1≠S/\i2≠S/\l1≠S/\l2≠S)
  (k:∀b o,b≠S->h.get? b=some o->h'.get? b=some o):ZipSt h' S z TI TO i1 i2 l1 l2 xs ys i ts:=by
 obtain⟨n1,n2,n3,n4,n5,n6,n7⟩:=hS;obtain⟨zs,tI,⟨a,b,tO⟩,a1,a2,b1,b2,len,nd,up,prs⟩:=q;refine⟨?_,k _ _ n2 tI,⟨a,b,k _ _ n3 tO⟩,a1.at fun o e=>k _ o n4 e,a2.at fun o e=>k _ o n5 e,b1.at fun o e=>k _ o n6 e,b2.at fun o e=>k _ o n7 e,len,nd,up,fun j t e=>?_⟩
 ·rcases zs with ⟨e,q⟩ | ⟨T,f,hT,q⟩
  ·exact .inl ⟨e,k _ _ n1 q⟩
  ·exact .inr ⟨T,f,hT,k _ _ n1 q⟩
 ·obtain⟨x,y,e1,e2,e3⟩:=prs j t e;exact⟨x,y,e1,e2,k _ _ (wv9 (up t (ws4 e))) e3⟩
theorem ZipSt.turn{S z TI TO i1 i2 l1 l2:Addr}{xs ys:List Value}{i:Nat}{ts:List Addr}{Q:Option Value->Shared->Prop}(D:ZipApart z TI TO i1 i2 l1 l2)(q:ZipSt s.heap S z TI TO i1 i2 l1 l2 xs ys i ts)
  (hS:S<s.heap.objs.size) (ht:∀t∈ts,t≠z/\t≠TO/\t≠i1/\t≠i2) (hi:i<xs.length) (hl:xs.length=ys.length)
  (hQ:∀h' t,ZipSt h' S z TI TO i1 i2 l1 l2 xs ys (i+1) (ts++[t])->s.heap.objs.size<=t->(∀c o,c≠z->c≠TO->c≠i1->c≠i2->s.heap.get? c=some o->h'.get? c=some o)->Q (some (.ref t)) {s with heap:=h'}):
  wpAny (model prog w) A (pyNext (.ref z)) Q E s:=by
 obtain⟨zs,tI,⟨a,b,tO⟩,a1,a2,b1,b2,len,nd,up,prs⟩:=q;have ex:xs.toArray[i]?=some xs[i]:=by simp[hi]
 have ey:ys.toArray[i]?=some (ys[i]'(by lia)):=by simp[show i<ys.length by lia]
 have ex':xs[i]?=some xs[i]:=wq9 hi;have ey':ys[i]?=some (ys[i]'(by lia)):=wq9 (by lia);have fin:∀h':Heap,((∃T f,T∈ts++[s.heap.objs.size]/\yb2 h' z TI TO T f))->(∃a b,IsPair h' TO a b)->h'.IsListIter i1 l1 (i+1)->h'.IsListIter i2 l2 (i+1)->IsPair h' s.heap.objs.size xs[i] (ys[i]'(by lia))->
   (∀c o,c≠z->c≠TO->c≠i1->c≠i2->s.heap.get? c=some o->h'.get? c=some o)->ZipSt h' S z TI TO i1 i2 l1 l2 xs ys (i+1) (ts++[s.heap.objs.size]):=by
  intro h' hz hTO c1 c2 hp kk;refine⟨.inr hz,kk _ _ D.TIz D.TITO D.TIi1 D.TIi2 tI,hTO,c1,c2,b1.at fun o e=>kk _ o D.l1z D.l1TO D.l1i1 D.l1i2 e,b2.at fun o e=>kk _ o D.l2z D.l2TO D.l2i1 D.l2i2 e,by rw[wr2,len];rfl,?_,fun t ht'=>?_,fun j t e=>?_⟩
  ·refine List.nodup_append.mpr ⟨nd,by simp,fun t ht' u hu=>?_⟩;obtain⟨j,hj⟩:=ww7.mp ht';obtain⟨_,_,_,_,e⟩:=prs j t hj;rw[wv1.mp hu];exact ws6 (ws1 e)
  ·rcases wt9.mp ht' with h | h
   ·exact up t h
   ·rw[wv1.mp h];exact hS
  ·by_cases hj:j<ts.length
   ·rw[wz1 hj]at e;obtain⟨x,y,e1,e2,e3⟩:=prs j t e;obtain⟨n1,n2,n3,n4⟩:=ht t (ws4 e);exact⟨x,y,e1,e2,kk _ _ n1 n2 n3 n4 e3⟩
   ·rw[wz8 (by lia)]at e;have h0:j-ts.length=0:=by
     cases hz:j-ts.length with
     | zero=>rfl
     | succ k=>rw[hz]at e;simp at e
    rw[h0]at e;simp only[vk2,vr0]at e;subst e;have:j=i:=by lia
    subst this;exact⟨_,_,ex',ey',hp⟩
 rcases zs with ⟨rfl,hz⟩ | ⟨T,f,hT,hz⟩
 ·exact xp3 (p:=false) (q:=false) D hz tI tO a1 a2 b1 b2 ex ey fun h' g1 g2 g3 g4 g5 kk=>hQ h' _ (fin h' ⟨_,false,wv4 _ (wv1.mpr rfl),g1⟩ ⟨_,_,g2⟩ g3 g4 g5 kk) (wr5 _) kk
 ·obtain⟨j,hj⟩:=ww7.mp hT;obtain⟨_,_,_,_,eT⟩:=prs j T hj;exact xq0 D hz eT tI a1 a2 b1 b2 ex ey fun h' g1 g3 g4 g5 kk=>hQ h' _ (fin h' ⟨T,true,vj0 _ hT,g1⟩ ⟨_,_,kk _ _ D.TOz D.TOi1 D.TOi2 tO⟩ g3 g4 g5 fun c o c1 _ c3 c4 e=>kk c o c1 c3 c4 e) (wr5 _) fun c o c1 _ c3 c4 e=>kk c o c1 c3 c4 e
theorem ZipSt.stop{S z TI TO i1 i2 l1 l2:Addr}{xs ys:List Value}{ts:List Addr}{Q:Option Value->Shared->Prop}(hh:A.handled=none)(D:ZipApart z TI TO i1 i2 l1 l2)(q:ZipSt s.heap S z TI TO i1 i2 l1 l2 xs ys xs.length ts)
  (hQ:∀h',(∀c o,c≠z->c≠TO->c≠i1->c≠i2->s.heap.get? c=some o->h'.get? c=some o)->Q none {s with heap:=h'}):wpAny (model prog w) A (pyNext (.ref z)) Q E s:=by
 obtain⟨zs,tI,⟨a,b,tO⟩,a1,a2,b1,b2,len,nd,up,prs⟩:=q;have ex:xs.toArray[xs.length]?=none:=by simp
 rcases zs with ⟨rfl,hz⟩ | ⟨T,f,hT,hz⟩
 ·exact xv7 (p:=false) (q:=false) hh D hz tI tO a1 a2 b1 b2 (.inl ex) hQ
 ·obtain⟨j,hj⟩:=ww7.mp hT;obtain⟨_,_,_,_,eT⟩:=prs j T hj;exact xt2 hh D hz eT tI a1 b1 ex fun h' kk=>hQ h' fun c o c1 _ c3 _ e=>kk c o c1 c3 e
theorem xg1:typeLookup (.type "zip") "__len__"=pure none:=by(rw[vg7,vc1];kernel_rfl)
theorem xc0:typeLookup (.type "zip") "__length_hint__"=pure none:=by(rw[vg7,vc1];kernel_rfl)
section
variable{R:Result->Shared->Prop}
theorem xv2{z:Addr}{Q:Bool->Shared->Prop}(hT:s.TypeIs (.ref z) "zip")(h:Q true s):wpAny (model prog w) A (Builtin.List.listLengthHint (.ref z)) Q E s:=by
 unfold Builtin.List.listLengthHint;refine wq8 (vf1 hT xg1 ?_);refine wpAny_ite_split (fun c=>absurd c (by decide)) (fun _=>?_);refine wpAny_ite_split (fun c=>absurd c (by decide)) (fun _=>?_);refine wq8 (vf1 hT xc0 ?_);exact wr7 h
abbrev xd3(h:Heap)(S:Addr)(ts:List Addr)(c:Nat):Prop:=h.get? S=some {cls:=.type "list",dict:=none,data:=.seq (ts.map Value.ref).toArray c,slots:=#[]}
structure yr9(h₀ h:Heap)(S z TO i1 i2:Addr)(xs ys:List Value)(ts:List Addr):Prop where
 keep:∀b o,b≠S->b≠z->b≠TO->b≠i1->b≠i2->h₀.get? b=some o->h.get? b=some o
 lst:∃c,xd3 h S ts c
 len:ts.length=xs.length
 nd:ts.Nodup
 up:∀t∈ts,S<t
 prs:∀(j:Nat) t,ts[j]?=some t->∃x y,xs[j]?=some x/\ys[j]?=some y/\IsPair h t x y
theorem xv4{S z TI TO i1 i2 l1 l2:Addr}{xs ys:List Value}(hh:A.handled=none)(D:ZipApart z TI TO i1 i2 l1 l2)(lo:z<S/\TI<S/\TO<S/\i1<S/\i2<S/\l1<S/\l2<S)(hl:xs.length=ys.length)(hn:xs.length<=sizeLine)(res:Value){h₀:Heap}
  (hR:∀h' tk ts,yr9 h₀ h' S z TO i1 i2 xs ys ts->R (.ok (.ret res)) {s with heap:=h',toks:=tk}):
  ∀(m i:Nat)(h:Heap)(tk c:Nat)(ts:List Addr),xs.length-i=m->i<=xs.length->ZipSt h S z TI TO i1 i2 l1 l2 xs ys i ts->(∀b o,b≠S->b≠z->b≠TO->b≠i1->b≠i2->h₀.get? b=some o->h.get? b=some o)->xd3 h S ts c->
   codeAny (model prog w) A (.builtin "list.extend.loop" ⟨[.ref S,.ref z,res],[]⟩) R {s with heap:=h,toks:=tk}:=by
 obtain⟨o1,o2,o3,o4,o5,o6,o7⟩:=lo;intro m
 induction m with
 | zero=>
  intro i h tk c ts hm hi q kk hS;have e:i=xs.length:=by lia
  subst e;refine vm3 F.entry_extend_loop ?_;rw[vf7 vp1 _];show wpAny _ A.in1 (pyNext (.ref z) >>= _) _ _ _;refine wq8 (ZipSt.stop (s:={s with heap:=h,toks:=tk}) (A:=A.in1) hh D q fun h' k'=>wr7 (hR h' tk ts ⟨fun b o n0 n1 n2 n3 n4 e=>k' b o n1 n2 n3 n4 (kk b o n0 n1 n2 n3 n4 e),⟨c,k' S _ (wv9 o1) (wv9 o3) (wv9 o4) (wv9 o5) hS⟩,q.len,q.nd,q.up,fun j t ej=>?_⟩));obtain⟨x,y,e1,e2,e3⟩:=q.prs j t ej;have ht:=q.up t (ws4 ej);exact⟨x,y,e1,e2,k' t _ (wv9 (wz2 o1 ht)) (wv9 (wz2 o3 ht)) (wv9 (wz2 o4 ht)) (wv9 (wz2 o5 ht)) e3⟩
 | succ m ih=>
  intro i h tk c ts hm hi q kk hS;have hlt:i<xs.length:=by lia
  refine vm3 F.entry_extend_loop ?_;rw[vf7 vp1 _];show wpAny _ A.in1 (pyNext (.ref z) >>= _) _ _ _;refine wq8 (ZipSt.turn (s:={s with heap:=h,toks:=tk}) D q (ws1 hS) (fun t ht=>⟨wv9 (wz2 o1 (q.up t ht)),wv9 (wz2 o3 (q.up t ht)),wv9 (wz2 o4 (q.up t ht)),wv9 (wz2 o5 (q.up t ht))⟩) hlt hl fun h' t q' hle k'=>?_);have hS':xd3 h' S ts c:=k' S _ (wv9 o1) (wv9 o3) (wv9 o4) (wv9 o5) hS;have sz:(ts.map Value.ref).toArray.size=i:=by rw[ws9,lqm,q.len]
  obtain⟨c',hc'⟩:∃c',xd3 (h'.update S (Obj.mapSeq (·.push (Value.ref t)))) S (ts++[t]) c':=by
   have ea:((ts++[t]).map Value.ref).toArray=(ts.map Value.ref).toArray.push (.ref t):=by simp
   unfold xd3;rw[ea];exact⟨_,wz7 (Obj.mapSeq (·.push (Value.ref t))) hS' rfl⟩
  show wpAny _ A.in1 (updateSeq S (·.push (Value.ref t)) >>= _) _ _ _;refine wq8 (wpAny_updateSeq hS' rfl (wr7 ⟨vr2 vp1 _,ih (i+1) _ tk c' (ts++[t]) (by lia) hlt (q'.move ⟨ws6 o1,ws6 o2,ws6 o3,ws6 o4,ws6 o5,ws6 o6,ws6 o7⟩ fun b o hb e=>(vb4 _ _ (vb3 hb)).trans e) ?_ ?_⟩) ?_ ?_)
  ·exact fun b o n0 n1 n2 n3 n4 e=>(vb4 _ _ (vb3 n0)).trans (k' b o n1 n2 n3 n4 (kk b o n0 n1 n2 n3 n4 e))
  ·exact hc'
  ·rw[sz];lia
  ·show((ts.map Value.ref).toArray.push (Value.ref t)).size<=sizeLine+1;rw[Array.size_push,sz];lia
theorem xc5{S z TI TO i1 i2 l1 l2:Addr}{xs ys:List Value}{a b:Value}(hh:A.handled=none)(D:ZipApart z TI TO i1 i2 l1 l2)(lo:z<S/\TI<S/\TO<S/\i1<S/\i2<S/\l1<S/\l2<S)(hl:xs.length=ys.length)(hn:xs.length<=sizeLine)(res:Value)
  (hz:IsZip s.heap z TI TO .none) (hTI:IsPair s.heap TI (.ref i1) (.ref i2)) (hTO:IsPair s.heap TO a b) (h1:s.heap.IsListIter i1 l1 0) (h2:s.heap.IsListIter i2 l2 0) (hl1:s.heap.IsList l1 xs.toArray) (hl2:s.heap.IsList l2 ys.toArray) {c₀:Nat} (hS:xd3 s.heap S [] c₀)
  (hR:∀h' tk ts,yr9 s.heap h' S z TO i1 i2 xs ys ts->R (.ok (.ret res)) {s with heap:=h',toks:=tk}):
  wpAny (model prog w) A.in1 (Builtin.List.listExtendWith (.ref S) (.ref z) res)
   (fun fin s'=>match fin with | .done f=>R (.ok f) s' | .again c'=>c'.quiet=true/\codeAny (model prog w) A c' R s') (fun e s'=>R (.error e) s') s:=by
 obtain⟨o1,o2,o3,o4,o5,o6,o7⟩:=id lo;unfold Builtin.List.listExtendWith;refine wq8 (wpAny_typeOf (T:="zip") ⟨_,hz,rfl⟩ ?_);have e1:Builtin.List.listSameRef (.ref S) (.ref z)=false:=by simp[Builtin.List.listSameRef,wv9 o1]
 have e2:(Value.type "zip" == Value.type "list")=false:=by decide
 have e3:(Value.type "zip" == Value.type "tuple")=false:=by decide
 simp only[e1,e2,e3,Bool.or_false,vb7,vg9];refine wq8 (wpAny_pyIter_zip hz (wq8 (wx2 (xv2 ⟨_,hz,rfl⟩ ?_))));refine wpAny_ite_split (fun _=>?_) (fun c=>absurd rfl c);refine wq8 (vf4 (wq8 ?_));show wpAny _ _ (updateSeq S (·.push .none) >>= fun _=>updateSeq S (·.pop)) _ _ s;refine wq8 (wpAny_updateSeq hS rfl ?_);have g2:=wz7 (Obj.mapSeq (·.push Value.none)) hS rfl;refine wpAny_updateSeq (hz:=by seq_fits) g2 rfl ?_;have g3:=wz7 (Obj.mapSeq (·.pop)) g2 rfl;have kp:∀b o,b≠S->s.heap.get? b=some o->((s.heap.update S (Obj.mapSeq (·.push Value.none))).update S (Obj.mapSeq (·.pop))).get? b=some o:=fun b o n e=>(vb4 _ _ (vb3 n)).trans ((vb4 _ _ (vb3 n)).trans e);refine wr7 ⟨vr2 vp1 _,xv4 (s:=s) hh D lo hl hn res hR xs.length 0 _ _ _ [] (Nat.sub_zero _) (wt6 _) ⟨.inl ⟨rfl,kp _ _ (ws6 o1) hz⟩,kp _ _ (ws6 o2) hTI,⟨a,b,kp _ _ (ws6 o3) hTO⟩,h1.at fun o e=>kp _ o (ws6 o4) e,h2.at fun o e=>kp _ o (ws6 o5) e,hl1.at fun o e=>kp _ o (ws6 o6) e,hl2.at fun o e=>kp _ o (ws6 o7) e,rfl,vd8,(fun t h=>nomatch h),(fun j t e=>by simp at e)⟩ (fun b o n0 _ _ _ _ e=>kp b o n0 e) g3⟩
theorem xv9{z TI TO i1 i2 l1 l2:Addr}{xs ys:List Value}{a b:Value}{Q:Value->Shared->Prop}(hh:A.handled=none)(D:ZipApart z TI TO i1 i2 l1 l2)(hl:xs.length=ys.length)(hn:xs.length<=sizeLine)
  (hz:IsZip s.heap z TI TO .none) (hTI:IsPair s.heap TI (.ref i1) (.ref i2)) (hTO:IsPair s.heap TO a b) (h1:s.heap.IsListIter i1 l1 0) (h2:s.heap.IsListIter i2 l2 0) (hl1:s.heap.IsList l1 xs.toArray) (hl2:s.heap.IsList l2 ys.toArray)
  (hQ:∀h' tk ts,yr9 s.heap h' s.heap.objs.size z TO i1 i2 xs ys ts->Q (.ref s.heap.objs.size) {s with heap:=h',toks:=tk}):wpAny (model prog w) A (call (.type "list") [.ref z]) Q E s:=by
 refine callType_codes (Q₁:=fun ob s₁=>ob=.ref s.heap.objs.size/\s₁={s with heap:=s.heap.push {cls:=.type "list",data:=.seq #[]}}) F.called_list (F.typeCall_list_1 _) F.entry_list_init (code_list_new _ ⟨rfl,rfl⟩) fun ob s₁ q=>?_;obtain⟨rfl,rfl⟩:=q;have lz:z<s.heap.objs.size:=ws1 hz;have lI:TI<s.heap.objs.size:=ws1 hTI;have lO:TO<s.heap.objs.size:=ws1 hTO;have li1:i1<s.heap.objs.size:=by obtain⟨_,e,_⟩:=h1;exact ws1 e
 have li2:i2<s.heap.objs.size:=by obtain⟨_,e,_⟩:=h2;exact ws1 e
 have ll1:l1<s.heap.objs.size:=by obtain⟨_,e,_⟩:=hl1;exact ws1 e
 have ll2:l2<s.heap.objs.size:=by obtain⟨_,e,_⟩:=hl2;exact ws1 e
 have hS:(s.heap.push {cls:=.type "list",data:=.seq #[]}).get? s.heap.objs.size=some {cls:=.type "list",data:=.seq #[]}:=wt0 _ rfl;refine⟨⟨_,hS,rfl⟩,F.args_list_init_2 _ _,?_⟩;show wpAny _ A.in1.in1 (do let old ←Builtin.List.listItems (.ref s.heap.objs.size);Builtin.List.listUpdate (.ref s.heap.objs.size) (fun _=>#[]);letGo old.toList.reverse;Builtin.List.listExtendWith (.ref s.heap.objs.size) (.ref z) .none) _ _ _;refine wq8 ?_;unfold Builtin.List.listItems;refine wq8 (vc5 hS rfl (wr7 ?_));show wpAny _ _ (updateSeq s.heap.objs.size (fun _=>#[]) >>= fun _=>letGo (#[]:Array Value).toList.reverse >>= fun _=>Builtin.List.listExtendWith (.ref s.heap.objs.size) (.ref z) .none) _ _ _;refine wq8 (wpAny_updateSeq hS rfl ?_);have g2:=wz7 (Obj.mapSeq (fun _=>(#[]:Array Value))) hS rfl;have kp:∀b o,s.heap.get? b=some o->((s.heap.push {cls:=.type "list",data:=.seq #[]}).update s.heap.objs.size (Obj.mapSeq (fun _=>(#[]:Array Value)))).get? b=some o:=
  fun b o e=>(vb4 _ _ (wv9 (ws1 e))).trans (wr4 _ e)
 refine wq8 (wpAny_letGo ?_);refine xc5 (A:=A.in1) hh D ⟨lz,lI,lO,li1,li2,ll1,ll2⟩ hl hn .none (kp _ _ hz) (kp _ _ hTI) (kp _ _ hTO) (h1.at fun o e=>kp _ o e) (h2.at fun o e=>kp _ o e) (hl1.at fun o e=>kp _ o e) (hl2.at fun o e=>kp _ o e) g2 fun h' tk ts q=>⟨rfl,hQ h' tk ts ?_⟩;exact⟨fun b o n0 n1 n2 n3 n4 e=>q.keep b o n0 n1 n2 n3 n4 (kp b o e),q.lst,q.len,q.nd,q.up,q.prs⟩
end
def yc4(H:Hp)(S:Addr)(ts:List Addr)(xs ys:List V):Hp:=fun b=>if b=S then some (.lst (ts.map V.ref)) else if b∈ts then some (.tup [xs.getD (ts.idxOf b) .non,ys.getD (ts.idxOf b) .non]) else H b
theorem idx_at{ts:List Addr}(nd:ts.Nodup){j:Nat}{t:Addr}(e:ts[j]?=some t):ts.idxOf t=j:=by
 obtain⟨hj,e1⟩:=wr1.mp e;have hm:t∈ts:=ws4 e;have hlt:ts.idxOf t<ts.length:=List.idxOf_lt_length_iff.mpr hm;have h2:ts[ts.idxOf t]=t:=List.getElem_idxOf hlt;exact(vn5 nd).mp (h2.trans e1.symm)
theorem yp2:∀ts:List Addr,Vals (ts.map V.ref) (ts.map Value.ref)
 | []=>.nil
 | t::r=>.cons rfl (yp2 r)
def xv5(K:PySem.W.Frag)(ta:TA):TE:=fun σ H Q=>ta σ H fun vs H1=>∃(l1 l2:Addr)(xs ys:List V),vs=[.ref l1,.ref l2]/\SqL K H1 l1 xs/\SqL K H1 l2 ys/\xs.length=ys.length/\
 ∀(l:Addr)(ts:List Addr)(H':Hp),(∀b o,H1 b=some o->H' b=some o)->H1 l=none->H' l=some (.lst (ts.map V.ref))->ts.length=xs.length->
  (∀(j:Nat) t,ts[j]?=some t->∃x y,xs[j]?=some x/\ys[j]?=some y/\H' t=some (.tup [x,y]))->Q (.ref l) H'
theorem boot_list:bootBuiltins "list"=some (.type "list"):=by first | exact PySem.boot_list | decide +kernel
theorem xb7{X:Cx}{a b:Expr}{ta:TA}{p pp pos pos2:Pos}(hc:X.calm=true)(hgl:Gl X "list")(hml:X.mg "list"=none)(hgz:Gl X "zip")(hmz:X.mg "zip"=none)(ha:PA X [a,b] ta)
  (hs:starEach [a,b] X.env=[(false,eval a X.env),(false,eval b X.env)]:=by rfl) (hs2:starEach [b] X.env=[(false,eval b X.env)]:=by rfl)
  (he:starEach [.Call (.Name "zip" pp) [a,b] [] pos2] X.env=[(false,eval (.Call (.Name "zip" pp) [a,b] [] pos2) X.env)]:=by rfl):
  PE X (.Call (.Name "list" p) [.Call (.Name "zip" pp) [a,b] [] pos2] [] pos) (xv5 X.K ta):=by
 intro pins s σ H Q I h;refine vp7 (zv5 I hgl hml boot_list ?_);refine wz5 ?_ (by rw[he];rfl) rfl;rw[he];show wpAny _ _ (spliced ((false,eval (.Call (.Name "zip" pp) [a,b] [] pos2) X.env)::[])) _ _ s;refine wz6 (thn (Q:=fun u s₂=>wpAny (model X.prog X.w) X.A (call (.type "list") [u]) (EP X pins σ Q) X.xe s₂) ?_ fun u s₂ q=>vd5 q);refine Call_ (zv5 I hgz hmz boot_zip (wz5 (thn (ha pos2 pins s σ H _ I h) fun us s1 ⟨vs,H1,I1,r1,q1⟩=>?_) (by rw[hs,hs2]) (by rw[hs2];rfl)));obtain⟨l1,l2,xs,ys,e,hq1,hq2,hl,q⟩:=q1;subst e;cases r1 with
 | cons r rr=>
  cases rr with
  | cons r' rr=>
   cases rr;cases r;cases r';obtain⟨its1,rv1,p1',zz1⟩:=I1.list hq1;obtain⟨its2,rv2,p2',zz2⟩:=I1.list hq2;have p1:=p1'.isList;have p2:=p2'.isList;have lt1:l1<s1.heap.objs.size:=by obtain⟨o,e,_⟩:=p1;exact ws1 e
   have lt2:l2<s1.heap.objs.size:=by obtain⟨o,e,_⟩:=p2;exact ws1 e
   have D:ZipApart (s1.heap.objs.size+4) (s1.heap.objs.size+2) (s1.heap.objs.size+3) s1.heap.objs.size (s1.heap.objs.size+1) l1 l2:=zipApart_new lt1 lt2;refine call_zip_2 p1 p2 fun h' hz hTI hTO h1 h2 hsz kk=>?_;refine xv9 (s:={s1 with heap:=h'}) (I1.ok.hd hc) D (xs:=its1) (ys:=its2) (by rw[←rv1.length,←rv2.length];exact hl) (by rw[←rv1.length];exact zz1) hz hTI hTO h1 h2 (p1.at fun o e=>kk _ o e) (p2.at fun o e=>kk _ o e) fun h'' tk ts zd=>?_
   have hS:s1.heap.objs.size<h'.objs.size:=by rw[hsz];lia
   have k2:∀b o,s1.heap.get? b=some o->h''.get? b=some o:=fun b o e=>by
    have hb:b<s1.heap.objs.size:=ws1 e;exact zd.keep b o (ws6 (wz2 hb hS)) (ws6 (ww2 hb (Nat.le_add_right _ _))) (ws6 (ww2 hb (Nat.le_add_right _ _))) (ws6 hb) (ws6 (ww2 hb (Nat.le_add_right _ _))) (kk b o e)
   have agree:∀b,b<s1.heap.objs.size->yc4 H1 h'.objs.size ts xs ys b=H1 b:=fun b hb=>by
    unfold yc4;rw[wv5 (ws6 (wz2 hb hS)),wv5 (fun hm=>vb6 b (wz2 (wz2 hb hS) (zd.up b hm)))]
   have lt:∀b u,H1 b=some u->b<s1.heap.objs.size:=fun b u e=>by
    rcases vj7 b s1.heap.objs.size with h | h
    ·exact h
    ·rw[I1.hok.fresh h]at e;cases e
   have keepH:∀b o,H1 b=some o->yc4 H1 h'.objs.size ts xs ys b=some o:=fun b o e=>by rw[agree b (lt b o e)];exact e
   have prs:∀(j:Nat) t,ts[j]?=some t->∃x y u v,xs[j]?=some x/\ys[j]?=some y/\RelV x u/\RelV y v/\IsPair h'' t u v/\yc4 H1 h'.objs.size ts xs ys t=some (.tup [x,y]):=fun j t e=>by
    obtain⟨u,v,e1,e2,e3⟩:=zd.prs j t e;have hj1:j<xs.length:=by rw[rv1.length];exact(wr1.mp e1).1
    have hj2:j<ys.length:=by rw[rv2.length];exact(wr1.mp e2).1
    have g1:xs[j]?=some xs[j]:=wq9 hj1;have g2:ys[j]?=some ys[j]:=wq9 hj2;obtain⟨u',eu,ru⟩:=rv1.get g1;obtain⟨v',ev,rv⟩:=rv2.get g2;rw[e1]at eu;rw[e2]at ev;cases eu;cases ev;have hm:t∈ts:=ws4 e;refine⟨_,_,u,v,g1,g2,ru,rv,e3,?_⟩;unfold yc4;rw[wv5 (wv9 (zd.up t hm)),ww4 hm,idx_at zd.nd e,vd3,vd3,g1,g2];rfl
   have hok:HOk X.prog X.w (yc4 H1 h'.objs.size ts xs ys) h'':=by
    intro b o e
    by_cases hb:b=h'.objs.size
    ·subst hb;have:yc4 H1 h'.objs.size ts xs ys h'.objs.size=some (.lst (ts.map V.ref)):=by unfold yc4;rw[ww4 rfl]
     rw[this]at e;cases e;obtain⟨c,ec⟩:=zd.lst;exact⟨by rw[lqm,zd.len,←rv1.length];exact zz1,ts.map Value.ref,c,yp2 ts,ec⟩
    ·by_cases hm:b∈ts
     ·obtain⟨j,hj⟩:=ww7.mp hm;obtain⟨x,y,u,v,_,_,ru,rv,ep,ez⟩:=prs j b hj;rw[ez]at e;cases e;exact⟨⟨by show 2<=sizeLine;exact ws3 (zc0 (by lia)),_,ep,rfl⟩,[u,v],.cons ru (.cons rv .nil),_,ep,rfl,_,rfl⟩
     ·have:yc4 H1 h'.objs.size ts xs ys b=H1 b:=by unfold yc4;rw[wv5 hb,wv5 hm]
      rw[this]at e;exact(I1.hok b o e).stay (fun c v _ r=>k2 c v r) (fun c r=>keepH c _ r) fun c zs r=>keepH c _ r
   refine⟨.ref h'.objs.size,_,I1.laidMany (t':=tk) k2 agree hok,rfl,?_⟩;refine q h'.objs.size ts _ keepH (I1.hok.fresh (ws3 hS)) (by unfold yc4;rw[ww4 rfl]) (by rw[zd.len,rv1.length]) fun j t e=>?_
   obtain⟨x,y,u,v,e1,e2,_,_,_,ez⟩:=prs j t e;exact⟨x,y,e1,e2,ez⟩
inductive A2{α β:Type}(R:α->β->Prop):List α->List β->Prop
 | nil:A2 R [] []
 | cons {a:α} {b:β} {as:List α} {bs:List β} (h:R a b) (t:A2 R as bs):A2 R (a::as) (b::bs)
theorem A2.imp{α β:Type}{R S:α->β->Prop}(f:∀a b,R a b->S a b){as:List α}{bs:List β}(h:A2 R as bs):A2 S as bs:=by
 induction h with
 | nil=>exact .nil
 | cons h _ ih=>exact .cons (f _ _ h) ih
theorem A2.app{α β:Type}{R:α->β->Prop}{as as':List α}{bs bs':List β}(h:A2 R as bs)(g:A2 R as' bs'):A2 R (as++as') (bs++bs'):=by
 induction h with
 | nil=>exact g
 | cons h _ ih=>exact .cons h ih
theorem A2.snoc{α β:Type}{R:α->β->Prop}{as:List α}{bs:List β}{a:α}{b:β}(h:A2 R as bs)(g:R a b):A2 R (as++[a]) (bs++[b]):=h.app (.cons g .nil)
theorem A2.len{α β:Type}{R:α->β->Prop}{as:List α}{bs:List β}(h:A2 R as bs):as.length=bs.length:=by
 induction h with
 | nil=>rfl
 | cons _ _ ih=>exact wx5 (·+1) ih
theorem A2.get{α β:Type}{R:α->β->Prop}{as:List α}{bs:List β}(h:A2 R as bs):∀{i:Nat}{a:α},as[i]?=some a->∃b,bs[i]?=some b/\R a b:=by
 induction h with
 | nil=>intro i a e;simp at e
 | cons h _ ih=>
  intro i a e;cases i with
  | zero=>cases e;exact⟨_,rfl,h⟩
  | succ i=>exact ih e
theorem xr1{xs:List V}{us:List Value}(r:Vals xs us):∀{j:Nat}{u:Value},us[j]?=some u->∃x,xs[j]?=some x/\RelV x u:=by
 induction r with
 | nil=>intro j u e;simp at e
 | cons h _ ih=>
  intro j u e;cases j with
  | zero=>cases e;exact⟨_,rfl,h⟩
  | succ j=>exact ih e
section
variable{pins:List (Addr×Obj)}{σ:List (Option V)}{H:Hp}{s:Shared}{A:Around}
theorem xn6{ss tt:List Str}:((List.range (min ss.length tt.length)).all (fun j=>decide (ss[j]?=tt[j]?)) && ss.length == tt.length)=decide (ss=tt):=by
 by_cases h:ss=tt
 ·subst h;simp
 ·rw[wv8 h]
  by_cases hl:ss.length=tt.length
  ·have:((List.range (min ss.length tt.length)).all (fun j=>decide (ss[j]?=tt[j]?)))=false:=by
    rw[←Bool.not_eq_true,ww0];intro hh;refine h (vq8 fun i=>?_)
    by_cases hi:i<ss.length
    ·have:=hh i (List.mem_range.mpr (by lia));exact ws0 this
    ·rw[vf2 (by lia),vf2 (by lia)]
   rw[this];rfl
  ·have:(ss.length == tt.length)=false:=by simpa using hl
   rw[this,Bool.and_false]
theorem yf6(I:Inv X pins σ H s){ss tt:List Str}{its its2:List Value}(r:Vals (ss.map V.str) its)(r2:Vals (tt.map V.str) its2)(j:Nat)(h1:j<its.toArray.size)(h2:j<its2.toArray.size):SeqAt.EqAt A s its.toArray[j] its2.toArray[j] (decide (ss[j]?=tt[j]?)):=by
 have g1:its[j]?=some its.toArray[j]:=by simp
 have g2:its2[j]?=some its2.toArray[j]:=by simp
 obtain⟨x,e1,q1⟩:=xr1 r g1;obtain⟨y,e2,q2⟩:=xr1 r2 g2;rw[wr3,wr6]at e1 e2;obtain⟨a,e1,rfl⟩:=e1;obtain⟨b,e2,rfl⟩:=e2;obtain⟨t,q1⟩:=q1;obtain⟨t2,q2⟩:=q2;rw[q1,q2,e1,e2];have:=SeqAt.EqAt.str_str (A:=A) (s:=s) a t b t2;have e:(a == b)=decide (some a=some b):=by
  by_cases h:a=b
  ·subst h;simp
  ·simp[h]
 rwa [e]at this
theorem rcS(I:Inv X pins σ H s)(hu:A.units<cLine){a b:Addr}{ss tt:List Str}(ha:SqT X.K H a (ss.map V.str))(hb:SqT X.K H b (tt.map V.str)):SeqAt.RcAt A s (.ref a) (.ref b) (decide (ss=tt)):=by
 obtain⟨its,r,p,_⟩:=I.tuple ha;obtain⟨its2,r2,p2,_⟩:=I.tuple hb;have h:=SeqAt.RcAt.tuples (A:=A) (e:=fun j=>decide (ss[j]?=tt[j]?)) p p2 hu (fun j h1 h2=>yf6 I r r2 j h1 h2);have l1:=r.length;have l2:=r2.length;rw[lqm]at l1 l2;rw[ws9,ws9,←l1,←l2,xn6]at h;exact h
theorem rcNeS(I:Inv X pins σ H s)(hu:A.units<cLine){a b:Addr}{ss tt:List Str}(ha:SqT X.K H a (ss.map V.str))(hb:SqT X.K H b (tt.map V.str)):SeqAt.RcNeAt A s (.ref a) (.ref b) (!decide (ss=tt)):=by
 obtain⟨its,r,p,_⟩:=I.tuple ha;obtain⟨its2,r2,p2,_⟩:=I.tuple hb;have h:=SeqAt.RcNeAt.tuples (A:=A) (e:=fun j=>decide (ss[j]?=tt[j]?)) p p2 hu (fun j h1 h2=>yf6 I r r2 j h1 h2);have l1:=r.length;have l2:=r2.length;rw[lqm]at l1 l2;rw[ws9,ws9,←l1,←l2,xn6]at h;exact h
end
def rNeS(K:PySem.W.Frag):R2:=fun x y H Q=>∃(a b:Addr)(ss tt:List Str),x=.ref a/\y=.ref b/\SqT K H a (ss.map V.str)/\SqT K H b (tt.map V.str)/\Q (.bl (!decide (ss=tt))) H
theorem wb5(hu:X.A.units<cLine):OpR X (compareOp .NotEq) (rNeS X.K):=by
 intro pins s σ H x y v u Q I rx ry h;obtain⟨a,b,ss,tt,rfl,rfl,ha,hb,q⟩:=h;cases rx;cases ry;exact rcNeS I hu ha hb _ _ _ _ ⟨.bl _,H,I,rfl,q⟩
open Classical in
section
variable{pins:List (Addr×Obj)}{σ:List (Option V)}{H:Hp}{s:Shared}
end
section
variable{tg:Expr}
end
section
variable{o i e value:Expr}{pos:Pos}{td ty:TE}
end
abbrev byTx(w:World):Bool:=w.params.followText "set-order"
def EntOk(w:World)(e:Int×Value):Prop:=∃x tk,e=(hashStr w x,.str x tk)
inductive SSet(w:World)(h:Heap)(a:Addr)(ss:List Str):Prop
 | mk(es:Array (Int×Value))(ep:Nat)(t:SetTable)(h1:h.get? a=some {cls:=.type "set",data:=.set es ep t})(h2:∀e∈es.toList,EntOk w e)(h3:ss=es.toList.map sOf)(h4:ss.Nodup)(h5:t.fits es.size=true)(h6:t.led=!byTx w)(h7:ss=[]∨t.plain=false):SSet w h a ss
theorem wp6{I:Addr}{α:Type}{s0:Shared}{Q:α->Shared->Prop}(hh:A.handled=none)(k0:Heap.ExtBut I s0.heap s.heap)
  (hE:∀a h',Heap.ExtBut I s0.heap h'->({s with heap:=h'}:Shared).TypeIs a "StopIteration"->E a {s with heap:=h'}):wpAny (model prog w) A (newExc (.type "StopIteration") [] >>= fun e=>(raiseNew e:Sem α)) Q E s:=by
 refine wq8 ?_;simp only[newExc,newTuple];refine wq8 (wx0 ?_ (by size_fits));refine wq8 (m:=firstArgMember _ _) (wpAny_of_eq (a:=Value.none) (by first | rfl | (simp only[firstArgMember];rfl)) ?_);refine wx0 ?_ (by size_fits);simp only[raiseNew];refine wq8 (wpAny_handled ?_);rw[hh];refine wq8 (wr7 (wpAny_throw ?_));exact hE _ _ ((k0.push _).push _) ⟨_,wt0 _ rfl,rfl⟩
section
variable{a I:Addr}{es:Array (Int×Value)}{ep:Nat}{t:SetTable}
end
theorem Inv.drawn{pins:List (Addr×Obj)}{σ:St}{H:Hp}{s:Shared}{d:Drawn}(I:Inv X pins σ H s):Inv X pins σ H {s with drawn:=d}:=⟨I.ok,I.os,I.bare,I.base,I.loc,I.cell,I.free,I.freeC,I.pin,I.hok,I.len⟩
def gal':Bool->Keyed->Array Keyed->Nat->Nat->Nat->StateT SortSt Sem (Option Nat):=sortPriv% PySem.Builtin.gallop
def bey(left:Bool)(key:Keyed)(arr:Array Keyed)(base i:Nat):StateT SortSt Sem (Option Bool):=
 elem' arr (base+i) >>= fun x=>if left=true then lt' x key else lt' key x >>= fun r=>pure (Option.map (fun b=>!b) r)
section
variable{M:Model}{A:Around}{E:Value->Shared->Prop}{s:Shared}{st:SortSt}{n:Nat}{act:Nat->StateT SortSt Sem (Option Bool)}
def xv1(M:Model)(A:Around)(E:Value->Shared->Prop)(s:Shared)(act:Nat->StateT SortSt Sem (Option Bool))(n:Nat)(st:SortSt):Prop:=∀i,i<n->∃b,∀Q:Option Bool->SortSt->Prop,Q (some b) st->wpS M A E s (act i) Q st
theorem xm4{lo hi:Nat}{Q:(Option (Option Nat)×Nat×Nat)->SortSt->Prop}(ha:xv1 M A E s act n st)(h1:lo<=hi)(h2:hi<=n)(h:∀l k,k<=n->Q (none,l,k) st):
  wpS M A E s (forIn [:n] ((none:Option (Option Nat)),lo,hi) fun _ c=>
   if c.2.1≥c.2.2 then pure (ForInStep.done (none,c.2.1,c.2.2)) else act (c.2.1+(c.2.2-c.2.1) / 2) >>= fun r=>match r with
    | some more=>if more=true then pure (ForInStep.yield (none,c.2.1+(c.2.2-c.2.1) / 2+1,c.2.2)) else pure (ForInStep.yield (none,c.2.1,c.2.1+(c.2.2-c.2.1) / 2))
    | _=>pure (ForInStep.done (some none,c.2.1,c.2.2))) Q st:=by
 refine vb2 (I:=fun x c st'=>st'=st/\∃l k,c=(none,l,k)/\l<=k/\k<=n) ?_ ?_ ⟨rfl,lo,hi,rfl,h1,h2⟩
 ·rintro x c _ _ hx ⟨rfl,l,k,rfl,g1,g2⟩;dsimp only
  by_cases hc:l≥k
  ·rw[ww4 hc];exact wv3 (h l k g2)
  ·rw[wv5 hc];obtain⟨b,hb⟩:=ha (l+(k-l) / 2) (by lia);refine wt5 (hb _ ?_);cases b <;> exact wv3 ⟨rfl,_,_,rfl,by lia,by lia⟩
 ·rintro c _ ⟨rfl,l,k,rfl,g1,g2⟩;exact h l k g2
theorem wm2{hint:Nat}{Q:(Option (Option Nat)×Nat×Nat)->SortSt->Prop}(ha:xv1 M A E s act n st)(h0:hint<n)(h:∀last ofs,hint+last<n->last<ofs->Q (none,last,ofs) st):
  wpS M A E s (forIn [:n] ((none:Option (Option Nat)),0,1) fun _ c=>
   if c.2.2≥n-hint then pure (ForInStep.done (none,c.2.1,c.2.2)) else act (hint+c.2.2) >>= fun r=>match r with
    | some more=>if (!more)=true then pure (ForInStep.done (none,c.2.1,c.2.2)) else pure (ForInStep.yield (none,c.2.2,2*c.2.2+1))
    | _=>pure (ForInStep.done (some none,c.2.1,c.2.2))) Q st:=by
 refine vb2 (I:=fun x c st'=>st'=st/\∃last ofs,c=(none,last,ofs)/\hint+last<n/\last<ofs) ?_ ?_ ⟨rfl,0,1,rfl,h0,by decide⟩
 ·rintro x c _ _ hx ⟨rfl,last,ofs,rfl,g1,g2⟩;dsimp only
  by_cases hc:ofs≥n-hint
  ·rw[ww4 hc];exact wv3 (h last ofs g1 g2)
  ·rw[wv5 hc];obtain⟨b,hb⟩:=ha (hint+ofs) (by lia);refine wt5 (hb _ ?_);cases b
   ·exact wv3 (h last ofs g1 g2)
   ·exact wv3 ⟨rfl,_,_,rfl,by lia,by lia⟩
 ·rintro c _ ⟨rfl,last,ofs,rfl,g1,g2⟩;exact h last ofs g1 g2
theorem xm7{hint:Nat}{Q:(Option (Option Nat)×Nat×Nat)->SortSt->Prop}(ha:xv1 M A E s act n st)(h0:hint<n)(h:∀last ofs,last<=hint->last<ofs->Q (none,last,ofs) st):
  wpS M A E s (forIn [:n] ((none:Option (Option Nat)),0,1) fun _ c=>
   if c.2.2≥hint+1 then pure (ForInStep.done (none,c.2.1,c.2.2)) else act (hint-c.2.2) >>= fun r=>match r with
    | some found=>if found=true then pure (ForInStep.done (none,c.2.1,c.2.2)) else pure (ForInStep.yield (none,c.2.2,2*c.2.2+1))
    | _=>pure (ForInStep.done (some none,c.2.1,c.2.2))) Q st:=by
 refine vb2 (I:=fun x c st'=>st'=st/\∃last ofs,c=(none,last,ofs)/\last<=hint/\last<ofs) ?_ ?_ ⟨rfl,0,1,rfl,wt6 _,by decide⟩
 ·rintro x c _ _ hx ⟨rfl,last,ofs,rfl,g1,g2⟩;dsimp only
  by_cases hc:ofs≥hint+1
  ·rw[ww4 hc];exact wv3 (h last ofs g1 g2)
  ·rw[wv5 hc];obtain⟨b,hb⟩:=ha (hint-ofs) (by lia);refine wt5 (hb _ ?_);cases b
   ·exact wv3 ⟨rfl,_,_,rfl,by lia,by lia⟩
   ·exact wv3 (h last ofs g1 g2)
 ·rintro c _ ⟨rfl,last,ofs,rfl,g1,g2⟩;exact h last ofs g1 g2
end
structure SameG(st st':SortSt):Prop where
 kd:kindOf st'=kindOf st
 ar:arrOf st'=arrOf st
 pe:pendingOf st'=pendingOf st
 fa:failedOf st'=failedOf st
theorem SameG.refl{st:SortSt}:SameG st st:=⟨rfl,rfl,rfl,rfl⟩
def Cmp(M:Model)(A:Around)(E:Value->Shared->Prop)(s:Shared)(kd:SortKind)(U:Keyed->Prop)(LT:Keyed->Keyed->Bool):Prop:=
 ∀{x y:Keyed}{st:SortSt}{Q:Option Bool->SortSt->Prop},U x->U y->kindOf st=kd->Q (some (LT x y)) st->wpS M A E s (lt' x y) Q st
section
variable{kd:SortKind}{U:Keyed->Prop}{LT:Keyed->Keyed->Bool}{st:SortSt}
theorem zf1{M:Model}{arr:Array Keyed}{i:Nat}{x:Keyed}{Q:Keyed->SortSt->Prop}(hx:arr.toList[i]?=some x)(h:Q x st):wpS M A E s (elem' arr i) Q st:=by
 rw[elem'_eq];have e:arr[i]?=some x:=by simpa using hx
 rw[e];exact wv3 h
theorem xd1(C:Cmp (model prog w) A E s kd U LT){left:Bool}{key:Keyed}{arr:Array Keyed}{base n hint:Nat}{Q:Option Nat->SortSt->Prop}(hk:kindOf st=kd)(hh:hint<n)(hn:base+n<=arr.toList.length)(hu:∀x∈arr.toList,U x)(uk:U key)(h:∀k,k<=n->Q (some k) st):
  wpS (model prog w) A E s (gal' left key arr base n hint) Q st:=by
 have ha:xv1 (model prog w) A E s (bey left key arr base) n st:=fun i hi=>by
  have gx:=wq9 (show base+i<arr.toList.length by lia);have ux:=hu _ (ws4 gx);cases left
  ·refine⟨!LT key arr.toList[base+i],fun Q q=>?_⟩;unfold bey;refine wt5 (zf1 gx ?_);rw[wv5 wt2];exact wt5 (C uk ux hk (wv3 q))
  ·refine⟨LT arr.toList[base+i] key,fun Q q=>?_⟩;unfold bey;refine wt5 (zf1 gx ?_);rw[ww4 rfl];exact C ux uk hk q
 unfold gal' wpS
 wp_delta
 wp_delta
 show wpS (model prog w) A E s (bey left key arr base hint >>= _) Q st;obtain⟨b,hb⟩:=ha hint hh;refine wt5 (hb _ ?_);cases b
 ·refine wt5 (xm7 (act:=bey left key arr base) ha hh fun last ofs g1 g2=>?_);dsimp only;exact wt5 (xm4 (act:=bey left key arr base) ha (by lia) (by lia) fun l k c1=>wv3 (h k c1))
 ·refine wt5 (wm2 (act:=bey left key arr base) ha hh fun last ofs g1 g2=>?_);dsimp only;exact wt5 (xm4 (act:=bey left key arr base) ha (by lia) (by lia) fun l k c1=>wv3 (h k c1))
end
def mlo':Array Keyed->Array Keyed->StateT SortSt Sem (Array Keyed):=sortPriv% PySem.Builtin.mergeLo
def smg':Nat->StateT SortSt Sem Unit:=sortPriv% PySem.Builtin.setMinGallop
theorem nbeq{m n:Nat}(h:¬(m == n)=true):m≠n:=fun z=>h (beq_iff_eq.mpr z)
theorem zm2(a:Array Keyed){p n:Nat}:(a.extract p n).toList=(a.toList.take n).drop p:=by
 rw[Array.toList_extract];simp only[List.extract];rw[List.drop_take]
theorem zw8(a:Array Keyed)(i:Nat):(a.extract i a.size).toList=a.toList.drop i:=by
 rw[zm2,wr8 (by rw[ww1];exact wr5 _)]
theorem ys3(a:Array Keyed)(i k:Nat):(a.extract i (i+k)).toList=(a.toList.drop i).take k:=by
 rw[Array.toList_extract];simp[List.extract]
theorem zt2{α:Type}(l:List α)(i k:Nat):l.drop i=(l.drop i).take k++l.drop (i+k):=by
 rw[←List.drop_drop,vc2]
theorem yx2{α:Type}{l:List α}{i:Nat}{x:α}(h:l[i]?=some x):l.drop i=x::l.drop (i+1):=by
 obtain⟨h1,rfl⟩:=wr1.mp h;exact vc6 h1
section
variable{a b out:Array Keyed}{i j:Nat}{x:Keyed}
def Gd(a b out:Array Keyed)(i j:Nat):Prop:=(out.toList++(a.toList.drop i++b.toList.drop j)).Perm (a.toList++b.toList)
theorem Gd.a1(g:Gd a b out i j)(h:a.toList[i]?=some x):Gd a b (out.push x) (i+1) j:=by
 unfold Gd at *;rw[yx2 h]at g;rw[vm7,wt7];exact g
theorem Gd.b1(g:Gd a b out i j)(h:b.toList[j]?=some x):Gd a b (out.push x) i (j+1):=by
 unfold Gd at *;rw[yx2 h]at g;rw[vm7,wt7];exact(vh5 _ (List.perm_middle (l₁:=a.toList.drop i)).symm).trans g
theorem Gd.ak(g:Gd a b out i j)(k:Nat):Gd a b (out++a.extract i (i+k)) (i+k) j:=by
 unfold Gd at *;rw[zt2 _ i k,wt7]at g;rw[wx4,ys3,wt7];exact g
theorem Gd.bk(g:Gd a b out i j)(k:Nat):Gd a b (out++b.extract j (j+k)) i (j+k):=by
 unfold Gd at *;rw[zt2 b.toList j k]at g;rw[wx4,ys3,wt7];refine(vh5 _ ?_).trans g;rw[←wt7,←wt7];exact vh6.append_right _
theorem Gd.done(g:Gd a b out i j):(out++a.extract i a.size++b.extract j b.size).toList.Perm (a.toList++b.toList):=by
 rw[wx4,wx4,zw8,zw8,wt7];exact g
theorem Gd.last(g:Gd a b out i j):(out++b.extract j b.size++a.extract i a.size).toList.Perm (a.toList++b.toList):=by
 rw[wx4,wx4,zw8,zw8,wt7];exact(vh6.append_left _).trans g
structure Mi(a b out:Array Keyed)(i j t:Nat):Prop where
 g:Gd a b out i j
 ha:i+1<a.size
 hb:j<b.size
 ht:t<=i+j
end
section
variable{kd:SortKind}{U:Keyed->Prop}{LT:Keyed->Keyed->Bool}{st:SortSt}
theorem yw1{g:Nat}{st0:SortSt}{Q:Unit->SortSt->Prop}(h0:SameG st0 st)(h:∀st',SameG st0 st'->Q () st'):wpS (model prog w) A E s (smg' g) Q st:=by
 unfold smg' wpS
 wp_delta
 wp_delta
 exact wr7 ⟨rfl,h _ ⟨h0.kd,h0.ar,h0.pe,h0.fa⟩⟩
theorem zc8{α:Type}{c:Prop}[Decidable c]{m1 m2:StateT SortSt Sem α}{Q:α->SortSt->Prop}(h1:c->wpS (model prog w) A E s m1 Q st)(h2:¬c->wpS (model prog w) A E s m2 Q st):wpS (model prog w) A E s (if c then m1 else m2) Q st:=by
 split
 ·exact h1 ‹_›
 ·exact h2 ‹_›
set_option maxHeartbeats 2000000 in
theorem mlo_ok(C:Cmp (model prog w) A E s kd U LT){a b:Array Keyed}{Q:Array Keyed->SortSt->Prop}(hk:kindOf st=kd)(ua:∀x∈a.toList,U x)(ub:∀x∈b.toList,U x)(na:0<a.size)(nb:0<b.size)
  (h:∀r st',r.toList.Perm (a.toList++b.toList)->SameG st st'->Q r st'):wpS (model prog w) A E s (mlo' a b) Q st:=by
 have la:a.toList.length=a.size:=ww1;have lb:b.toList.length=b.size:=ww1;have ga:∀i,i<a.size->∃x,a.toList[i]?=some x/\U x:=fun i hi=>⟨_,wq9 (by lia),ua _ (ww5 _)⟩
 have gb:∀i,i<b.size->∃x,b.toList[i]?=some x/\U x:=fun i hi=>⟨_,wq9 (by lia),ub _ (ww5 _)⟩
 unfold mlo' wpS
 wp_delta
 wp_delta
 show wpS (model prog w) A E s (_ >>= _) Q st;refine wt5 (wpS_lift (vf4 ⟨rfl,?_⟩));obtain⟨x0,hx0,_⟩:=gb 0 nb;refine wt5 (m:=elem' b 0) (zf1 hx0 ?_);have g0:Gd a b #[x0] 0 1:=Gd.b1 (out:=#[]) (List.Perm.refl _) hx0;refine zc8 (c:=(1 == b.size)=true) (fun _=>wv3 (h _ _ g0.done SameG.refl)) fun c1=>?_;refine zc8 (c:=(0+1 == a.size)=true) (fun _=>wv3 (h _ _ g0.last SameG.refl)) fun c2=>?_;have c1:=nbeq c1;have c2:=nbeq c2;refine wt5 (vr5 ?_);refine wt5 (vn7 (vb2 (I:=fun x c st'=>SameG st st'/\∃out ia ib mg,c=(none,out,ia,ib,mg)/\Mi a b out ia ib (x+1))
  (Q:=fun c st'=>SameG st st'/\∃r rest,c=(some r,rest)/\r.toList.Perm (a.toList++b.toList)) ?step ?fin ⟨SameG.refl,_,_,_,_,rfl,g0,by lia,by lia,by lia⟩) ?post)
 case fin=>
  rintro c st' ⟨_,out,ia,ib,mg,rfl,_,h1,h2,h3⟩;lia
 case post=>
  rintro c st' ⟨hs,r,rest,rfl,hr⟩;exact wv3 (h r st' hr hs)
 case step=>
  rintro x c st' _ hx ⟨hs,out,ia,ib,mg,rfl,m⟩;dsimp only;refine wt5 (vn7 (vb2 (I:=fun y c st'=>SameG st st'/\∃out ia ib ac bc,c=(none,out,ia,ib,ac,bc)/\Mi a b out ia ib (x+1+y))
   (Q:=fun c st'=>SameG st st'/\((∃r rest,c=(some r,rest)/\r.toList.Perm (a.toList++b.toList))∨∃out ia ib ac bc,c=(none,out,ia,ib,ac,bc)/\Mi a b out ia ib (x+2))) ?step1 ?fin1 ⟨hs,_,_,_,_,_,rfl,m⟩) ?post1)
  case fin1=>
   rintro c st' ⟨_,out,ia,ib,ac,bc,rfl,_,h1,h2,h3⟩;lia
  case step1=>
   rintro y c st' _ hy ⟨hs,out,ia,ib,ac,bc,rfl,g,hia,hib,hxi⟩;dsimp only;obtain⟨p,xa,pa⟩:=ga ia (by lia);obtain⟨q,xb,pb⟩:=gb ib hib;refine wt5 (m:=elem' b ib) (zf1 xb (wt5 (m:=elem' a ia) (zf1 xa (wt5 (C pb pa (hs.kd.trans hk) ?_)))));refine zc8 (c:=LT q p=true) (fun _=>wt5 (m:=elem' b ib) (zf1 xb ?_)) fun _=>wt5 (m:=elem' a ia) (zf1 xa ?_)
   ·have g':=g.b1 xb;refine zc8 (c:=(ib+1 == b.size)=true) (fun _=>wv3 ⟨hs,.inl ⟨_,_,rfl,g'.done⟩⟩) fun c=>?_;have c:=nbeq c;exact zc8 (fun _=>wv3 ⟨hs,.inr ⟨_,_,_,_,_,rfl,g',hia,by lia,by lia⟩⟩) fun _=>wv3 ⟨hs,_,_,_,_,_,rfl,g',hia,by lia,by lia⟩
   ·have g':=g.a1 xa;refine zc8 (c:=(ia+1+1 == a.size)=true) (fun _=>wv3 ⟨hs,.inl ⟨_,_,rfl,g'.last⟩⟩) fun c=>?_;have c:=nbeq c;exact zc8 (fun _=>wv3 ⟨hs,.inr ⟨_,_,_,_,_,rfl,g',by lia,hib,by lia⟩⟩) fun _=>wv3 ⟨hs,_,_,_,_,_,rfl,g',by lia,hib,by lia⟩
  case post1=>
   rintro c st' ⟨hs,⟨r,rest,rfl,hr⟩ | ⟨out,ia,ib,ac,bc,rfl,m⟩⟩
   ·exact wv3 ⟨hs,_,_,rfl,hr⟩
   ·dsimp only;refine wt5 (wpS_lift (vf4 ⟨rfl,?_⟩));refine wt5 (vn7 (vb2 (I:=fun y c st'=>SameG st st'/\∃out ia ib mg ac bc,c=(none,out,ia,ib,mg,ac,bc)/\Mi a b out ia ib (x+2+y))
     (Q:=fun c st'=>SameG st st'/\((∃r rest,c=(some r,rest)/\r.toList.Perm (a.toList++b.toList))∨∃out ia ib mg ac bc,c=(none,out,ia,ib,mg,ac,bc)/\Mi a b out ia ib (x+2))) ?step2 ?fin2 ⟨hs,_,_,_,_,_,_,rfl,m⟩) ?post2)
    case fin2=>
     rintro c st' ⟨_,out,ia,ib,mg,ac,bc,rfl,_,h1,h2,h3⟩;lia
    case post2=>
     rintro c st' ⟨hs,⟨r,rest,rfl,hr⟩ | ⟨out,ia,ib,mg,ac,bc,rfl,m⟩⟩
     ·exact wv3 ⟨hs,_,_,rfl,hr⟩
     ·exact wt5 (m:=smg' _) (yw1 hs fun st2 hs2=>wv3 ⟨hs2,_,_,_,_,rfl,m⟩)
    case step2=>
     rintro y c st' _ hy ⟨hs,out,ia,ib,mg,ac,bc,rfl,g,hia,hib,hxi⟩;refine zc8 (fun _=>?_) (fun _=>?_)
     all_goals
      refine wt5 (m:=smg' _) (yw1 hs fun st2 hs2=>?_);have hk2:kindOf st2=kd:=hs2.kd.trans hk;obtain⟨q,xb,pb⟩:=gb ib hib;refine wt5 (m:=elem' b ib) (zf1 xb ?_);refine wt5 (m:=gal' false q a ia (a.size-ia) 0) (xd1 C hk2 (by lia) (by lia) ua pb fun k hkn=>?_);have g1:=g.ak k;refine zc8 (c:=k > 0) (fun ck=>zc8 (c:=(ia+k+1 == a.size)=true) (fun c=>wv3 ⟨hs2,.inl ⟨_,_,rfl,g1.last⟩⟩) fun c=>zc8 (c:=(ia+k == a.size)=true) (fun c'=>wv3 ⟨hs2,.inl ⟨_,_,rfl,g1.done⟩⟩) fun c'=>?_) (fun ck=>?_)
      all_goals first
       | (have hi1:ia+k+1<a.size/\x+2+y<=ia+k+ib:=⟨by have:=nbeq c;have:=nbeq c';lia,by lia⟩;generalize out++a.extract ia (ia+k)=o1 at g1;generalize ia+k=i1 at g1 hi1)
       | (have hi1:ia+1<a.size/\x+2+y<=ia+ib:=⟨hia,hxi⟩;clear g1;have g1:=g;generalize out=o1 at g1;generalize ia=i1 at g1 hi1)
      all_goals
       obtain⟨p,xa,pa⟩:=ga i1 (by lia);refine wt5 (m:=elem' b ib) (zf1 xb ?_);have g2:=g1.b1 xb;refine zc8 (c:=(ib+1 == b.size)=true) (fun c=>wv3 ⟨hs2,.inl ⟨_,_,rfl,g2.done⟩⟩) fun d=>?_;have d:=nbeq d;refine wt5 (m:=elem' a i1) (zf1 xa ?_);refine wt5 (m:=gal' true p b (ib+1) (b.size-(ib+1)) 0) (xd1 C hk2 (by lia) (by lia) ub pa fun u hun=>?_);have g3:=g2.bk u;refine zc8 (c:=u > 0) (fun cu=>zc8 (c:=(ib+1+u == b.size)=true) (fun c=>wv3 ⟨hs2,.inl ⟨_,_,rfl,g3.done⟩⟩) fun e=>?_) (fun cu=>?_)
       all_goals first
        | (have hj1:ib+1+u<b.size/\ib<ib+1+u:=⟨by have:=nbeq e;lia,by lia⟩;generalize o1.push q++b.extract (ib+1) (ib+1+u)=o2 at g3;generalize ib+1+u=j1 at g3 hj1)
        | (have hj1:ib+1<b.size/\ib<ib+1:=⟨by lia,by lia⟩;clear g3;have g3:=g2;generalize o1.push q=o2 at g3;generalize ib+1=j1 at g3 hj1)
       all_goals
        refine wt5 (m:=elem' a i1) (zf1 xa ?_);have g4:=g3.a1 xa;refine zc8 (c:=(i1+1+1 == a.size)=true) (fun c=>wv3 ⟨hs2,.inl ⟨_,_,rfl,g4.last⟩⟩) fun c=>?_;have c:=nbeq c;exact zc8 (fun _=>wv3 ⟨hs2,.inr ⟨_,_,_,_,_,_,rfl,g4,by lia,by lia,by lia⟩⟩) fun _=>wv3 ⟨hs2,_,_,_,_,_,_,rfl,g4,by lia,by lia,by lia⟩
end
def mhi':Array Keyed->Array Keyed->StateT SortSt Sem (Array Keyed):=sortPriv% PySem.Builtin.mergeHi
theorem zv0{α:Type}(l:List α){p n:Nat}(h:p<=n):l.take n=l.take p++(l.take n).drop p:=by
 have:=(vc2 p (l.take n)).symm;rwa [List.take_take,vq1 h]at this
theorem yk9{α:Type}{l:List α}{n:Nat}{x:α}(hn:1<=n)(h:l[n-1]?=some x):l.take n=l.take (n-1)++[x]:=by
 obtain⟨m,rfl⟩:∃m,n=m+1:=⟨n-1,by lia⟩;rw[Nat.add_sub_cancel]at h ⊢;rw[ws7,h];rfl
section
variable{a b out:Array Keyed}{i j:Nat}{x:Keyed}
def Hd(a b out:Array Keyed)(i j:Nat):Prop:=(a.toList.take i++(b.toList.take j++out.toList.reverse)).Perm (a.toList++b.toList)
theorem Hd.a1(g:Hd a b out i j)(hi:1<=i)(h:a.toList[i-1]?=some x):Hd a b (out.push x) (i-1) j:=by
 unfold Hd at *;rw[yk9 hi h,wt7]at g;rw[vm7,vp2];exact(vh5 _ (List.perm_middle (l₁:=b.toList.take j))).trans g
theorem Hd.b1(g:Hd a b out i j)(hj:1<=j)(h:b.toList[j-1]?=some x):Hd a b (out.push x) i (j-1):=by
 unfold Hd at *;rw[yk9 hj h,wt7]at g;rw[vm7,vp2];exact g
theorem Hd.ak(g:Hd a b out i j){p:Nat}(hp:p<=i):Hd a b (out++(a.extract p i).reverse) p j:=by
 unfold Hd at *;rw[zv0 _ hp,wt7]at g;rw[wx4,vp2,vn0,List.reverse_reverse,zm2];refine(vh5 _ ?_).trans g;rw[←wt7,←wt7];exact vh6.append_right _
theorem Hd.bk(g:Hd a b out i j){p:Nat}(hp:p<=j):Hd a b (out++(b.extract p j).reverse) i p:=by
 unfold Hd at *;rw[zv0 b.toList hp,wt7]at g;rw[wx4,vp2,vn0,List.reverse_reverse,zm2];exact g
theorem Hd.done(g:Hd a b out i j):(a.extract 0 i++b.extract 0 j++out.reverse).toList.Perm (a.toList++b.toList):=by
 rw[wx4,wx4,zm2,zm2,vn0,wt7];exact g
theorem Hd.first(g:Hd a b out i j):(b.extract 0 j++a.extract 0 i++out.reverse).toList.Perm (a.toList++b.toList):=by
 rw[wx4,wx4,zm2,zm2,vn0];refine(vh6.append_right _).trans ?_;rw[wt7];exact g
structure Mh(a b out:Array Keyed)(i j t:Nat):Prop where
 g:Hd a b out i j
 ha:1<=i
 hb:2<=j
 la:i<=a.size
 lb:j<=b.size
 ht:i+j+t<=a.size+b.size
end
section
variable{kd:SortKind}{U:Keyed->Prop}{LT:Keyed->Keyed->Bool}{st:SortSt}
set_option maxHeartbeats 2000000 in
theorem mhi_ok(C:Cmp (model prog w) A E s kd U LT){a b:Array Keyed}{Q:Array Keyed->SortSt->Prop}(hk:kindOf st=kd)(ua:∀x∈a.toList,U x)(ub:∀x∈b.toList,U x)(na:0<a.size)(nb:0<b.size)
  (h:∀r st',r.toList.Perm (a.toList++b.toList)->SameG st st'->Q r st'):wpS (model prog w) A E s (mhi' a b) Q st:=by
 have la:a.toList.length=a.size:=ww1;have lb:b.toList.length=b.size:=ww1;have ga:∀i,i<a.size->∃x,a.toList[i]?=some x/\U x:=fun i hi=>⟨_,wq9 (by lia),ua _ (ww5 _)⟩
 have gb:∀i,i<b.size->∃x,b.toList[i]?=some x/\U x:=fun i hi=>⟨_,wq9 (by lia),ub _ (ww5 _)⟩
 unfold mhi' wpS
 wp_delta
 wp_delta
 show wpS (model prog w) A E s (_ >>= _) Q st;refine wt5 (wpS_lift (vf4 ⟨rfl,?_⟩));obtain⟨x0,hx0,_⟩:=ga (a.size-1) (by lia);refine wt5 (m:=elem' a (a.size-1)) (zf1 hx0 ?_);have g0:Hd a b #[x0] (a.size-1) b.size:=Hd.a1 (out:=#[]) (by
  show(_++(_++[])).Perm _;rw[wx1,wr8 (by lia),wr8 (by lia)]) na hx0
 refine zc8 (c:=(a.size-1 == 0)=true) (fun _=>wv3 (h _ _ g0.done SameG.refl)) fun c1=>?_;refine zc8 (c:=(b.size == 1)=true) (fun _=>wv3 (h _ _ g0.first SameG.refl)) fun c2=>?_;have c1:=nbeq c1;have c2:=nbeq c2;refine wt5 (vr5 ?_);refine wt5 (vn7 (vb2 (I:=fun x c st'=>SameG st st'/\∃m n out mg,c=(none,m,n,out,mg)/\Mh a b out m n (x+1))
  (Q:=fun c st'=>SameG st st'/\∃r rest,c=(some r,rest)/\r.toList.Perm (a.toList++b.toList)) ?step ?fin ⟨SameG.refl,_,_,_,_,rfl,g0,by lia,by lia,by lia,by lia,by lia⟩) ?post)
 case fin=>
  rintro c st' ⟨_,m,n,out,mg,rfl,_,h1,h2,h3,h4,h5⟩;lia
 case post=>
  rintro c st' ⟨hs,r,rest,rfl,hr⟩;exact wv3 (h r st' hr hs)
 case step=>
  rintro x c st' _ hx ⟨hs,m,n,out,mg,rfl,mm⟩;dsimp only;refine wt5 (vn7 (vb2 (I:=fun y c st'=>SameG st st'/\∃m n out ac bc,c=(none,m,n,out,ac,bc)/\Mh a b out m n (x+1+y))
   (Q:=fun c st'=>SameG st st'/\((∃r rest,c=(some r,rest)/\r.toList.Perm (a.toList++b.toList))∨∃m n out ac bc,c=(none,m,n,out,ac,bc)/\Mh a b out m n (x+2))) ?step1 ?fin1 ⟨hs,_,_,_,_,_,rfl,mm⟩) ?post1)
  case fin1=>
   rintro c st' ⟨_,m,n,out,ac,bc,rfl,_,h1,h2,h3,h4,h5⟩;lia
  case step1=>
   rintro y c st' _ hy ⟨hs,m,n,out,ac,bc,rfl,g,hm,hn,hma,hnb,hxi⟩;dsimp only;obtain⟨p,xa,pa⟩:=ga (m-1) (by lia);obtain⟨q,xb,pb⟩:=gb (n-1) (by lia);refine wt5 (m:=elem' b (n-1)) (zf1 xb (wt5 (m:=elem' a (m-1)) (zf1 xa (wt5 (C pb pa (hs.kd.trans hk) ?_)))));refine zc8 (c:=LT q p=true) (fun _=>wt5 (m:=elem' a (m-1)) (zf1 xa ?_)) fun _=>wt5 (m:=elem' b (n-1)) (zf1 xb ?_)
   ·have g':=g.a1 hm xa;refine zc8 (c:=(m-1 == 0)=true) (fun _=>wv3 ⟨hs,.inl ⟨_,_,rfl,g'.done⟩⟩) fun c=>?_;have c:=nbeq c;exact zc8 (fun _=>wv3 ⟨hs,.inr ⟨_,_,_,_,_,rfl,g',by lia,hn,by lia,hnb,by lia⟩⟩) fun _=>wv3 ⟨hs,_,_,_,_,_,rfl,g',by lia,hn,by lia,hnb,by lia⟩
   ·have g':=g.b1 (by lia) xb;refine zc8 (c:=(n-1 == 1)=true) (fun _=>wv3 ⟨hs,.inl ⟨_,_,rfl,g'.first⟩⟩) fun c=>?_;have c:=nbeq c;exact zc8 (fun _=>wv3 ⟨hs,.inr ⟨_,_,_,_,_,rfl,g',hm,by lia,hma,by lia,by lia⟩⟩) fun _=>wv3 ⟨hs,_,_,_,_,_,rfl,g',hm,by lia,hma,by lia,by lia⟩
  case post1=>
   rintro c st' ⟨hs,⟨r,rest,rfl,hr⟩ | ⟨m,n,out,ac,bc,rfl,mm⟩⟩
   ·exact wv3 ⟨hs,_,_,rfl,hr⟩
   ·dsimp only;refine wt5 (wpS_lift (vf4 ⟨rfl,?_⟩));refine wt5 (vn7 (vb2 (I:=fun y c st'=>SameG st st'/\∃m n out mg ac bc,c=(none,m,n,out,mg,ac,bc)/\Mh a b out m n (x+2+y))
     (Q:=fun c st'=>SameG st st'/\((∃r rest,c=(some r,rest)/\r.toList.Perm (a.toList++b.toList))∨∃m n out mg ac bc,c=(none,m,n,out,mg,ac,bc)/\Mh a b out m n (x+2))) ?step2 ?fin2 ⟨hs,_,_,_,_,_,_,rfl,mm⟩) ?post2)
    case fin2=>
     rintro c st' ⟨_,m,n,out,mg,ac,bc,rfl,_,h1,h2,h3,h4,h5⟩;lia
    case post2=>
     rintro c st' ⟨hs,⟨r,rest,rfl,hr⟩ | ⟨m,n,out,mg,ac,bc,rfl,mm⟩⟩
     ·exact wv3 ⟨hs,_,_,rfl,hr⟩
     ·exact wt5 (m:=smg' _) (yw1 hs fun st2 hs2=>wv3 ⟨hs2,_,_,_,_,rfl,mm⟩)
    case step2=>
     rintro y c st' _ hy ⟨hs,m,n,out,mg,ac,bc,rfl,g,hm,hn,hma,hnb,hxi⟩;refine zc8 (fun _=>?_) (fun _=>?_)
     all_goals
      refine wt5 (m:=smg' _) (yw1 hs fun st2 hs2=>?_);have hk2:kindOf st2=kd:=hs2.kd.trans hk;obtain⟨q,xb,pb⟩:=gb (n-1) (by lia);refine wt5 (m:=elem' b (n-1)) (zf1 xb ?_);refine wt5 (m:=gal' false q a 0 m (m-1)) (xd1 C hk2 (by lia) (by lia) ua pb fun p hpn=>?_);have g1:=g.ak hpn;refine zc8 (c:=m-p > 0) (fun ck=>zc8 (c:=(p == 0)=true) (fun c=>wv3 ⟨hs2,.inl ⟨_,_,rfl,g1.done⟩⟩) fun c=>?_) (fun ck=>?_)
      all_goals first
       | (have hi1:1<=p/\p<=a.size/\p+n+(x+2+y)<=a.size+b.size:=⟨by have:=nbeq c;lia,by lia,by lia⟩;generalize out++(a.extract p m).reverse=o1 at g1)
       | (have hi1:1<=m/\m<=a.size/\m+n+(x+2+y)<=a.size+b.size:=⟨hm,hma,hxi⟩;clear g1;have g1:=g;generalize out=o1 at g1;(have ep:p=m:=by lia);subst ep)
      all_goals
       obtain⟨z,xa,pa⟩:=ga (p-1) (by lia);refine wt5 (m:=elem' b (n-1)) (zf1 xb ?_);have g2:=g1.b1 (by lia) xb;refine zc8 (c:=(n-1 == 1)=true) (fun c=>wv3 ⟨hs2,.inl ⟨_,_,rfl,g2.first⟩⟩) fun d=>?_;have d:=nbeq d;refine wt5 (m:=elem' a (p-1)) (zf1 xa ?_);refine wt5 (m:=gal' true z b 0 (n-1) (n-1-1)) (xd1 C hk2 (by lia) (by lia) ub pa fun u hun=>?_);have g3:=g2.bk hun;refine zc8 (c:=n-1-u > 0) (fun cu=>zc8 (c:=(u == 1)=true) (fun c=>wv3 ⟨hs2,.inl ⟨_,_,rfl,g3.first⟩⟩) fun e=>zc8 (c:=(u == 0)=true) (fun c'=>wv3 ⟨hs2,.inl ⟨_,_,rfl,g3.done⟩⟩) fun e'=>?_) (fun cu=>?_)
       all_goals first
        | (have hj1:2<=u/\u<n:=⟨by have:=nbeq e;have:=nbeq e';lia,by lia⟩;generalize o1.push q++(b.extract u (n-1)).reverse=o2 at g3)
        | (have hj1:2<=n-1/\n-1<n:=⟨by lia,by lia⟩;clear g3;have g3:=g2;generalize o1.push q=o2 at g3;(have eu:u=n-1:=by lia);subst eu)
       all_goals
        refine wt5 (m:=elem' a (p-1)) (zf1 xa ?_);have g4:=g3.a1 hi1.1 xa;refine zc8 (c:=(p-1 == 0)=true) (fun c=>wv3 ⟨hs2,.inl ⟨_,_,rfl,g4.done⟩⟩) fun c=>?_;have c:=nbeq c;exact zc8 (fun _=>wv3 ⟨hs2,.inr ⟨_,_,_,_,_,_,rfl,g4,by lia,hj1.1,by lia,by lia,by lia⟩⟩) fun _=>wv3 ⟨hs2,_,_,_,_,_,_,rfl,g4,by lia,hj1.1,by lia,by lia,by lia⟩
end
structure SB(kd:SortKind)(a₀:Array Keyed)(pe:Array (Nat×Nat×Nat))(st:SortSt):Prop where
 pm:(arrOf st).Perm a₀
 kd:kindOf st=kd
 fa:failedOf st=none
 pe:pendingOf st=pe
section
variable{kd:SortKind}{LT:Keyed->Keyed->Bool}{a₀:Array Keyed}{pe:Array (Nat×Nat×Nat)}{st:SortSt}{lo:Nat}
theorem SB.put(h:SB kd a₀ pe st){xs:Array Keyed}(hp:xs.Perm (arrOf st)):SB kd a₀ pe (setArr st xs):=⟨hp.trans h.pm,h.kd,h.fa,h.pe⟩
theorem SB.at(h:SB kd a₀ pe st){i:Nat}(hi:i<a₀.size):∃x,(arrOf st)[i]?=some x/\x∈a₀.toList:=by
 have hs:i<(arrOf st).size:=by rw[h.pm.size_eq];exact hi
 refine⟨_,vn1 hs,(vh2.mp h.pm).mem_iff.mp ?_⟩;simp
theorem yb7(C:Cmp (model prog w) A E s kd (·∈a₀.toList) LT){i j:Nat}{Q:Option Bool->SortSt->Prop}(h:SB kd a₀ pe st)(hi:i<a₀.size)(hj:j<a₀.size)(q:∀b,Q (some b) st):wpS (model prog w) A E s (ltAt' i j) Q st:=by
 rw[ltAt'_eq];refine wt5 (vr5 ?_);show wpS _ _ _ _ (do let x ←elem' (arrOf st) i;let y ←elem' (arrOf st) j;lt' x y) Q st;obtain⟨x,hx,ux⟩:=h.at hi;obtain⟨y,hy,uy⟩:=h.at hj;rw[elem'_eq,elem'_eq,hx,hy];exact wt5 (wv3 (wt5 (wv3 (C ux uy h.kd (q _)))))
theorem bin_ok(C:Cmp (model prog w) A E s kd (·∈a₀.toList) LT){n ok:Nat}{Q:Bool->SortSt->Prop}(hn:lo+n<=a₀.size)(hB:SB kd a₀ pe st)(h:∀st',SB kd a₀ pe st'->Q true st'):wpS (model prog w) A E s (binarySort' lo n ok) Q st:=by
 rw[binarySort'_eq];refine wt5 (vn7 (vb2 (I:=fun k c st'=>c=(none,())/\SB kd a₀ pe st') (Q:=fun c st'=>c=(none,())/\SB kd a₀ pe st') ?_ (fun _ _ h=>h) ⟨rfl,hB⟩) ?_)
 ·rintro k c st' hak hkn ⟨rfl,hB'⟩;refine wt5 (vn7 (vb2 (I:=fun x c st''=>st''=st'/\∃l r,c=(none,l,r)/\r<=k) (Q:=fun c st''=>st''=st'/\∃l r,c=(none,l,r)/\r<=k) ?_ (fun _ _ h=>h) ⟨rfl,0,k,rfl,wr5 _⟩) ?_)
  ·rintro x c _ _ hxk ⟨rfl,l,r,rfl,hrk⟩;dsimp only;refine zc8 (fun _=>wv3 ⟨rfl,l,r,rfl,hrk⟩) fun hge=>?_;refine wt5 (yb7 C hB' (by lia) (by lia) fun b=>?_);cases b <;> exact wv3 ⟨rfl,_,_,rfl,by lia⟩
  ·rintro c _ ⟨rfl,l,r,rfl,hlk⟩;show wpS _ _ _ _ (do moveDown' (lo+k) (lo+l);pure (ForInStep.yield (none,()))) _ _;rw[moveDown'_eq];exact wt5 (vr4 (wv3 ⟨rfl,hB'.put (bubble_perm _ _ _)⟩))
 ·rintro c st' ⟨rfl,hB'⟩;exact wv3 (h st' hB')
theorem yw9{i j:Nat}{Q:Unit->SortSt->Prop}(h:SB kd a₀ pe st)(q:∀st',SB kd a₀ pe st'->Q () st'):wpS (model prog w) A E s (reverseSlice' i j) Q st:=by
 rw[reverseSlice'_eq];exact vr4 (q _ (h.put (mirror_perm _ _ _ _)))
theorem wc5(C:Cmp (model prog w) A E s kd (·∈a₀.toList) LT){nrem n0:Nat}{Q:(Option (Option Nat)×Nat)->SortSt->Prop}(hn:lo+nrem<=a₀.size)(h1:1<=n0)(h2:n0<=nrem)(hB:SB kd a₀ pe st)(h:∀n,n0<=n->n<=nrem->Q (none,n) st):
  wpS (model prog w) A E s (forIn [n0:nrem] ((none:Option (Option Nat)),n0) fun _ c=>ltAt' (lo+c.2) (lo+c.2-1) >>= fun r=>match r with
   | some smaller=>if smaller=true then pure (ForInStep.done (none,c.2)) else pure (ForInStep.yield (none,c.2+1))
   | _=>pure (ForInStep.done (some none,c.2))) Q st:=by
 refine vb2 (I:=fun x c st'=>st=st'/\c=(none,x)/\n0<=x/\x<=nrem) ?_ ?_ ⟨rfl,rfl,wr5 _,h2⟩
 ·rintro x c _ _ hx ⟨rfl,rfl,g1,g2⟩;refine wt5 (yb7 C hB (by dsimp only;lia) (by dsimp only;lia) fun b=>?_);cases b
  ·exact wv3 ⟨rfl,rfl,by lia,by lia⟩
  ·exact wv3 (h x g1 g2)
 ·rintro c _ ⟨rfl,rfl,g1,g2⟩;exact h _ g1 g2
theorem run_ok(C:Cmp (model prog w) A E s kd (·∈a₀.toList) LT){nrem:Nat}{Q:Option Nat->SortSt->Prop}(hn:lo+nrem<=a₀.size)(h1:1<=nrem)(hB:SB kd a₀ pe st)(h:∀m st',SB kd a₀ pe st'->1<=m->m<=nrem->Q (some m) st'):wpS (model prog w) A E s (countRun' lo nrem) Q st:=by
 rw[countRun'_eq];refine wt5 (wc5 C hn (wr5 1) h1 hB fun n g1 g2=>?_);dsimp only;refine zc8 (fun _=>wv3 (h n st hB g1 g2)) fun c1=>?_;have c1:=nbeq c1;refine zc8 (fun c2=>wt5 (yb7 C hB (by lia) (by lia) fun b=>zc8 (c:=b=true) (fun _=>wv3 (h n st hB g1 g2)) fun _=>wt5 (yw9 hB fun st2 hB2=>?_))) fun c2=>?_
 all_goals
  first
   | have hB:=hB2
   | skip
  refine wt5 (wpS_lift (vf4 ⟨rfl,?_⟩));refine wt5 (vn7 (vb2 (I:=fun x c st'=>∃q,c=(none,x,q)/\n+1<=x/\x<=nrem/\SB kd a₀ pe st') (Q:=fun c st'=>∃m q,c=(none,m,q)/\n+1<=m/\m<=nrem/\SB kd a₀ pe st') ?_ ?_ ⟨0,rfl,wr5 _,by lia,hB⟩) ?_)
  ·rintro x c st' _ hx ⟨q,rfl,e1,e2,hB'⟩;dsimp only;exact wt5 (yb7 C hB' (by lia) (by lia) fun b=>zc8 (c:=b=true) (fun _=>zc8 (fun _=>wt5 (yw9 hB' fun st3 hB3=>wv3 ⟨_,rfl,by lia,by lia,hB3⟩)) fun _=>wv3 ⟨_,rfl,by lia,by lia,hB'⟩) fun _=>wt5 (yb7 C hB' (by lia) (by lia) fun b=>zc8 (c:=b=true) (fun _=>wv3 ⟨_,_,rfl,e1,e2,hB'⟩) fun _=>wv3 ⟨_,rfl,by lia,by lia,hB'⟩))
  ·rintro c st' ⟨q,rfl,e1,e2,hB'⟩;exact⟨_,q,rfl,e1,e2,hB'⟩
  ·rintro c st' ⟨m,q,rfl,e1,e2,hB'⟩;dsimp only;refine zc8 (fun _=>wt5 (yw9 hB' fun st3 hB3=>?_)) fun _=>?_
   all_goals
    first
     | have hB':=hB3
     | skip
    exact wt5 (yw9 hB' fun st4 hB4=>wt5 (wc5 C hn (by lia) e2 hB4 fun k k1 k2=>wv3 (h k _ hB4 (by lia) k2)))
end
theorem yz1{α:Type}:∀(ms:List α)(i o:Nat)(arr:Array α),o+i+ms.length<=arr.size->
  ((ms.zipIdx i).foldl (fun a x=>a.setIfInBounds (o+x.2) x.1) arr).toList=arr.toList.take (o+i)++ms++arr.toList.drop (o+i+ms.length)
 | [],i,o,arr,_=>by simp
 | x::ms,i,o,arr,h=>by
  have hl:o+i<arr.size:=by rw[wt3]at h;lia
  rw[List.zipIdx_cons,List.foldl_cons];have:=yz1 ms (i+1) o (arr.setIfInBounds (o+i) x) (by rw[Array.size_setIfInBounds];rw[wt3]at h;lia);rw[this,Array.toList_setIfInBounds,wt3];have hl2:o+i<arr.toList.length:=by rw[ww1];exact hl
  rw[List.take_set,List.drop_set_of_lt (by lia)];have e1:(arr.toList.take (o+(i+1))).set (o+i) x=arr.toList.take (o+i)++[x]:=by
   rw[show o+(i+1)=o+i+1 by lia,ws7,wq9 hl2];rw[List.set_append_right _ _ (by rw[wt4];lia)];have e0:o+i-(arr.toList.take (o+i)).length=0:=by rw[wt4];lia
   rw[e0];rfl
  rw[e1,show o+(i+1)+ms.length=o+i+(ms.length+1) by lia,wt7,wt7];simp
theorem xh1{n:Nat}(h:2<=n)(h2:n<128):∃m,minRun' n n 0=m/\1<=m/\m<=n/\n<=2*m:=by
 refine⟨_,rfl,?_⟩;obtain⟨f,rfl⟩:∃f,n=f+1+1:=⟨n-2,by lia⟩;rw[minRun'_succ]
 by_cases c:f+1+1<64
 ·rw[ww4 c];lia
 ·rw[wv5 c,minRun'_succ,ww4 (by lia)];have:max 0 ((f+1+1) % 2)=(f+1+1) % 2:=by lia
  rw[this];lia
section
variable{kd:SortKind}{LT:Keyed->Keyed->Bool}{a₀:Array Keyed}{st:SortSt}
theorem wh0{σ:Type}{M:Model}{st st':σ}{Q:PUnit->σ->Prop}(h:Q ⟨⟩ st'):wpS M A E s (set st':StateT σ Sem PUnit) Q st:=by
 unfold wpS;exact wr7 ⟨rfl,h⟩
set_option maxHeartbeats 1000000 in
theorem mat_ok(C:Cmp (model prog w) A E s kd (·∈a₀.toList) LT){m r pw:Nat}{Q:Bool->SortSt->Prop}(hB:SB kd a₀ #[(0,m,pw),(m,r,0)] st)(hm:1<=m)(hr:1<=r)(hz:m+r=a₀.size)
  (h:∀st',(arrOf st').Perm a₀->failedOf st'=none->(pendingOf st').size=1->Q true st'):wpS (model prog w) A E s (mergeAt' 0) Q st:=by
 obtain⟨hp,hk,hf,hpe⟩:=id hB;have hsz:(arrOf st).size=m+r:=by rw[hp.size_eq];exact hz.symm
 have hpl:=vh2.mp hp;have hu:∀x∈(arrOf st).toList,x∈a₀.toList:=fun x hx=>hpl.mem_iff.mp hx;have lL:(arrOf st).toList.length=m+r:=by rw[ww1];exact hsz
 have gx:∀i,i<m+r->∃x,(arrOf st).toList[i]?=some x/\x∈a₀.toList:=fun i hi=>⟨_,wq9 (by lia),hu _ (ww5 _)⟩
 unfold mergeAt' wpS
 wp_delta
 wp_delta
 show wpS (model prog w) A E s (get >>= _) Q st;refine wt5 (vr5 ?_);have ePd:(((#[(0,m,pw),(m,r,0)]:Array (Nat×Nat×Nat)).setIfInBounds 0 (0,m+r,pw)).eraseIdxIfInBounds (0+1)).size=1:=by simp[Array.eraseIdxIfInBounds]
 have hpe2:=hpe;unfold pendingOf at hpe2;rw[hpe2];refine wt5 (wh0 ?_);obtain⟨x,hx,ux⟩:=gx m (by lia);refine wt5 (m:=elem' (arrOf st) m) (zf1 hx ?_);refine wt5 (m:=gal' false x (arrOf st) 0 m 0) (xd1 C hk (by lia) (by lia) hu ux fun k hkm=>?_);refine zc8 (c:=(m-k == 0)=true) (fun c=>wv3 (h _ hp hf ePd)) (fun c=>?_);have c:=nbeq c;obtain⟨y,hy,uy⟩:=gx (0+k+(m-k)-1) (by lia);refine wt5 (m:=elem' (arrOf st) (0+k+(m-k)-1)) (zf1 hy ?_);refine wt5 (m:=gal' true y (arrOf st) m r (r-1)) (xd1 C hk (by lia) (by lia) hu uy fun b hbr=>?_);refine zc8 (c:=(b == 0)=true) (fun c=>wv3 (h _ hp hf ePd)) (fun d=>?_);have d:=nbeq d;have eX:((arrOf st).extract (0+k) m).toList=((arrOf st).toList.take m).drop k:=by rw[zm2,Nat.zero_add]
 have eY:((arrOf st).extract m (m+b)).toList=((arrOf st).toList.drop m).take b:=ys3 _ _ _;have zX:((arrOf st).extract (0+k) m).size=m-k:=by rw[←ww1,eX,vc7,wt4,lL];lia
 have zY:((arrOf st).extract m (m+b)).size=b:=by rw[←ww1,eY,wt4,vc7,lL];lia
 have uX:∀x∈((arrOf st).extract (0+k) m).toList,x∈a₀.toList:=fun x hx=>hu x (by rw[eX]at hx;exact vd2 (List.mem_of_mem_drop hx))
 have uY:∀x∈((arrOf st).extract m (m+b)).toList,x∈a₀.toList:=fun x hx=>hu x (by rw[eY]at hx;exact List.mem_of_mem_drop (vd2 hx))
 have last:∀(mg:Array Keyed)(st2:SortSt),mg.toList.Perm (((arrOf st).extract (0+k) m).toList++((arrOf st).extract m (m+b)).toList)->SameG (setPending st (((#[(0,m,pw),(m,r,0)]:Array (Nat×Nat×Nat)).setIfInBounds 0 (0,m+r,pw)).eraseIdxIfInBounds (0+1))) st2->
   Q (failedOf st2).isNone (setArr st2 ((mg.toList.zipIdx).foldl (fun a x=>a.setIfInBounds (0+k+x.2) x.1) (arrOf st2))):=fun mg st2 m1 hs=>by
  have ef:failedOf st2=none:=hs.fa.trans hf;rw[ef];refine h _ ?_ ef ?_
  ·show((mg.toList.zipIdx).foldl (fun a x=>a.setIfInBounds (0+k+x.2) x.1) (arrOf st2)).Perm a₀;rw[show arrOf st2=arrOf st from hs.ar];have zm:mg.toList.length=m-k+b:=by rw[m1.length_eq,wr2,ww1,ww1,zX,zY]
   have e:=yz1 mg.toList 0 (0+k) (arrOf st) (by rw[zm];lia);rw[Nat.add_zero,Nat.zero_add,zm,show k+(m-k+b)=m+b by lia]at e;rw[Nat.zero_add];have eL:(arrOf st).toList=(arrOf st).toList.take k++(((arrOf st).toList.take m).drop k++((arrOf st).toList.drop m).take b)++(arrOf st).toList.drop (m+b):=by
    rw[wt7,wt7,←zt2,←wt7,←zv0 _ (by lia:k<=m),vc2]
   rw[vh2,e];refine List.Perm.trans ?_ hpl
   conv=>rhs;rw[eL]
   refine List.Perm.append_right _ (vh5 _ ?_);rw[←eX,←eY];exact m1
  ·show(pendingOf st2).size=1;rw[hs.pe];exact ePd
 refine zc8 (fun _=>?_) (fun _=>?_)
 ·exact wt5 (m:=mlo' ((arrOf st).extract (0+k) m) ((arrOf st).extract m (m+b))) (mlo_ok C hk uX uY (by rw[zX];lia) (by rw[zY];lia) fun mg st2 hmg hs=>wt5 (vr4 (wt5 (vr5 (wv3 (last mg st2 hmg hs))))))
 ·exact wt5 (m:=mhi' ((arrOf st).extract (0+k) m) ((arrOf st).extract m (m+b))) (mhi_ok C hk uX uY (by rw[zX];lia) (by rw[zY];lia) fun mg st2 hmg hs=>wt5 (vr4 (wt5 (vr5 (wv3 (last mg st2 hmg hs))))))
inductive Rn(n mr lo:Nat)(st:SortSt):Prop
 | zero:lo=0->pendingOf st=#[]->Rn n mr lo st
 | one (p:Nat):1<=lo->lo<=n->(lo=n∨mr<=lo)->pendingOf st=#[(0,lo,p)]->Rn n mr lo st
 | two (m r p:Nat):lo=n->m+r=n->1<=m->1<=r->pendingOf st=#[(0,m,p),(m,r,0)]->Rn n mr lo st
set_option maxHeartbeats 1000000 in
theorem wh7(C:Cmp (model prog w) A E s kd (·∈a₀.toList) LT){Q:Unit->SortSt->Prop}(hB0:SB kd a₀ #[] st)(h2:2<=a₀.size)(h128:a₀.size<128)
  (h:∀st',(arrOf st').Perm a₀->failedOf st'=none->Q () st'):wpS (model prog w) A E s sortRuns' Q st:=by
 rw[sortRuns'_eq];refine wt5 (vr5 ?_);obtain⟨mr,emr,m1,m2,m3⟩:=xh1 h2 h128;dsimp only;rw[hB0.pm.size_eq,emr];refine wt5 (vn7 (vb2 (I:=fun x c st'=>∃lo,c=(none,lo)/\x<=lo/\lo<=a₀.size/\SB kd a₀ (pendingOf st') st'/\Rn a₀.size mr lo st')
  (Q:=fun c st'=>c=(none,a₀.size)/\SB kd a₀ (pendingOf st') st'/\Rn a₀.size mr a₀.size st') ?step ?fin ?init) ?post)
 case init=>exact⟨0,rfl,wr5 _,wt6 _,⟨hB0.pm,hB0.kd,hB0.fa,rfl⟩,.zero rfl hB0.pe⟩
 case fin=>
  rintro c st' ⟨lo,rfl,f1,f2,f3,f6⟩;have e:lo=a₀.size:=by lia
  subst e;exact⟨rfl,f3,f6⟩
 case step=>
  rintro x c st' _ hx ⟨lo,rfl,f1,f2,hB,f6⟩;dsimp only
  by_cases c0:lo≥a₀.size
  ·rw[ww4 c0];have e:lo=a₀.size:=by lia
   subst e;exact wv3 ⟨rfl,hB,f6⟩
  rw[wv5 c0];refine wt5 (run_ok C (nrem:=a₀.size-lo) (by lia) (by lia) hB fun n st2 hB2 k1 k2=>?_);dsimp only;refine zc8 (fun c1=>wt5 (wpS_lift (vf4 ⟨rfl,wt5 (bin_ok C (n:=min (a₀.size-lo) mr) (by lia) hB2 fun st2 hB2=>?_)⟩))) (fun c1=>?_)
  all_goals first
   | (rw[wv5 (by decide)];(have k3:1<=min (a₀.size-lo) mr/\min (a₀.size-lo) mr<=a₀.size-lo/\(min (a₀.size-lo) mr=a₀.size-lo∨mr<=min (a₀.size-lo) mr):=by lia);clear k1 k2 c1;generalize min (a₀.size-lo) mr=n at k3)
   | ((have k3:1<=n/\n<=a₀.size-lo/\(n=a₀.size-lo∨mr<=n):=by lia))
  all_goals
   refine wt5 (vr5 ?_);have ep:=hB2.pe;cases f6 with
   | zero el el2=>
    subst el;rw[el2]at ep;rw[ep];refine wt5 (vr4 (wv3 ⟨0+n,rfl,by lia,by lia,⟨hB2.pm,hB2.kd,hB2.fa,rfl⟩,(.one 0 (by lia) (by lia) (by lia) ?_)⟩));show(pendingOf st2).push (0,n,0)=_;rw[ep,Nat.zero_add];rfl
   | one p q1 q2 q3 q4=>
    rw[q4]at ep;rw[ep];have eb:(#[(0,lo,p)]:Array (Nat×Nat×Nat)).back?=some (0,lo,p):=rfl;rw[eb];refine wt5 (vn7 (vb2 (I:=fun x c st''=>st2=st''/\c=(none,())) (Q:=fun c st''=>st2=st''/\c=(none,())) ?_ (fun _ _ h=>h) ⟨rfl,rfl⟩) ?_)
    ·rintro x c _ _ hx ⟨rfl,rfl⟩;refine wt5 (vr5 ?_);rw[ep];exact wv3 ⟨rfl,rfl⟩
    rintro c _ ⟨rfl,rfl⟩;dsimp only;refine wt5 (vr4 (wt5 (vr4 (wv3 ⟨lo+n,rfl,by lia,by lia,⟨hB2.pm,hB2.kd,hB2.fa,rfl⟩,(.two lo n (power' a₀.size (2*0+lo) (2*0+lo+lo+n) a₀.size) (by lia) (by lia) (by lia) (by lia) ?_)⟩))));show((pendingOf st2).modify ((pendingOf st2).size-1) _).push (lo,n,0)=_;rw[ep];simp[Array.modify,Array.modifyM,Id.run];rfl
   | two m' r p q1=>lia
 case post=>
  rintro c st1 ⟨rfl,hB,f6⟩;dsimp only;cases f6 with
  | zero e=>lia
  | one p q1 q2 q3 q4=>
   refine wt5 (vn7 (vb2 (I:=fun x c st''=>st1=st''/\c=(none,())) (Q:=fun c st''=>st1=st''/\c=(none,())) ?_ (fun _ _ h=>h) ⟨rfl,rfl⟩) ?_)
   ·rintro x c _ _ hx ⟨rfl,rfl⟩;refine wt5 (vr5 ?_);rw[q4];exact wv3 ⟨rfl,rfl⟩
   rintro c _ ⟨rfl,rfl⟩;exact wv3 (h _ hB.pm hB.fa)
  | two m r p q0 q1 q2 q3 q4=>
   rw[q4]at hB;refine wt5 (vn7 (vb2 (I:=fun x c st''=>c=(none,())/\(x=0->st1=st'')/\(x≠0->(arrOf st'').Perm a₀/\failedOf st''=none/\(pendingOf st'').size=1))
    (Q:=fun c st''=>c=(none,())/\(arrOf st'').Perm a₀/\failedOf st''=none) ?_ ?_ ⟨rfl,fun _=>rfl,fun z=>absurd rfl z⟩) ?_)
   ·rintro x c st2 _ hx ⟨rfl,t1,t2⟩;refine wt5 (vr5 ?_)
    by_cases ex:x=0
    ·cases t1 ex;rw[q4];refine zc8 (fun z=>absurd z (show ¬2<=1 by decide)) (fun _=>?_);refine wt5 (m:=mergeAt' 0) (mat_ok C hB q2 q3 q1 fun st3 k1 k2 k3=>?_);rw[wv5 (by decide)];exact wv3 ⟨rfl,fun z=>by lia,fun _=>⟨k1,k2,k3⟩⟩
    ·obtain⟨k1,k2,k3⟩:=t2 ex;refine zc8 (fun _=>wv3 ⟨rfl,k1,k2⟩) (fun z=>absurd (by rw[k3];exact wr5 _) z)
   ·rintro c st2 ⟨rfl,t1,t2⟩;obtain⟨k1,k2,k3⟩:=t2 (by lia);exact⟨rfl,k1,k2⟩
   rintro c st2 ⟨rfl,k1,k2⟩;exact wv3 (h _ k1 k2)
end
section
variable{kd:SortKind}{LT:Keyed->Keyed->Bool}
def zn5(h:Heap)(a:Addr)(vs:List Value):Heap:=((h.update a (Obj.mapSeq fun _=>#[])).push (seqObj "tuple" vs.toArray 0)).push (seqObj "list" #[] 0)
set_option maxHeartbeats 1000000 in
theorem xv8{a:Addr}{vs:List Value}{n:Nat}{P:PySem.Fin->Shared->Prop}(ho:s.heap.get? a=some (seqObj "list" vs.toArray n))(hl:vs.length<128)
  (hkk:2<=vs.length->∀Q:SortKind->Shared->Prop,Q kd {s with heap:=zn5 s.heap a vs}->wpAny (model prog w) A (keyKind' vs.toArray) Q E {s with heap:=zn5 s.heap a vs})
  (C:Cmp (model prog w) A E {s with heap:=zn5 s.heap a vs} kd (·∈(pairsOf vs).toList) LT)
  (h:∀out:Array Keyed,out.Perm (pairsOf vs)->P (.done (.ret .none)) {s with heap:=sortedHeap s.heap a vs (out.map (·.2))}):
  wpAny (model prog w) A (Builtin.«list.sort» {pos:=[.ref a]}) P E s:=by
 rw[list_sort_plain];have ha:=ws1 ho;have hv:vs.toArray.size<=sizeLine:=by rw[vj9,ws9];lia
 refine wq8 (listItems_at ho rfl (wq8 (listUpdate_at ho rfl ?_ hv (wt6 _))));obtain⟨e1,ho1⟩:∃e,(s.heap.update a (Obj.mapSeq fun _=>#[])).get? a=some (seqObj "list" #[] e):=⟨_,get?_update_seq ho fun _=>#[]⟩;refine wq8 (seqEpoch_at ho1 rfl (wq8 (wpAny_newTuple (wq8 (wpAny_newList (wx2 ?_))))));have ho6:(zn5 s.heap a vs).get? a=some (seqObj "list" #[] e1):=by
  unfold zn5;rw[Heap.get?_push_ne _ _ _ (by rw[size_push',Heap.size_update];exact ws6 (Nat.lt_succ_of_lt ha)),Heap.get?_push_ne _ _ _ (by rw[Heap.size_update];exact ws6 ha)];exact ho1
 have fin:∀(mm:Sem PySem.Fin)(st:SortSt),failedOf st=none->(arrOf st).Perm (pairsOf vs)->
   wpAny (model prog w) A (seqEpoch a >>= fun l=>Builtin.List.listUpdate (.ref a) (fun _=>(arrOf st).map (·.2)) >>= fun _=>if (l != e1)=true then mm else ret Value.none) P E {s with heap:=zn5 s.heap a vs}:=fun mm st h1 h2=>by
  refine wq8 (seqEpoch_at ho6 rfl (wq8 (listUpdate_at ho6 rfl ?_ (wt6 _) ?_)))
  ·simp only[bne_self_eq_false,vb7,vg9];exact wr7 (h _ h2)
  ·rw[Array.size_map,h2.size_eq,pairsOf_size,vj9];lia
 dsimp only
 by_cases h2:vs.toArray.size<2
 ·rw[ww4 h2,ww4 h2];refine wq8 (wr7 ?_);rw[StateT.run_pure];refine wq8 (wr7 ?_);exact fin _ (SortSt.mk' general' (pairsOf vs) #[] 7 none) rfl (Array.Perm.refl _)
 ·rw[wv5 h2,wv5 h2];have h2':2<=vs.length:=by simpa using h2
  refine wq8 (hkk h2' _ ?_);refine wq8 ?_;have hz:(pairsOf vs).size=vs.length:=pairsOf_size vs;have:=wh7 (Q:=fun _ st'=>failedOf st'=none/\(arrOf st').Perm (pairsOf vs)) (st:=SortSt.mk' kd (pairsOf vs) #[] 7 none) C ⟨Array.Perm.refl _,rfl,rfl,rfl⟩ (by lia) (by lia) fun st' k1 k2=>⟨k2,k1⟩
  unfold wpS at this;refine wz4 this ?_ (fun _ _ z=>z);rintro⟨⟨⟩,st'⟩ s' ⟨rfl,k2,k1⟩;dsimp only at k1 k2 ⊢;rw[k2];exact fin _ st' k2 k1
end
def sLt(a b:Str):Bool:=decide (a.cps.toList<b.cps.toList)
abbrev Pr:=Str×Str
def pLt(x y:Pr):Bool:=if x.1=y.1 then sLt x.2 y.2 else sLt x.1 y.1
theorem wg6(a:Str):sLt a a=false:=strKind.irrefl _
def IsP(h:Heap)(v:Value)(p:Pr):Prop:=∃a o n t u,v=.ref a/\h.get? a=some o/\o.cls=.type "tuple"/\o.data=.seq #[.str p.1 t,.str p.2 u] n
theorem IsP.keep{h h':Heap}{v:Value}{p:Pr}(x:IsP h v p)(k:∀b o,h.get? b=some o->h'.get? b=some o):IsP h' v p:=by
 obtain⟨a,o,n,t,u,e,g,c,d⟩:=x;exact⟨a,o,n,t,u,e,k _ _ g,c,d⟩
theorem xc8{dec:Value->Pr}{vs:List Value}{Q:SortKind->Shared->Prop}(hv:∀v∈vs,IsP s.heap v (dec v))(h1:vs≠[])(h:Q (tuples' true) s):wpAny (model prog w) A (keyKind' vs.toArray) Q E s:=by
 have key:∀vs:List Value,(∀v∈vs,IsP s.heap v (dec v))->∃fs:List Value,fs.length=vs.length/\PySem.W.KatTups s.heap vs fs/\∀v∈fs,∃x t,v=.str x t:=by
  intro vs
  induction vs with
  | nil=>intro _;exact⟨[],rfl,.nil,fun _ h=>nomatch h⟩
  | cons v vs ih=>
   intro hv;obtain⟨fs,l,k,c⟩:=ih fun v h=>hv v (.tail _ h);obtain⟨a,o,n,t,u,rfl,g,cl,d⟩:=hv v (.head _);refine⟨.str (dec (.ref a)).1 t::fs,wx5 (·+1) l,.cons g cl d rfl k,fun v hv=>?_⟩;rcases ws5.mp hv with e | hv
   ·exact⟨_,_,e⟩
   ·exact c v hv
 obtain⟨fs,l,k,c⟩:=key vs hv;have h0:0<fs.length:=by rw[l];exact vp3.mpr h1
 refine PySem.W.kat_kind (T:=.type "str") k h0 (fun v hv=>?_) (by decide) h;obtain⟨x,t,rfl⟩:=c v hv;intro A Q E s _ hq;exact wr7 hq
theorem xq3{dec:Value->Pr}{vs:List Value}(hv:∀v∈vs,IsP s.heap v (dec v)):Cmp (model prog w) A E s (tuples' true) (·∈(pairsOf vs).toList) (fun x y=>pLt (dec x.1) (dec y.1)):=by
  intro x y st Q hx hy hk h;have mem:∀z:Keyed,z∈(pairsOf vs).toList->z.1∈vs:=fun z hz=>by
   have:=Array.mem_toList_iff.mp hz;unfold pairsOf at this;rw[List.zip_toArray]at this;exact(vk9 (by simpa using this)).1
  obtain⟨a,o,n,t,u,ea,g,c,d⟩:=hv _ (mem x hx);obtain⟨b,o',n',t',u',eb,g',c',d'⟩:=hv _ (mem y hy);rw[lt'_eq];refine wt5 (vr5 ?_);rw[hk];have hl:wpAny (model prog w) A (keyLt' (tuples' true) x.1 y.1) (fun b s'=>s'=s/\b=pLt (dec x.1) (dec y.1)) (fun _ _=>False) s:=by
   rw[ea,eb];refine PySem.W.kat_lt g d g' d' ?_;rw[←ea,←eb];have z:decide ((#[Value.str (dec x.1).1 t,Value.str (dec x.1).2 u]:Array Value).size<(#[Value.str (dec y.1).1 t',Value.str (dec y.1).2 u']:Array Value).size)=false:=rfl;rw[z];show PySem.W.KatLex prog w A true false _ [(Value.str (dec x.1).1 t,Value.str (dec y.1).1 t'),(Value.str (dec x.1).2 u,Value.str (dec y.1).2 u')] 0 s;unfold pLt;refine PySem.W.kat_cons (wpAny_eqBool_str ?_)
   by_cases e:(dec x.1).1=(dec y.1).1
   ·rw[wt8 e,ww4 e];refine PySem.W.kat_yes (PySem.W.kat_cons (wpAny_eqBool_str ?_))
    by_cases e2:(dec x.1).2=(dec y.1).2
    ·rw[wt8 e2,e2,wg6];exact PySem.W.kat_yes (PySem.W.kat_nil ⟨rfl,rfl⟩)
    ·rw[wv8 e2];exact PySem.W.kat_no (PySem.W.kat_one _ _ (lt_str ⟨rfl,rfl⟩))
   ·rw[wv8 e,wv5 e];exact PySem.W.kat_no (oneLt_str ⟨rfl,rfl⟩)
  refine wt5 (wpS_lift (vf8 (wz4 hl ?_ ?_)))
  ·rintro r s' ⟨rfl,rfl⟩;exact⟨rfl,wv3 h⟩
  ·intro _ _ z;exact z.elim
section
variable{it d:Addr}{od:Obj}{es:Array DictEntry}{i ep:Nat}
theorem wn0{e:DictEntry}{Q:Option Value->Shared->Prop}(hit:s.heap.IsKeyIter it d i es.size ep)(hod:s.heap.get? d=some od)(hdd:od.data=.dict es ep)(he:es[i]?=some e)
  (hQ:∀h',h'.IsKeyIter it d (i+1) es.size ep->Heap.SameBut it s.heap h'->Q (some e.key) {s with heap:=h'}):wpAny (model prog w) A (pyNext (.ref it)) Q E s:=by
 obtain⟨⟨c0,d0,dt0,sl0⟩,ho,hc,hd⟩:=hit;dsimp only at hc hd;subst hc hd;have hd:(Obj.mk (.type "dict_keyiterator") d0 (.fields #[.ref d,.int (i:Int) 0,.int (es.size:Int) 0,.int (ep:Int) 0]) sl0).data=.fields #[.ref d,.int (i:Int) 0,.int (es.size:Int) 0,.int (ep:Int) 0]:=rfl;have hit:s.heap.IsKeyIter it d i es.size ep:=⟨_,ho,rfl,rfl⟩;have tI:=hit.typeIs;unfold pyNext;refine wq8 (vf8 (ww8 tI vc9 (ww9 vc9 tI F.entry_dict_keyiterator_next ?_ (F.args_dict_keyiterator_next_1 (.ref it)))));refine wq8 (wr7 (wq8 (wq8 (wq8 (vf6 tI (wr7 (wq8 (wpAny_fieldsOf ho hd ?_))))))));have hown:Builtin.Dict_items.ownsTuple "dict_keyiterator"=false:=by decide
 simp only[hown,vb7,vg9];show wpAny _ _ (if (Value.ref d == Value.none)=true then _ else _) _ _ s;rw[wv5 (by exact wt2)];refine wq8 (wr7 (wq8 (vd7 hod hdd ?_)));rw[wv5 (by simp)];refine wq8 (wr7 (wq8 (vq2 hod hdd ?_)));rw[wv5 (by simp)];refine wr7 ?_;dsimp only;have hi:i<es.size:=(Array.getElem?_eq_some_iff.mp he).1;have e1:(if (i:Int)<0 then none else es[(i:Int).toNat]?)=some e:=by rw[wv5 (by lia),vg2];exact he
 rw[e1];dsimp only;refine wq8 (wq8 (vf6 tI (wr7 ?_)));simp only[hown,vb7,vg9];refine wq8 (wpAny_isOneOf_keyiter tI ?_);have hs1:=wz7 (Obj.mapFields fun x=>x.setIfInBounds (0+1) (rawInt (i+1))) ho rfl;refine wq8 (wpAny_setField (x:=rawInt (i+1)) ho hd (show 0+1<4 by decide) ?_);have hit2:(s.heap.update it (Obj.mapFields fun x=>x.setIfInBounds (0+1) (rawInt (i+1)))).IsKeyIter it d (i+1) es.size ep:=⟨_,hs1,rfl,rfl⟩;have tI2:Shared.TypeIs {s with heap:=s.heap.update it (Obj.mapFields fun x=>x.setIfInBounds (0+1) (rawInt (i+1)))} (.ref it) "dict_keyiterator":=⟨_,hs1,rfl⟩;refine wq8 (wx2 ?_);refine wq8 (wpAny_isOneOf_keyiter tI2 ?_);rw[ww4 (by decide)];exact wr7 (wr7 ⟨_,rfl,wr7 (hQ _ hit2 (vg5 _ _ _))⟩)
theorem dn_end{Q:Option Value->Shared->Prop}(hh:A.handled=none)(hit:s.heap.IsKeyIter it d i es.size ep)(hod:s.heap.get? d=some od)(hdd:od.data=.dict es ep)(he:es[i]?=none)
  (hQ:∀h',Heap.ExtBut it s.heap h'->Q none {s with heap:=h'}):wpAny (model prog w) A (pyNext (.ref it)) Q E s:=by
 obtain⟨⟨c0,d0,dt0,sl0⟩,ho,hc,hd⟩:=hit;dsimp only at hc hd;subst hc hd;have hd:(Obj.mk (.type "dict_keyiterator") d0 (.fields #[.ref d,.int (i:Int) 0,.int (es.size:Int) 0,.int (ep:Int) 0]) sl0).data=.fields #[.ref d,.int (i:Int) 0,.int (es.size:Int) 0,.int (ep:Int) 0]:=rfl;have hit:s.heap.IsKeyIter it d i es.size ep:=⟨_,ho,rfl,rfl⟩;have tI:=hit.typeIs;unfold pyNext;refine wq8 (vf8 (ww8 tI vc9 (ww9 vc9 tI F.entry_dict_keyiterator_next ?_ (F.args_dict_keyiterator_next_1 (.ref it)))));refine wq8 (wr7 (wq8 (wq8 (wq8 (vf6 tI (wr7 (wq8 (wpAny_fieldsOf ho hd ?_))))))));have hown:Builtin.Dict_items.ownsTuple "dict_keyiterator"=false:=by decide
 simp only[hown,vb7,vg9];show wpAny _ _ (if (Value.ref d == Value.none)=true then _ else _) _ _ s;rw[wv5 (by exact wt2)];refine wq8 (wr7 (wq8 (vd7 hod hdd ?_)));rw[wv5 (by simp)];refine wq8 (wr7 (wq8 (vq2 hod hdd ?_)));rw[wv5 (by simp)];refine wr7 ?_;dsimp only;have e1:(if (i:Int)<0 then none else es[(i:Int).toNat]?)=none:=by rw[wv5 (by lia),vg2];exact he
 rw[e1];dsimp only;refine wq8 (wq8 (vf6 tI (wr7 ?_)));simp only[hown,vb7,vg9];refine wq8 (wpAny_setField (x:=.none) ho hd (show 0<4 by decide) ?_);refine wp6 (s:={s with heap:=_}) (s0:=s) hh (Heap.SameBut.extBut (vg5 _ _ _)) fun a h' k ty=>?_;refine wq8 (vk4 (T:="StopIteration") (b:=true) ty isSubtype_stop ?_);exact wr7 (hQ h' k)
theorem wm3{Q:Value->Shared->Prop}(lo:(d == sysModules)=false)(hod:s.heap.get? d=some od)(hc:od.cls=.type "dict")(hdd:od.data=.dict es ep)
  (hQ:Q (.ref s.heap.objs.size) {s with heap:=s.heap.push {cls:=.type "dict_keyiterator",data:=.fields #[.ref d,.int 0 0,.int (es.size:Int) 0,.int (ep:Int) 0]}}):wpAny (model prog w) A (pyIter (.ref d)) Q E s:=by
 have tD:s.TypeIs (.ref d) "dict":=⟨_,hod,hc⟩;refine wpAny_pyIter_slot tD F.slot_dict_iter (ww9 F.slot_dict_iter tD F.entry_dict_iter ?_ (F.args_dict_iter_1 _));unfold Builtin.«dict.__iter__» Builtin.Dict.dictSlotNone;refine wq8 (wq8 (vm4 tD ?_));refine wq8 (wr7 (wr7 (wq8 (wr7 ?_))));refine wq8 (m:=Builtin.Dict.showsAll d) ?_;unfold Builtin.Dict.showsAll;rw[wv5 (by rw[lo];exact wt2)];refine wr7 ?_;refine wq8 (vd7 hod hdd (wq8 (vq2 hod hdd (wq8 (wx0 (wr7 ⟨_,rfl,"dict_keyiterator",_,⟨_,wt0 _ rfl,rfl⟩,vc9.lookup,hQ⟩))))))
def DE(h:Heap)(d:Addr)(es:Array DictEntry)(ep:Nat):Prop:=∃od,h.get? d=some od/\od.cls=.type "dict"/\od.data=.dict es ep
theorem DE.at{h h':Heap}(x:DE h d es ep)(k:∀o,h.get? d=some o->h'.get? d=some o):DE h' d es ep:=by
 obtain⟨od,a,b⟩:=x;exact⟨od,k _ a,b⟩
theorem DE.lt{h:Heap}(x:DE h d es ep):d<h.objs.size:=by obtain⟨od,a,b⟩:=x;exact ws1 a
theorem xn8(hh:A.handled=none)(I:Addr)(hne:d≠I):Walks prog w A I [I,d] [I] es.size (fun i v=>∃e,es[i]?=some e/\v=e.key) (fun i h=>h.IsKeyIter I d i es.size ep/\DE h d es ep) where
 sub:=fun b hb=>by simp at hb;simp[hb]
 frame:=fun i h h' st hk=>⟨st.1.at fun o e=>hk I (by simp) o e,st.2.at fun o e=>hk d (by simp) o e⟩
 item:=fun i s Q E hi st hQ=>by
  obtain⟨od,a,b,c⟩:=st.2;refine wn0 st.1 a c (vn1 hi) fun h' k1 k2=>?_;exact hQ _ h' s.toks ⟨_,vn1 hi,rfl⟩ ⟨k1,st.2.at fun o e=>k2.extBut _ _ hne e⟩ fun b o hb e=>k2.extBut b o (fun z=>hb (by simp[z])) e
 done:=fun s Q E st hQ=>by
  obtain⟨od,a,b,c⟩:=st.2;exact dn_end hh st.1 a c (Array.getElem?_eq_none_iff.mpr (wr5 _)) fun h' k=>hQ h' s.toks fun b o hb e=>k b o (fun z=>hb (by simp[z])) e
 self:=fun _ _ _ _ st hQ=>wpAny_pyIter_keyiter st.1 hQ
theorem xt1(lo:(d == sysModules)=false):PySem.W.KdlSrc prog w "dict" d d es.size (fun i v=>∃e,es[i]?=some e/\v=e.key) (fun h=>DE h d es ep) where
 type:=fun s x=>by obtain⟨od,a,b,c⟩:=x;exact⟨od,a,b⟩
 there:=fun h x=>⟨x.lt,x.lt⟩
 keep:=fun h h' x k=>x.at fun o e=>k d (.inl rfl) o e
 notList:=by decide
 notTuple:=by decide
 hint:=fun A E s Q x hq=>by
  obtain⟨od,a,b,c⟩:=x;exact PySem.W.kdl_hint_dict ⟨od,a,b⟩ hq
 iter:=fun A s hh x=>by
  obtain⟨od,a,b,c⟩:=x;refine⟨{cls:=.type "dict_keyiterator",data:=.fields #[.ref d,.int 0 0,.int (es.size:Int) 0,.int (ep:Int) 0]},fun i h=>h.IsKeyIter s.heap.objs.size d i es.size ep/\DE h d es ep,fun E Q hq=>wm3 lo a b c hq,xn8 hh _ (ws6 (ws1 a)),⟨_,wt0 _ rfl,rfl,rfl⟩,od,wr4 _ a,b,c⟩
end
section
variable{T:String}{r d:Addr}{n:Nat}{P:Nat->Value->Prop}{OK:Heap->Prop}
theorem zx9{Q:List Value->Shared->Prop}(S:PySem.W.KdlSrc prog w T r d n P OK)(hh:A.handled=none)(ok:OK s.heap)(hn:n<=sizeLine)
  (hQ:∀h' tk (acc:Array Value),(∀b o,s.heap.get? b=some o->h'.get? b=some o)->ItemsOf P acc n->s.heap.objs.size<h'.objs.size->Q acc.toList {s with heap:=h',toks:=tk}):wpAny (model prog w) A (collect (.ref r)) Q E s:=by
 unfold collect;refine wq8 (wpAny_runValue (vm3 F.entry_proto_collect ?_));rw[vf7 F.plain_proto_collect _];show wpAny _ A.in1 (newList [] >>= fun l=>again (.builtin "list.__iadd__" ⟨[l,.ref r],[]⟩)) _ _ s;refine wq8 (wx0 ?_);refine wr7 ⟨vr2 F.plain_list_iadd _,vm3 F.entry_list_iadd ?_⟩;rw[vf7 F.plain_list_iadd _];have th:=S.there _ ok;have hS₁:(s.heap.push {cls:=.type "list",data:=.seq ([]:List Value).toArray}).get? s.heap.objs.size=some {cls:=.type "list",data:=.seq ([]:List Value).toArray}:=wt0 _ rfl;have ok1:OK (s.heap.push {cls:=.type "list",data:=.seq ([]:List Value).toArray}):=S.keep _ _ ok fun b hb o e=>wr4 _ e;show wpAny _ A.in1 (Builtin.List.listExtendWith (.ref s.heap.objs.size) (.ref r) (.ref s.heap.objs.size)) _ _ _;refine PySem.W.kdl_extend (R:=fun r s'=>match r with
    | .ok (.ret v)=>wpAny (model prog w) A (match v with
      | .ref a=>do
       match (←load a).data with
        | .seq xs _=>pure xs.toList
        | _=>unsupported "internal:collect"
      | _=>unsupported "internal:collect") Q E s'
    | .ok _=>False
    | .error e=>E e s') (s:={s with heap:=s.heap.push {cls:=.type "list",data:=.seq ([]:List Value).toArray}}) S hh ok1 s.heap.objs.size (wv9 th.1) (wv9 th.2) _ 0 hS₁ (fun h' tk acc c' k1 k2 k3=>?_) hn
 show wpAny _ A (load s.heap.objs.size >>= _) _ _ _;refine wq8 (wpAny_load (s:={s with heap:=h',toks:=tk}) k2 ?_);exact wr7 (hQ h' tk acc (fun b o e=>k1 b o (ws6 (ws1 e)) (wr4 _ e)) k3 (ws1 k2))
end
theorem yq7{vs:List Value}{z:Keyed}(hz:z∈(pairsOf vs).toList):z.1∈vs/\z.2=z.1:=by
 have:=Array.mem_toList_iff.mp hz;unfold pairsOf at this;rw[List.zip_toArray]at this;have h:z∈List.zip vs vs:=by simpa using this
 refine⟨(vk9 h).1,?_⟩;obtain⟨i,hi,e⟩:=vc0 h;rw[←e,List.getElem_zip]
theorem yq6(vs:List Value):(pairsOf vs).toList=vs.map fun v=>(v,v):=by
 unfold pairsOf;rw[List.zip_toArray];show List.zip vs vs=_
 induction vs with
 | nil=>rfl
 | cons v vs ih=>rw[vq3,ih];rfl
theorem yn6{x:Value}{dec:Value->Pr}{Q:Value->Shared->Prop}
  (hcol:wpAny (model prog w) A.in1 (collect x) (fun vs s1=>vs.length<128/\(∀v∈vs,IsP s1.heap v (dec v))/\
   ∀h' e (vs':List Value),vs'.Perm vs->(∀b o,s1.heap.get? b=some o->h'.get? b=some o)->h'.get? s1.heap.objs.size=some (seqObj "list" vs'.toArray e)->Q (.ref s1.heap.objs.size) {s1 with heap:=h'}) E s):
  wpAny (model prog w) A (call (.builtin "sorted") [x]) Q E s:=by
 refine vn2 kind_sorted plain_sorted entry_sorted (args_sorted1 x) ?_;unfold Builtin.«sorted»;refine wq8 (m:=checkCount "sorted" 1 1 _) (wr7 ?_);refine wq8 (wz4 hcol ?_ fun _ _ z=>z);rintro vs s1 ⟨hz,hP,hQ⟩;have hv:vs.length<=sizeLine:=by rw[vj9];lia
 refine wq8 (wpAny_newList ?_ hv);have hoL:(s1.heap.push (seqObj "list" vs.toArray 0)).get? s1.heap.objs.size=some (seqObj "list" vs.toArray 0):=wt0 _ rfl;have k6:∀b o,s1.heap.get? b=some o->(zn5 (s1.heap.push (seqObj "list" vs.toArray 0)) s1.heap.objs.size vs).get? b=some o:=fun b o e=>by
  have hb:=ws1 e;unfold zn5;refine wr4 _ (wr4 _ ?_);rw[vb4 _ _ (wv9 hb)];exact wr4 _ e
 have hP6:∀v∈vs,IsP (zn5 (s1.heap.push (seqObj "list" vs.toArray 0)) s1.heap.objs.size vs) v (dec v):=fun v hv=>(hP v hv).keep k6;refine wq8 (wx2 (ww9 slot_list_sort (s:={s1 with heap:=s1.heap.push (seqObj "list" vs.toArray 0)}) ⟨_,hoL,rfl⟩ entry_list_sort (xv8 (kd:=tuples' true) (s:={s1 with heap:=s1.heap.push (seqObj "list" vs.toArray 0)}) hoL hz (fun h2 Q' q=>xc8 (dec:=dec) hP6 (fun z=>by rw[z]at h2;simp at h2) q) (xq3 hP6) fun out a1=>⟨_,rfl,?_⟩) (args_list_sort _)));obtain⟨e,he⟩:=sortedHeap_at (out:=out.map (·.2)) hoL;have pl:=vh2.mp a1;have e2:out.toList.map (·.2)=out.toList.map (·.1):=vg8 fun z hz=>(yq7 (pl.mem_iff.mp hz)).2;have p2:(out.toList.map (·.1)).Perm vs:=by
  have:=pl.map (·.1);rw[yq6,vc8]at this;have e9:vs.map ((fun x:Keyed=>x.1)∘fun v=>(v,v))=vs:=by
   show vs.map (fun v=>v)=vs;exact List.map_id' vs
  rwa [e9]at this
 refine wr7 ⟨_,rfl,hQ _ e (out.toList.map (·.1)) p2 (fun b o eb=>?_) ?_⟩
 ·have hb:=ws1 eb;rw[sortedHeap_old (ws6 hb) (by rw[size_push'];exact Nat.lt_succ_of_lt hb)];exact wr4 _ eb
 ·rw[←e2];have e3:(out.toList.map (·.2)).toArray=out.map (·.2):=by rw[←Array.toList_map,Array.toArray_toList]
  rw[e3];exact he
def xj8(J:It)(g:TG)(tt:TT)(tk te:TE)(D:Addr)(σ0:St)(H0:Hp)(Q:Hp->Prop):Prop:=
 ∃W:Nat->Nat->St->Hp->Prop,(∃m,W 0 m σ0 H0)/\∀i m σ H,W i m σ H->
 (J.stop i H/\Q H)∨(J.go i H/\∃N:St->Hp->Prop,(∀σ' H',N σ' H'->∃m',m'<m/\W (i+1) m' σ' H')/\∀x H',J.yld i H x H'->g x σ H' fun σ2 H2=>tt σ2 H2 fun b H3=>
  if b=true then tk σ2 H3 fun kx H4=>te σ2 H4 fun v H5=>∃kvs k b,kx=.ref b/\H5 b=some (.tup (k.map kV))/\H5 D=some (.dT kvs)/\kvs.length<sizeLine/\N σ2 (upd H5 D (.dT (putK kvs k v))) else N σ2 H3)
section
variable{scope:Scope}{N':List Str}{src:List (Option Nat)}{pins:List (Addr×Obj)}{σ:St}{H2:Hp}{s2:Shared}
theorem yt5{kx vx tg iter:Expr}{ifs:List Expr}{pos:Pos}{it:Addr}{fp:List Addr}{tn:Nat->Heap->Prop}{J:It}{g:TG}{tt:TT}{tkx te:TE}{Q:Addr->Hp->Prop}
  {RR:Value->Addr->Result->Shared->Prop} {E:Value->Shared->Prop} (hc:X.calm=true) (hu:(tupleKind (zc7 X.prog X.w)).room X.A)
  (B:BlkN X scope N' src) (hnl:∀x k,(x,k)∈scope.names->k=.free->∀k',(x,k')∈scope.names->k'=.free) (T:Turn X.prog X.w X.K tg J fp it tn) (I:Inv X pins σ H2 s2) (h0:tn 0 s2.heap) (hf:∀b∈fp,FpOk X pins H2 b)
  (hg:∀s3 H3 C,PG (blk X scope N' s3 H3 C fp) tg g) (ht:∀s3 H3 C,PTs (blk X scope N' s3 H3 C fp) ifs tt) (hk:∀s3 H3 C,PE (blk X scope N' s3 H3 C fp) kx tkx) (he:∀s3 H3 C,PE (blk X scope N' s3 H3 C fp) vx te)
  (hw:∀D,H2 D=none->xj8 J g tt tkx te D (sub src σ) (upd H2 D (.dT [])) (Q D))
  (hQ:∀D C H' s',C≠D->(∃m,s'.heap.Ns C m)->(∀h'' ,Heap.SameBut C s'.heap h''->Inv X pins σ H' {s' with heap:=h''})->Inv X pins σ H' s'->H' C=none->C≠X.env.locals->(∀x c,X.env.cells.lookup x=some c->c≠C)->X.s₀.heap.objs.size<=C->(∀p∈X.pn++pins,p.1≠C)->Q D H'->RR (.ref D) C (.ok .next) s'):
  wpAny (model X.prog X.w) X.A (newDict) (fun acc s₃=>wpAny (model X.prog X.w) X.A (newFunctionEnv scope X.env.globals (clOf X.env scope.names) [] X.env.qual none .none (some X.env)) (fun cenv s₄=>
   codeAny (model X.prog X.w) X.A (.compStart (.DictComp kx vx [⟨tg,iter,ifs,0⟩] scope pos) 0 (.ref it) acc {cenv with scope:=relabel scope X.env}) (RR acc cenv.locals) s₄) E s₃) E s2:=by
 have hcell:∀y∈scope.names,y.2≠.cell:=fun y hy=>ws0 (ww0.mp B.nocell y hy);refine wx0 (wpAny_newFunctionEnv hcell (by intro y hy;simp at hy) (fun h₁ hns₁ hsb₁=>?_) B.kind);dsimp only at hns₁ hsb₁ ⊢;have hDn:H2 s2.heap.objs.size=none:=I.hok.fresh (wr5 _);have I3:Inv X pins σ (upd H2 s2.heap.objs.size (.dT [])) {s2 with heap:=s2.heap.push {cls:=.type "dict",data:=.dict #[]}}:=
  I.laid (t':=s2.toks) (fun b o e=>wr4 _ e) (wr5 _) (yx3 s2.heap I.big)
 generalize hH3:(s2.heap.push {cls:=.type "dict",data:=.dict #[]})=hp3 at hns₁ hsb₁ I3 ⊢;have hsz3:hp3.objs.size=s2.heap.objs.size+1:=by rw[←hH3,Heap.size_push]
 have keep23:∀b o,s2.heap.get? b=some o->hp3.get? b=some o:=fun b o e=>by rw[←hH3];exact wr4 _ e
 have keep34:∀b o,hp3.get? b=some o->h₁.get? b=some o:=fun b o e=>hsb₁.extBut b o (ws6 (ws1 e)) (wr4 _ e);have hDlt:s2.heap.objs.size<hp3.objs.size:=by rw[hsz3];exact Nat.lt_succ_self _
 have hf3:∀b∈fp,FpOk X pins (upd H2 s2.heap.objs.size (.dT [])) b:=fun b hb=>by
  obtain⟨o,e,_⟩:=T.obj _ _ h0 b hb;refine⟨?_,(hf b hb).2⟩;rw[zb5 (ws6 (ws1 e))];exact(hf b hb).1
 have hlt3:∀b∈fp,b<hp3.objs.size:=fun b hb=>by
  obtain⟨o,e,_⟩:=T.obj _ _ h0 b hb;exact wz2 (ws1 e) hDlt
 have hIb:=yc9 (fp:=fp) (C:=hp3.objs.size) (s4:={s2 with heap:=h₁,toks:=s2.toks+([]:List (Str×Value)).length}) B I3 hf3 hlt3 hnl rfl hns₁ keep34 rfl rfl;have h04:tn 0 h₁:=T.keep _ _ _ h0 fun b hb o e=>keep34 b o (keep23 b o e);obtain⟨W,⟨m0,w0⟩,turn⟩:=hw s2.heap.objs.size hDn;have frB:∀{H':Hp},(∀b∈fp,H' b=none)->∀b∈fp,FpOk (blk X scope N' {s2 with heap:=hp3} (upd H2 s2.heap.objs.size (.dT [])) hp3.objs.size fp) [] H' b:=fun hn b hb=>by
  refine⟨hn b hb,ws6 (hlt3 b hb),?_,.inl hb,fun x c h=>(hf b hb).2.2.2.2.1 x c (B.back I.ok h).1,fun p hp=>absurd (show p∈([]:List (Addr×Obj)) from hp) (by simp)⟩;intro z;rcases ws5.mp (I3.stkSub b z)with y | y
  ·exact(hf b hb).2.1 y
  ·exact(hf b hb).2.2.1 y
 have fin:∀(s':Shared)(σ':St)(H':Hp),Inv (blk X scope N' {s2 with heap:=hp3} (upd H2 s2.heap.objs.size (.dT [])) hp3.objs.size fp) [] σ' H' s'->Q s2.heap.objs.size H'->RR (.ref s2.heap.objs.size) hp3.objs.size (.ok .next) s':=fun s' σ' H' J' q=>by
  obtain⟨hh,gg,dd,tt',os'⟩:=s';have eos:os'=s2.os:=J'.os;subst eos;have IX:Inv X pins σ H' {({s2 with heap:=hp3}:Shared)with heap:=hh,gens:=gg,drawn:=dd,toks:=tt'}:=Inv.call (s:={s2 with heap:=hp3}) I3 (h':=hh) (g':=gg) (d':=dd) (t':=tt') (ch:=fp) J'.base J'.hok J'.bare fun b hb=>⟨(hf b hb).2.2.2.1,(hf b hb).2.1,(hf b hb).2.2.2.2.1,(hf b hb).2.2.2.2.2⟩;have hCs:s2.heap.objs.size<=hp3.objs.size:=ws3 hDlt;have hCL:hp3.objs.size≠X.env.locals:=wv9 I3.lt;have hCc:∀x c,X.env.cells.lookup x=some c->c≠hp3.objs.size:=fun x c e z=>by
   obtain⟨v,q⟩:=I3.cell x c e;exact absurd (show c<hp3.objs.size from q.lt) (by rw[z];exact vb6 _)
  have hCp:∀p∈X.pn++pins,p.1≠hp3.objs.size:=fun p hp z=>by
   have:=ws1 (I3.pin p hp).1;exact absurd (show p.1<hp3.objs.size from this) (by rw[z];exact vb6 _)
  have hCh:H' hp3.objs.size=none:=J'.free;obtain⟨m,hm,_⟩:=J'.loc;refine hQ _ _ H' _ (wv9 hDlt) ⟨m,hm⟩ (fun h'' sb=>?_) IX hCh hCL hCc (wx6 I3.sz (wr5 _)) hCp q;exact IX.turned (t':=tt') (fun b o hb e=>(sb.2 b hb).trans e) hCh hCL (.inr (wx6 I3.sz (wr5 _))) hCc hCp
 have loop:∀s₃:Shared,s₃={s2 with heap:=h₁,toks:=s2.toks+([]:List (Str×Value)).length}->
   codeAny (model X.prog X.w) X.A (.compLoop (.DictComp kx vx [⟨tg,iter,ifs,0⟩] scope pos) 0 (.ref it) (.ref s2.heap.objs.size) (compEnvC scope (clOf X.env scope.names) hp3.objs.size X.env))
    (RR (.ref s2.heap.objs.size) hp3.objs.size) s₃:=by
  rintro s₃ rfl;refine zr5 (fun n s'=>∃i σ' H',Inv (blk X scope N' {s2 with heap:=hp3} (upd H2 s2.heap.objs.size (.dT [])) hp3.objs.size fp) [] σ' H' s'/\tn i s'.heap/\(∀b∈fp,H' b=none)/\W i n σ' H') ?_ m0 ⟨0,_,_,hIb,h04,fun b hb=>(hf3 b hb).1,w0⟩;rintro n s5 ⟨i,σ5,H5,I5,st5,fr5,w5⟩;rcases turn i n σ5 H5 w5 with ⟨stop,qn⟩ | ⟨go,Nx,hN,step⟩
  ·refine thn (T.done (blk X scope N' {s2 with heap:=hp3} (upd H2 s2.heap.objs.size (.dT [])) hp3.objs.size fp) rfl rfl rfl hc i [] s5 σ5 H5 _ I5 (frB fr5) st5 stop) fun r s6 ⟨hr,I6⟩=>?_;subst hr;exact fin s6 σ5 H5 I6 qn
  ·refine thn (T.item (blk X scope N' {s2 with heap:=hp3} (upd H2 s2.heap.objs.size (.dT [])) hp3.objs.size fp) rfl rfl rfl hc i [] s5 σ5 H5 _ I5 (frB fr5) st5 go) fun r s6 ⟨u,hr,h6⟩=>?_;subst hr;refine thn h6 fun _ s7 ⟨x,H7,I7,r7,y7,st7,fr7⟩=>?_;have I7':=I7.pinned (frB fr7) (T.obj _ _ st7);refine thn (hg _ _ _ _ s7 σ5 H7 x u _ I7' r7 (step x H7 y7)) fun _ s8 ⟨σ8,H8,I8,q8⟩=>?_;refine thn (ht _ _ _ _ s8 σ8 H8 _ I8 q8) fun ok s9 ⟨H9,I9,q9⟩=>?_;have again:∀{σa:St}{Ha:Hp}{sa:Shared},Inv (blk X scope N' {s2 with heap:=hp3} (upd H2 s2.heap.objs.size (.dT [])) hp3.objs.size fp) ([]++yd2 fp s7.heap) σa Ha sa->Nx σa Ha->
     ∃m,m<n/\∃i σ' H',Inv (blk X scope N' {s2 with heap:=hp3} (upd H2 s2.heap.objs.size (.dT [])) hp3.objs.size fp) [] σ' H' sa/\tn i sa.heap/\(∀b∈fp,H' b=none)/\W i m σ' H':=fun {σa Ha sa} Ia na=>by
    obtain⟨m',hm,wa⟩:=hN σa Ha na;refine⟨m',hm,i+1,σa,Ha,Ia.unpinned,T.keep _ _ _ st7 fun b hb o e=>(Ia.pin (b,o) (wv4 _ (wv4 _ (zj5 hb e)))).1,fun b hb=>?_,wa⟩;obtain⟨o,e,d⟩:=T.obj _ _ st7 b hb;exact(Ia.pin (b,o) (wv4 _ (wv4 _ (zj5 hb e)))).2.1
   cases ok with
   | false=>exact again I9 q9
   | true=>
    refine thn (hk _ _ _ _ s9 σ8 H9 _ I9 q9) fun kv s9' ⟨kk,H9',I9',rk,q9'⟩=>?_;refine thn (he _ _ _ _ s9' σ8 H9' _ I9' q9') fun y s10 ⟨v,H10,I10,r10,kvs,k,b,ek,eb,hx,hl,q10⟩=>?_;subst ek;cases (show kv=Value.ref b from rk);obtain⟨z,hd,xs,rel,dd⟩:=wg7 I10.hok hx;have hz:xs.length<=sizeLine:=by rw[←vr1 rel];exact z
    have hl2:(putK kvs k v).length<=sizeLine:=by have:=zg7 kvs k v;lia
    refine wpAny_dictSet_heap (hsz:=hz) hu (yf3 I10.hok eb) dd fun h' dd' hs=>?_;obtain⟨q,es,ep,hq,h2,h3,h4,_,h5⟩:=dd';have I11:=zn9 (t':=s10.toks+(tupleKind (zc7 X.prog X.w)).draws k) I10 (by rw[hx];exact vj4) hs ⟨q,hq⟩ (show ObjOk X.prog X.w (upd H10 s2.heap.objs.size (.dT (putK kvs k v))) h' s2.heap.objs.size (.dT (putK kvs k v)) from ⟨hl2,hd,_,(rel.put k eb r10).keeps fun c ys ec=>by
     rw[zb5 (wn9 ec hx (fun z=>nomatch z))];exact ec,q,es,ep,hq,h2,h3,h4,h5⟩)
    exact again I11 q10
 exact codeAny_compStart_dict (loop _ rfl) (T.self _ 0 _ _ _ h04 (loop _ rfl))
def tTComp(wi:TI)(src:List (Option Nat))(g:TG)(tt:TT)(tkx te:TE):TE:=fun σ H Q=>wi σ H fun J H2=>∀D,H2 D=none->xj8 J g tt tkx te D (sub src σ) (upd H2 D (.dT [])) fun H'=>Q (.ref D) H'
theorem xt6{kx vx tg iter:Expr}{ifs:List Expr}{pos:Pos}{wi:TI}{g:TG}{tt:TT}{tkx te:TE}(hc:X.calm=true)(hu:(tupleKind (zc7 X.prog X.w)).room X.A)(B:BlkN X scope N' src)(hi:PI X tg iter wi)
  (hg:∀s3 H3 C fp,PG (blk X scope N' s3 H3 C fp) tg g) (ht:∀s3 H3 C fp,PTs (blk X scope N' s3 H3 C fp) ifs tt) (hk:∀s3 H3 C fp,PE (blk X scope N' s3 H3 C fp) kx tkx) (he:∀s3 H3 C fp,PE (blk X scope N' s3 H3 C fp) vx te)
  (hnl:(scope.names.all fun y=>decide (y.2=.free->∀z∈scope.names,z.1=y.1->z.2=.free))=true:=by decide +kernel)
  (hs:∀x,foldedSetIterable iter X.env x=pure x:=by intro _;rfl):
  PE X (.DictComp kx vx [⟨tg,iter,ifs,0⟩] scope pos) (tTComp wi src g tt tkx te):=by
 intro pins s σ H Q I h;have hnl':∀x k,(x,k)∈scope.names->k=.free->∀k',(x,k')∈scope.names->k'=.free:=fun x k hm hk k' hm'=>ws0 (ww0.mp hnl (x,k) hm) hk (x,k') hm' rfl;have hclos:closureFor scope X.env=pure (clOf X.env scope.names):=zj7 fun y hy hf=>I.ok.has y.1 (ws0 (ww0.mp B.frees y hy) hf);have hnames:∀y∈scope.names,y.2=.local->scope.names.lookup y.1=some .local:=fun y hy=>ws0 (ww0.mp B.locs y hy);rw[arm_eval_DictComp];refine vf5 (use:=none) rfl hs hclos B.kind hnames (thn (hi pins s σ H _ I h) fun xv s₁ h₁=>thn h₁ fun itv s2 h2=>?_);obtain⟨it,fp,tn,J,H2,rfl,I2,T,h0,hf,hw⟩:=h2;refine yt5 (RR:=fun acc C=>compPost (model X.prog X.w) X.A X.xe none (EP X pins σ Q) acc C) (Q:=fun D H'=>Q (.ref D) H') hc hu B hnl' T I2 h0 hf (fun a b c=>hg a b c fp) (fun a b c=>ht a b c fp) (fun a b c=>hk a b c fp) (fun a b c=>he a b c fp) hw ?_;intro D C H' s' hCD hm hsb IX hCh hCL hCc hCs hCp q;obtain⟨m,hm⟩:=hm;exact⟨m,hm,fun h'' sb=>⟨.ref D,H',hsb h'' sb,rfl,q⟩⟩
end
section
variable{KK:Type}[DecidableEq KK]{knd:HeapKind prog w KK}
theorem yp1{d a:Addr}{xs:List (KK×Addr×Value)}{k:KK}{v:Value}{Q:Unit->Shared->Prop}(hr:knd.room A)(hk:knd.is s.heap k a)(hd:s.heap.DictOfH knd d xs)(hsz:xs.length<=sizeLine)
  (hQ:∀h',h'.DictOfH knd d (storedH xs k a v)->Heap.SameBut d s.heap h'->Q () {s with heap:=h'}):wpAny (model prog w) A (dictSetHashed d (.ref a) (knd.hash k) v) Q E s:=by
 obtain⟨o,es,ep,h1,h2,h3,h4,h5,h6⟩:=hd;unfold dictSetHashed;refine wx2 (wq8 (wpAny_dictFind_heap hr hk h1 h3 h4 h5 h6 (fun hn=>?_) (fun j p hj=>?_)))
 ·refine wq8 (vf4 ?_);refine wpAny_updateDictKeys h1 h3 ?_ (by rw[vq4 h4];exact hsz) (by simp);have sb:Heap.SameBut d s.heap (s.heap.update d (Obj.mapDictKeys fun x=>x.push ⟨knd.hash k,.ref a,v⟩)):=vg5 _ _ _;have g:=wz7 (Obj.mapDictKeys fun x=>x.push ⟨knd.hash k,.ref a,v⟩) h1 (Obj.isFreed_of_dict (Obj.data_mapDictKeys h3 _));refine hQ _ ⟨_,_,_,g,h2.mapDictKeys _,Obj.data_mapDictKeys h3 _,?_,fun x hx=>?_,?_⟩ sb
  ·rw[storedH_new (atKey_none_of_get hn),vm7,h4,wr9];rfl
  ·rw[storedH_new (atKey_none_of_get hn)]at hx;rcases wt9.mp hx with hx | hx
   ·exact knd.keeps (h5 x hx) h1 h3 sb
   ·cases wv1.mp hx;exact knd.keeps hk h1 h3 sb
  ·rw[storedH_new (atKey_none_of_get hn),wr9];exact yd3 h6 (not_mem_keys_of_get hn)
 ·refine wq8 (vf4 (wq8 (wpAny_updateDict h1 h3 (wpAny_point ?_) (by simp))));have sb:Heap.SameBut d s.heap (s.heap.update d (Obj.mapDict fun x=>x.modify j fun e=>⟨e.hash,e.key,v⟩)):=vg5 _ _ _;have g:=wz7 (Obj.mapDict fun x=>x.modify j fun e=>⟨e.hash,e.key,v⟩) h1 (Obj.isFreed_of_dict (Obj.data_mapDict h3 _));refine hQ _ ⟨_,_,_,g,h2.mapDict _,Obj.data_mapDict h3 _,?_,fun x hx=>?_,?_⟩ sb
  ·rw[storedH_old (atKey_of_get h6 hj),Array.toList_modify,h4];exact modify_map_putAt (entryOfKey knd) (fun e=>⟨e.hash,e.key,v⟩) k v (fun a v₀=>rfl) h6 hj
  ·rw[storedH_old (atKey_of_get h6 hj)]at hx;obtain⟨y,hy,rfl⟩:=ws2.mp hx;have:=knd.keeps (h5 y hy) h1 h3 sb;unfold putAt
   split
   ·exact this
   ·exact this
  ·rw[storedH_old (atKey_of_get h6 hj),keys_map_putAt];exact h6
def zk5(xs more:List (KK×Addr×Value)):List (KK×Addr×Value):=more.foldl (fun a x=>storedH a x.1 x.2.1 x.2.2) xs
theorem yr5(xs:List (KK×Addr×Value))(k:KK)(a:Addr)(v:Value):(storedH xs k a v).length<=xs.length+1:=by
 unfold storedH
 split
 ·rw[lqm];lia
 ·rw[wr2];exact wr5 _
set_option maxHeartbeats 1000000 in
theorem xc3{nm:String}{d o:Addr}{xs more:List (KK×Addr×Value)}{Q:Unit->Shared->Prop}(hr:knd.room A)(hne:d≠o)(hs:(o == sysModules)=false)(hd:s.heap.DictOfH knd d xs)(ho:s.heap.DictOfH knd o more)(h0:xs≠[])(hsz:xs.length+more.length<=sizeLine)
  (hQ:∀h',h'.DictOfH knd d (zk5 xs more)->Heap.SameBut d s.heap h'->Q () {s with heap:=h'}):wpAny (model prog w) A (Builtin.Dict.mergeDict nm d o) Q E s:=by
 obtain⟨od,esd,epd,d1,d2,d3,d4,d5,d6⟩:=id hd;obtain⟨oo,eso,epo,o1,o2,o3,o4,o5,o6⟩:=id ho;unfold Builtin.Dict.mergeDict;rw[wv5 (by rw[beq_iff_eq];exact hne)];refine wq8 (m:=Builtin.Dict.showsAll o) ?_;unfold Builtin.Dict.showsAll;rw[wv5 (by rw[hs];exact wt2)];refine wr7 (wq8 (vd7 o1 o3 ?_));have go:wpAny (model prog w) A (dictEpoch o >>= fun epoch=>dictEntries o >>= fun l=>(forIn [:l.size] PUnit.unit fun i _=>dictEntries o >>= fun l2=>match l2[i]? with
   | some e=>holding [e.key,e.val] (dictSetHashed d e.key e.hash e.val) >>= fun _=>dictEpoch o >>= fun l3=>if (l3 != epoch)=true then unsupported (toString nm++toString ":source-changed-during-callback") >>= fun(_:Unit)=>pure (ForInStep.yield PUnit.unit) else pure (ForInStep.yield PUnit.unit)
   | _=>unsupported "internal:dict-merge" >>= fun(_:Unit)=>pure (ForInStep.yield PUnit.unit)) >>= fun _=>pure ()) Q E s:=by
  refine wq8 (vq2 o1 o3 (wq8 (vd7 o1 o3 (wq8 ?_))));have hlen:eso.size=more.length:=vq4 o4;rw[Std.Legacy.Range.forIn_eq_forIn_range'];refine wpAny_forIn_list _ (fun rest _ s1=>∃j h1,rest=List.range' j (more.length-j)/\j<=more.length/\s1={s with heap:=h1}/\h1.DictOfH knd d (zk5 xs (more.take j))/\Heap.SameBut d s.heap h1) _ ?_ ?_ _ _ ?_
  ·rintro i rest b s1 ⟨j,h1,e1,hj,rfl,k1,k2⟩;have hjl:j<more.length:=by
    rcases vj7 j more.length with z | z
    ·exact z
    ·rw[Nat.sub_eq_zero_of_le z]at e1;cases e1
   rw[show more.length-j=(more.length-(j+1))+1 by lia,List.range'_succ]at e1;injection e1 with ei er;subst er;subst ei;obtain⟨j,rfl⟩:∃j,j=i:=⟨i,rfl⟩;have g1:h1.get? o=some oo:=k2.extBut _ _ (vb3 hne) o1;refine wq8 (vd7 (s:={s with heap:=h1}) g1 o3 ?_);have ge:eso[j]?=some (entryOfKey knd more[j]):=by
    rw[←vf0,o4,wr3,wq9 hjl];rfl
   rw[ge];have hl2:(zk5 xs (more.take j)).length<=xs.length+j:=by
    have key:∀(l ys:List (KK×Addr×Value)),(zk5 ys l).length<=ys.length+l.length:=by
     intro l
     induction l with
     | nil=>intro ys;exact wr5 _
     | cons x l ih=>
      intro ys;have:=ih (storedH ys x.1 x.2.1 x.2.2);have h2:=yr5 ys x.1 x.2.1 x.2.2;show(zk5 (storedH ys x.1 x.2.1 x.2.2) l).length<=_;rw[wt3];lia
    have:=key (more.take j) xs;rw[wt4]at this;lia
   have hm:more[j]∈more:=ww5 hjl;refine wq8 (wx2 (yp1 (s:={s with heap:=h1}) hr (knd.keeps (o5 _ hm) d1 d3 k2) k1 (by lia) fun h2 q1 q2=>?_));have sb2:=k2.trans q2;refine wq8 (vq2 (s:={s with heap:=h2}) (sb2.extBut _ _ (vb3 hne) o1) o3 ?_);rw[wv5 (by simp)];refine wr7 ⟨j+1,h2,rfl,hjl,rfl,?_,sb2⟩;have e2:zk5 xs (more.take (j+1))=storedH (zk5 xs (more.take j)) more[j].1 more[j].2.1 more[j].2.2:=by
    unfold zk5;rw[ws7,wq9 hjl,List.foldl_append];rfl
   rw[e2];exact q1
  ·rintro b s1 ⟨j,h1,e1,hj,rfl,k1,k2⟩;have ej:j=more.length:=by
    rcases vj7 j more.length with z | z
    ·rw[show more.length-j=(more.length-(j+1))+1 by lia,List.range'_succ]at e1;cases e1
    ·lia
   subst ej;rw[List.take_length]at k1;exact wr7 (hQ h1 k1 k2)
  ·refine⟨0,s.heap,?_,wt6 _,rfl,hd,Heap.SameBut.refl _ _⟩;show List.range' 0 ((eso.size-0+1-1) / 1)=List.range' 0 (more.length-0);rw[hlen,Nat.div_one];rfl
 have he:esd.isEmpty=false:=by
  have:=vq4 d4;cases e:esd.isEmpty with
  | false=>rfl
  | true=>
   rw[Array.isEmpty_iff_size_eq_zero]at e;rw[e]at this;exact absurd (vf9.mp this.symm) h0
 dsimp only;refine wpAny_ite_split (fun _=>?_) (fun _=>go);refine wq8 (vd7 d1 d3 ?_);rw[wv5 (by rw[he];exact wt2)];exact go
end
def kyP(p:Pr):List Key:=[Sum.inr p.1,Sum.inr p.2]
theorem xk1{p q:Pr}(h:kyP p=kyP q):p=q:=by
 unfold kyP at h;injection h with h1 h2;injection h2 with h2 _;exact Prod.ext (vk8 h1) (vk8 h2)
abbrev tkd(P:Program)(w:World):=tupleKind (zc7 P w)
def pdP(P:Program)(w:World)(a:Addr)(qs:List (Pr×Addr))(h:Heap):Prop:=qs.length<=sizeLine/\(a == sysModules)=false/\∃xs:List (List Key×Addr×Value),xs.map (fun x=>(x.1,x.2.1))=qs.map (fun q=>(kyP q.1,q.2))/\
 ∃o es ep,h.get? a=some o/\o.ExactDict/\o.data=.dict es ep/\es.toList=xs.map (entryOfKey (tkd P w))/\(xs.map (·.1)).Nodup
def pdO(P:Program)(w:World)(a:Addr)(qs:List (Pr×Addr)):HO:=.ext (pdP P w a qs)
theorem xg5{P:Program}{w:World}{H:Hp}{h:Heap}{a:Addr}{qs:List (Pr×Addr)}(x:pdP P w a qs h):ObjOk P w H h a (pdO P w a qs):=by
 refine⟨x,?_,fun h1 h2 y k=>?_⟩
 ·obtain⟨_,_,xs,_,o,_,_,e,_⟩:=x;exact⟨o,e⟩
 ·obtain⟨z,hd,vs,r,ob,es,ep,e,c⟩:=y;exact⟨z,hd,vs,r,ob,es,ep,k _ e,c⟩
def PdOk(K:PySem.W.Frag)(H:Hp)(qs:List (Pr×Addr)):Prop:=∀q∈qs,SqT K H q.2 [.str q.1.1,.str q.1.2]
section
variable{pins:List (Addr×Obj)}{σ:St}{H:Hp}{s:Shared}
theorem yg3{b:Addr}{n:Pr}(I:Inv X pins σ H s)(h:SqT X.K H b [.str n.1,.str n.2]):(tkd X.prog X.w).is s.heap (kyP n) b:=by
 obtain⟨its,r,⟨o,h1,h2,m,h3⟩,_⟩:=I.tuple h;exact⟨o,its.toArray,m,h1,h2,h3,by simpa using zz0 (ks:=kyP n) r⟩
theorem yr3{a:Addr}{qs:List (Pr×Addr)}(I:Inv X pins σ H s)(hx:H a=some (pdO X.prog X.w a qs))(ok:PdOk X.K H qs):qs.length<=sizeLine/\(a == sysModules)=false/\
  ∃xs:List (List Key×Addr×Value),xs.map (fun x=>(x.1,x.2.1))=qs.map (fun q=>(kyP q.1,q.2))/\s.heap.DictOfH (tkd X.prog X.w) a xs:=by
 obtain⟨z,hd,xs,r,o,es,ep,h1,h2,h3,h4,h5⟩:=(I.hok a _ hx).1;refine⟨z,hd,xs,r,o,es,ep,h1,h2,h3,h4,fun x hm=>?_,h5⟩;have:(x.1,x.2.1)∈qs.map (fun q=>(kyP q.1,q.2)):=by rw[←r];exact ws2.mpr ⟨x,hm,rfl⟩
 obtain⟨q,hq,e⟩:=ws2.mp this;injection e with e1 e2;rw[←e1,←e2];exact yg3 I (ok q hq)
theorem at_pd{xs:List (List Key×Addr×Value)}{qs:List (Pr×Addr)}{n:Pr}(r:xs.map (fun x=>(x.1,x.2.1))=qs.map (fun q=>(kyP q.1,q.2))):(atKey xs (kyP n)).isSome=decide (n∈qs.map (·.1)):=by
 unfold atKey;rw[Option.isSome_map,vd9,vk5,List.find?_isSome]
 constructor
 ·rintro⟨x,hx,e⟩;have e:=ws0 e;have:(x.1,x.2.1)∈qs.map (fun q=>(kyP q.1,q.2)):=by rw[←r];exact ws2.mpr ⟨x,hx,rfl⟩
  obtain⟨q,hq,e2⟩:=ws2.mp this;injection e2 with e1 e2;rw[e]at e1;exact ws2.mpr ⟨q,hq,xk1 e1⟩
 ·intro h;obtain⟨q,hq,e⟩:=ws2.mp h;have:(kyP q.1,q.2)∈xs.map (fun x=>(x.1,x.2.1)):=by rw[r];exact ws2.mpr ⟨q,hq,rfl⟩
  obtain⟨x,hx,e2⟩:=ws2.mp this;injection e2 with e1 e2;exact⟨x,hx,wt8 (by rw[e1,e])⟩
end
section
variable{i o:Expr}{ty td:TE}
def tPIn(P:Program)(w:World)(K:PySem.W.Frag)(ty td:TE):TE:=fun σ H Q=>ty σ H fun y H1=>td σ H1 fun x H2=>∃a b qs n,x=.ref a/\y=.ref b/\H2 a=some (pdO P w a qs)/\PdOk K H2 qs/\SqT K H2 b [.str n.1,.str n.2]/\Q (.bl (decide (n∈qs.map (·.1)))) H2
theorem pc_pin(hu:X.A.units+1<cLine)(hi:PE X i ty)(ho:PE X o td):PC X .In i o (tPIn X.prog X.w X.K ty td):=by
 intro pins s σ H Q I h;refine thn (hi pins s σ H _ I h) fun iv s1 ⟨y,H1,I1,ry,q1⟩=>thn (ho pins s1 σ H1 _ I1 q1) fun u s2 ⟨x,H2,I2,rx,a,b,qs,n,ex,ey,g,ok,hb,q2⟩=>?_;subst ex ey;obtain rfl:u=Value.ref a:=rx;obtain rfl:iv=Value.ref b:=ry;obtain⟨z,hd,xs,r,dd⟩:=yr3 I2 g ok;refine wpAny_in_heap (vh4 hu) (yg3 I2 hb) hd dd ?_;rw[at_pd r];exact⟨.bl _,H2,I2.tok _,rfl,q2⟩
theorem wg5{prog:Program}{w:World}{A:Around}{E:Value->Shared->Prop}{s:Shared}{d:Addr}{od:Obj}{es:Array DictEntry}{ep:Nat}{Q:Value->Shared->Prop}(hs:(d == sysModules)=false)(h1:s.heap.get? d=some od)(h2:od.cls=.type "dict")(h3:od.data=.dict es ep)(hz:es.size<=sizeLine)
  (h:∀t t',Q (.int (es.size:Int) t) {s with toks:=t'}):wpAny (model prog w) A (call (.builtin "len") [.ref d]) Q E s:=by
 have tD:s.TypeIs (.ref d) "dict":=⟨_,h1,h2⟩;rw[vj9]at hz;refine vn2 kind_len plain_len entry_len (args_len1 (.ref d)) ?_;unfold Builtin.len;refine wq8 (m:=oneArg _ _) (wr7 ?_);refine wq8 (ww8 tD F.slot_dict_len (ww9 F.slot_dict_len tD F.entry_dict_len ?_ (F.args_dict_len_1 (.ref d))));unfold Builtin.«dict.__len__» Builtin.Dict.dictSlotNone;refine wq8 (wq8 (vm4 tD ?_));refine wq8 (wr7 (wr7 (wq8 (wr7 ?_))));unfold dictSize Builtin.Dict.pendingCount;refine wq8 (wq8 (vd7 h1 h3 (wr7 (wq8 ?_))));rw[wv5 (by rw[hs];exact wt2)];refine wr7 ?_;unfold retInt;refine wq8 (wpAny_mkInt (wr7 ⟨_,rfl,?_⟩));dsimp only;have e0:((es.size:Int)+((0:Nat):Int))=(es.size:Int):=by simp
 rw[e0];refine wq8 (wx2 (wr7 (wq8 (wpAny_letGo ?_))));rw[wv5 (by lia),wv5 (by lia)];exact wq8 (wpAny_mkInt (wr7 ⟨_,rfl,h _ _⟩))
theorem ym3:CallR X (.builtin "len") (fun xs H Q=>∃a qs,xs=[V.ref a]/\H a=some (pdO X.prog X.w a qs)/\Q (.int qs.length) H):=by
 intro pins s σ H xs us Q I r h;obtain⟨a,qs,rfl,ha,q⟩:=h;obtain⟨u,rfl,ru⟩:=zq8 r;cases ru;obtain⟨z,hd,xs,r,o,es,ep,h1,h2,h3,h4,h5⟩:=(I.hok a _ ha).1;have hl:es.size=qs.length:=by
  have:=wx5 List.length r;rw[lqm,lqm]at this;rw[vq4 h4,this]
 refine wg5 hd h1 h2.1 h3 (by rw[hl];exact z) fun t t'=>?_
 rw[hl];exact⟨.int qs.length,H,I.tok _,⟨t,rfl⟩,q⟩
def tPOne(P:Program)(w:World)(K:PySem.W.Frag)(tk tv:TE):TE:=fun σ H Q=>∀p,H p=none->tk σ (upd H p (pdO P w p [])) fun x H1=>tv σ H1 fun y H2=>∃b n,x=.ref b/\H2 p=some (pdO P w p [])/\SqT K H2 b [.str n.1,.str n.2]/\Q (.ref p) (upd H2 p (pdO P w p [(n,b)]))
theorem pe_pd1{k v:Expr}{pos:Pos}{tk tv:TE}(hu:X.A.units<cLine)(hk:PE X k tk)(hv:PE X v tv):PE X (.Dict [some k] [v] pos) (tPOne X.prog X.w X.K tk tv):=by
 intro pins s σ H Q I q;have hsys:(s.heap.objs.size == sysModules)=false:=vn9.mpr (vb3 (ws6 I.big));have hn:=I.hok.fresh (wr5 s.heap.objs.size);have I1:=I.laid (a:=s.heap.objs.size) (o:=pdO X.prog X.w s.heap.objs.size []) (h':=s.heap.push {cls:=.type "dict",data:=.dict #[]}) (t':=s.toks) (fun _ _ q=>wr4 _ q) (wr5 _) (xg5 ⟨wt6 _,hsys,[],rfl,_,_,_,wt0 _ rfl,⟨rfl,rfl,rfl⟩,rfl,rfl,vd8⟩);have hp:PPs X pos [some k] [v] [(tk,tv)]:=yw6 hk hv xf7;rw[arm_eval_Dict,zip_pairTrees [some k] [v] X.env pos rfl rfl,dictDisplay_pairs _ (by intro z;cases z) (by show 1<17;decide)];refine wq8 (vj8 (wq8 ?_));unfold subDict;refine wq8 (wpAny_alloc (wq8 (wx2 ?_)));rw[ww4 (by show 1<=15;decide)];refine wq8 (thn (hp pins _ σ _ (fun ps H2=>match ps with | [(x,y)]=>∃b n,x=.ref b/\H2 s.heap.objs.size=some (pdO X.prog X.w s.heap.objs.size [])/\SqT X.K H2 b [.str n.1,.str n.2]/\Q (.ref s.heap.objs.size) (upd H2 s.heap.objs.size (pdO X.prog X.w s.heap.objs.size [(n,b)])) | _=>False) I1 (q _ hn)) fun ws s2 ⟨ps,H2,I2,rel,q2⟩=>?_);rcases ps with _ | ⟨⟨x,y⟩,_ | ⟨_,_⟩⟩
 ·exact q2.elim
 rotate_left
 ·exact q2.elim
 obtain⟨b,n,rfl,e,hb,q2⟩:=q2;cases rel with
 | @cons p c ps bs hr ht=>
  cases ht;obtain⟨b1,b2⟩:=c;obtain⟨r1,r2⟩:=hr;have eb:b1=Value.ref b:=r1;subst eb;refine wx2 (wq8 ?_);obtain⟨z,hd,xs,r,dd⟩:=yr3 I2 e (fun q hq=>nomatch hq);have ex:xs=[]:=List.map_eq_nil_iff.mp r;subst ex;show wpAny _ _ (forIn [(Value.ref b,b2)] PUnit.unit _) _ _ _;rw[vm2];refine wq8 (wq8 (wpAny_dictSet_heap (knd:=tkd X.prog X.w) hu (yg3 I2 hb) dd (fun h' dd' hs'=>wr7 ?_) (wt6 _)));refine wr7 (wr7 (wr7 (wr7 ⟨.ref s.heap.objs.size,_,?_,rfl,q2⟩)));obtain⟨o,es,ep,g1,g2,g3,g4,g5,g6⟩:=dd';exact zn9 I2 (by rw[e];exact vj4) hs' ⟨o,g1⟩ (xg5 ⟨by show 1<=sizeLine;exact ws3 (zc0 (by lia)),hd,_,rfl,o,es,ep,g1,g2,g3,g4,g6⟩)
def zt6(qs:List (Pr×Addr))(q:Pr×Addr):List (Pr×Addr):=if q.1∈qs.map (·.1) then qs else qs++[q]
def zk9(qs more:List (Pr×Addr)):List (Pr×Addr):=more.foldl zt6 qs
theorem xk8{xs:List (List Key×Addr×Value)}{qs:List (Pr×Addr)}(r:xs.map (fun x=>(x.1,x.2.1))=qs.map (fun q=>(kyP q.1,q.2)))(q:Pr×Addr)(v:Value):
  (storedH xs (kyP q.1) q.2 v).map (fun x=>(x.1,x.2.1))=(zt6 qs q).map (fun q=>(kyP q.1,q.2)):=by
 have h:=at_pd (n:=q.1) r;unfold storedH zt6
 by_cases c:q.1∈qs.map (·.1)
 ·rw[ww4 c,ww4 (by rw[h];exact wt8 c),vc8,←r];refine vg8 fun x _=>?_;show((putAt (kyP q.1) v x).1,(putAt (kyP q.1) v x).2.1)=_;unfold putAt
  split <;> rfl
 ·rw[wv5 c,wv5 (by rw[h];simpa using c),wr9,wr9,r];rfl
theorem xr0{ys:List (List Key×Addr×Value)}:∀{more:List (Pr×Addr)}{xs:List (List Key×Addr×Value)}{qs:List (Pr×Addr)},xs.map (fun x=>(x.1,x.2.1))=qs.map (fun q=>(kyP q.1,q.2))->ys.map (fun x=>(x.1,x.2.1))=more.map (fun q=>(kyP q.1,q.2))->
  (zk5 xs ys).map (fun x=>(x.1,x.2.1))=(zk9 qs more).map (fun q=>(kyP q.1,q.2)):=by
 induction ys with
 | nil=>intro more xs qs r r2;cases more with
  | nil=>exact r
  | cons=>cases r2
 | cons y ys ih=>
  intro more xs qs r r2;cases more with
  | nil=>cases r2
  | cons m more=>
   rw[ww3,ww3]at r2;injection r2 with e r2;injection e with e1 e2;show(zk5 (storedH xs y.1 y.2.1 y.2.2) ys).map _=(zk9 (zt6 qs m) more).map _;refine ih ?_ r2;rw[e1,e2];exact xk8 r m _
theorem xf3(qs:List (Pr×Addr))(q:Pr×Addr):(zt6 qs q).length<=qs.length+1:=by
 unfold zt6
 split
 ·lia
 ·rw[wr2];exact wr5 _
theorem yb3:∀(more qs:List (Pr×Addr)),(zk9 qs more).length<=qs.length+more.length
 | [],qs=>wr5 _
 | q::more,qs=>by
  have:=yb3 more (zt6 qs q);have h:=xf3 qs q;show(zk9 (zt6 qs q) more).length<=_;rw[wt3];lia
theorem ys6{prog:Program}{w:World}{A:Around}{E:Value->Shared->Prop}{s:Shared}{d o:Addr}{xs more:List (List Key×Addr×Value)}{Q:Value->Shared->Prop}(hu:A.units+1<cLine)(hne:d≠o)(hs:(o == sysModules)=false)(hd:s.heap.DictOfH (tkd prog w) d xs)(ho:s.heap.DictOfH (tkd prog w) o more)(h0:xs≠[])(hsz:xs.length+more.length<=sizeLine)
  (hQ:∀h',h'.DictOfH (tkd prog w) d (zk5 xs more)->Heap.SameBut d s.heap h'->Q .none {s with heap:=h'}):wpAny (model prog w) A (call (.builtin "dict.update") [.ref d,.ref o]) Q E s:=by
 refine ww9 F.slot_dict_update hd.typeIs F.entry_dict_update ?_ (F.args_dict_update_2 _ _);unfold Builtin.«dict.update»;refine wq8 (m:=Builtin.Dict.selfAndRest _ _) ?_;unfold Builtin.Dict.selfAndRest;refine wq8 (vm4 hd.typeIs ?_);refine wq8 (m:=Builtin.Dict.addrOf _) (wr7 (wr7 ?_));show wpAny _ _ (Builtin.Dict.updateFrom "dict.update" d (.ref o) [] .none) _ _ s;unfold Builtin.Dict.updateFrom;refine wq8 (wpAny_typeOf ho.typeIs ?_);rw[wv5 (by decide)];refine wq8 ?_;have fin:∀h',h'.DictOfH (tkd prog w) d (zk5 xs more)->Heap.SameBut d s.heap h'->wpAny (model prog w) A.in1 (Builtin.Dict.addKeywords d [] >>= fun _=>ret Value.none) (fun fin s'=>∃v,fin=Fin.done (Flow.ret v)/\Q v s') E {s with heap:=h'}:=fun h' q1 q2=>wq8 (m:=Builtin.Dict.addKeywords d []) (wr7 (wr7 ⟨_,rfl,hQ h' q1 q2⟩));unfold Builtin.Dict.merge Builtin.Dict.readDirectly;refine wq8 (wq8 (vk4 ho.typeIs isSubtype_dict_dict ?_));simp only[Bool.not_true,vb7,vg9];refine wq8 (vf1 ho.typeIs F.slot_dict_iter.lookup (wr7 ?_));simp only[beq_self_eq_true,if_true];refine wq8 (m:=Builtin.Dict.addrOf _) (wr7 ?_);exact xc3 (vh4 hu) hne hs hd ho h0 hsz fin
def rUpdP(P:Program)(w:World)(K:PySem.W.Frag):V->List V->Hp->VK->Prop:=fun x vs H Q=>∃a b qs more,x=.ref a/\vs=[.ref b]/\H a=some (pdO P w a qs)/\qs≠[]/\PdOk K H qs/\H b=some (.dT (more.map fun n=>(kyP n,V.bl true)))/\qs.length+more.length<=sizeLine/\
 ∀bs:List Addr,A2 (fun q n=>H q=some (.tup [.str n.1,.str n.2])) bs more->Q .non (upd H a (pdO P w a (zk9 qs (more.zip bs))))
theorem wn8(hu:X.A.units+1<cLine):MtR X "dict.update" (rUpdP X.prog X.w X.K):=by
 intro pins s σ H x vs v us Q I rx rv h;obtain⟨a,b,qs,more,rfl,rfl,ha,h0,ok,hb,hz,q⟩:=h;cases rx;obtain⟨u,rfl,ru⟩:=rv.one;cases ru;obtain⟨z,hd,xs,r,dd⟩:=yr3 I ha ok;obtain⟨z2,hd2,ys,rel,dd2⟩:=wg7 I.hok hb;have key:∀{more:List Pr}{ys:List (List Key×Addr×Value)},KT H (more.map fun n=>(kyP n,V.bl true)) ys->∃bs:List Addr,A2 (fun q (n:Pr)=>H q=some (.tup [.str n.1,.str n.2])) bs more/\ys.map (fun x=>(x.1,x.2.1))=(more.zip bs).map (fun q=>(kyP q.1,q.2)):=by
  intro more
  induction more with
  | nil=>intro ys k;cases k;exact⟨[],.nil,rfl⟩
  | cons n more ih=>
   intro ys k;cases k with
   | @cons p y ps ys hq t=>
    obtain⟨bs,h1,h2⟩:=ih t;refine⟨y.2.1::bs,.cons hq.2.1 h1,?_⟩;rw[ww3,h2,vq3,ww3,←hq.1]
 obtain⟨bs,hA,r2⟩:=key rel;have lx:xs.length=qs.length:=by have:=wx5 List.length r;rwa [lqm,lqm]at this
 have ly:ys.length=more.length:=by have:=vr1 rel;rw[lqm]at this;exact this.symm
 have hne:a≠b:=wn9 ha hb (fun z=>nomatch z);refine ys6 hu hne hd2 dd dd2 (fun z=>h0 (vf9.mp (by rw[←lx,z];rfl))) (by lia) fun h' q1 q2=>?_
 obtain⟨o,es,ep,g1,g2,g3,g4,g5,g6⟩:=q1;have rm:=xr0 r r2;have lb:(more.zip bs).length<=more.length:=by rw[vm5];exact Nat.min_le_left _ _
 have lm:=yb3 (more.zip bs) qs;exact⟨.non,_,zn9 (t':=s.toks) I (by rw[ha];exact vj4) q2 ⟨o,g1⟩ (xg5 ⟨by lia,hd,_,rm,o,es,ep,g1,g2,g3,g4,g6⟩),rfl,q bs hA⟩
end
def rUpdK:V->List V->Hp->VK->Prop:=fun x vs H Q=>∃a b kvs more,x=.ref a/\vs=[.ref b]/\a≠b/\H a=some (.dK kvs)/\H b=some (.dK more)/\kvs.length+more.length<=sizeLine/\Q .non (upd H a (.dK (zf6 kvs more)))
theorem wq1:MtR X "dict.update" rUpdK:=by
 intro pins s σ H x vs v us Q I rx rv h;obtain⟨a,b,kvs,more,rfl,rfl,hne,ha,hb,hz,q⟩:=h;cases rx;obtain⟨u,rfl,ru⟩:=rv.one;cases ru;obtain⟨z,hd,xs,rel,dd⟩:=yj3 I.hok ha;obtain⟨z2,hd2,ys,rel2,dd2⟩:=yj3 I.hok hb;have l1:=rel.length;have l2:=rel2.length;refine vj6 F.slot_dict_update dd.typeIs F.entry_dict_update (F.args_dict_update_2 _ _) (meets_dict_update (zc7 X.prog X.w) a b hne hd2) ⟨xs,ys,dd,dd2,by lia,fun h' d' _ sb=>?_⟩;have he:∃q,h'.get? a=some q:=let ⟨q,_,_,hq,_⟩:=d';⟨q,hq⟩
 have lm:=zh7 more kvs;exact⟨.non,_,zn9 (t':=s.toks) I (by rw[ha];exact vj4) sb he (ym6 (by lia) hd (rel2.merge rel) d'),rfl,q⟩
theorem yp8(hc:X.calm=true):CallR X (.builtin "sorted") (fun xs H Q=>∃(p:Addr)(ss:List Str)(kvs:List (Key×V)),xs=[.ref p]/\H p=some (.dK kvs)/\kvs.map (·.1)=ss.map Sum.inr/\ss.length<64/\∀(l:Addr)(ss':List Str),H l=none->ss'.Perm ss->sortedS ss'=true->Q (.ref l) (upd H l (.lst (ss'.map V.str)))):=by
 intro pins s σ H xs us Q I r h;obtain⟨p,ss,kvs,rfl,hp,hk,h64,q⟩:=h;obtain⟨u,rfl,ru⟩:=zq8 r;cases ru;obtain⟨z,hd,vs,rel,dd⟩:=yj3 I.hok hp;obtain⟨o,ho⟩:∃o,s.heap.get? p=some o:=by obtain⟨o,_,_,e,_⟩:=id dd;exact⟨o,e⟩
 obtain⟨vs,ep,rel,hat⟩:=zr3 ho ⟨vs,rel,dd⟩;have hlen:=rel.length;have hl2:kvs.length=ss.length:=by have:=wx5 List.length hk;rwa [lqm,lqm]at this
 refine vn2 kind_sorted plain_sorted entry_sorted (args_sorted1 _) ?_;unfold Builtin.«sorted»;refine wq8 (m:=checkCount "sorted" 1 1 _) (wr7 ?_);refine wq8 (zx9 (PySem.W.kdl_dict (knd:=zc7 X.prog X.w) (kvs:=vs) (ep:=ep) (d:=p) hd) (I.ok.hd hc) (hat _ ho) (by lia) fun h1 tk acc k hacc hsz=>?_);have hS:StrsAre acc.toList ss:=by
  have hi:∀(i:Nat)(v:Value),acc.toList[i]?=some v->∃x t,ss[i]?=some x/\v=.str x t:=fun i v hv=>by
   obtain⟨k,y,hy,hk'⟩:=hacc.2 i v (by rw[←vf0];exact hv);obtain⟨v',hv',_⟩:=rel.get hy;have:(kvs.map (·.1))[i]?=some k:=by rw[wr3,hv'];rfl
   rw[hk,wr3,wr6]at this;obtain⟨x,hx,e⟩:=this;rcases zd8 hk' with ⟨n,t,rfl,rfl⟩ | ⟨n,t,rfl,rfl⟩
   ·cases e
   ·cases e;exact⟨_,t,hx,rfl⟩
  have hl:acc.toList.length=ss.length:=by rw[ww1,hacc.1];lia
  clear hacc k q hk
  revert hi hl
  generalize acc.toList=as;intro hi hl;clear h64 hl2
  induction as generalizing ss with
  | nil=>cases ss with
   | nil=>exact .nil
   | cons=>cases hl
  | cons a as ih=>
   cases ss with
   | nil=>cases hl
   | cons x ss=>
    obtain⟨y,t,hy,rfl⟩:=hi 0 a rfl;cases hy;exact .cons _ _ (ih (ss:=ss) (fun i v hv=>hi (i+1) v hv) (by simpa using hl))
 have hal:acc.toList.length=ss.length:=by rw[ww1,hacc.1];lia
 refine wq8 (wpAny_newList ?_ (by rw[vj9];lia));have hoL:(h1.push (seqObj "list" acc.toList.toArray 0)).get? h1.objs.size=some (seqObj "list" acc.toList.toArray 0):=wt0 _ rfl;refine wq8 (wx2 (ww9 slot_list_sort (s:={s with heap:=h1.push (seqObj "list" acc.toList.toArray 0),toks:=tk}) ⟨_,hoL,rfl⟩ entry_list_sort (list_sort_treeK strKind_oneLt hoL hS.keysOf (fun v₁ v₂ rest e=>keyKind_strs (by rw[←e];exact hS)) (by lia) fun st' a1 a2=>⟨_,rfl,?_⟩) (args_list_sort _)));obtain⟨ss',q1,q2,q3⟩:=sorted_out_str hS a1 a2;obtain⟨e,he⟩:=sortedHeap_at (out:=(arrOf st').map (·.2)) hoL;have kk:∀b o,s.heap.get? b=some o->(sortedHeap (h1.push (seqObj "list" acc.toList.toArray 0)) h1.objs.size acc.toList ((arrOf st').map (·.2))).get? b=some o:=fun b o eb=>by
  have hb:b<h1.objs.size:=ws1 (k b o eb);rw[sortedHeap_old (ws6 hb) (by rw[size_push'];exact Nat.lt_succ_of_lt hb)];exact wr4 _ (k b o eb)
 have I2:=I.laid (t':=tk) (a:=h1.objs.size) (o:=.lst (ss'.map V.str)) kk (ws3 hsz) (show ObjOk X.prog X.w _ _ _ (.lst (ss'.map V.str)) from ⟨?_,((arrOf st').map (·.2)).toList,e,xg2 q1,by rw[Array.toArray_toList];exact he⟩)
 ·exact wr7 ⟨_,rfl,.ref h1.objs.size,_,I2,rfl,q _ _ (I.hok.fresh (ws3 hsz)) q2 q3⟩
 ·rw[lqm,q2.length_eq,vj9];lia
theorem yq1(hc:X.calm=true):CallR X (.builtin "sorted") (fun xs H Q=>∃(p:Addr)(qs:List (Pr×Addr)),xs=[.ref p]/\H p=some (pdO X.prog X.w p qs)/\PdOk X.K H qs/\qs.length<128/\
  ∀(l:Addr)(qs':List (Pr×Addr)),H l=none->qs'.Perm qs->Q (.ref l) (upd H l (.lst (qs'.map fun q=>V.ref q.2)))):=by
 intro pins s σ H xs us Q I r h;obtain⟨p,qs,rfl,hp,ok,h128,q⟩:=h;obtain⟨u,rfl,ru⟩:=zq8 r;cases ru;obtain⟨z,hd,xs,r2,o,es,ep,g1,g2,g3,g4,g5⟩:=(I.hok p _ hp).1;have lx:es.size=qs.length:=by
  have:=wx5 List.length r2;rw[lqm,lqm]at this;rw[vq4 g4,this]
 have kq:∀(i:Nat)(e:DictEntry),es[i]?=some e->∃q,qs[i]?=some q/\e.key=.ref q.2:=fun i e he=>by
  rw[←vf0,g4,wr3,wr6]at he;obtain⟨x,hx,rfl⟩:=he;have:=wx5 (fun l=>l[i]?) r2;rw[wr3,wr3,hx]at this;obtain⟨q,hq,e⟩:=wr6.mp this.symm;refine⟨q,hq,?_⟩;injection e with _ e2;show Value.ref x.2.1=.ref q.2;rw[e2]
 have inj:∀q∈qs,∀q'∈qs,q.2=q'.2->q=q':=fun q hq q' hq' e=>by
  have h1:=ok q hq;rw[e]at h1;have:=I.tuple_inj h1 (ok q' hq');injection this with a b;injection b with b _;exact Prod.ext (Prod.ext (V.str.inj a) (V.str.inj b)) e
 let dec:Value->Pr:=fun v=>((qs.find? fun q=>match v with | .ref a=>decide (q.2=a) | _=>false).map (·.1)).getD (("",""):Pr)
 have hdec:∀q∈qs,dec (.ref q.2)=q.1:=fun q hq=>by
  show((qs.find? fun q'=>decide (q'.2=q.2)).map (·.1)).getD (("",""):Pr)=q.1;cases e:qs.find? fun q'=>decide (q'.2=q.2)with
  | none=>exact absurd (wt8 rfl) (vq5.mp e q hq)
  | some q'=>
   have h1:=List.find?_some e;have h2:=vh9 e;rw[inj q' h2 q hq (ws0 h1)];rfl
 have isP:∀q∈qs,IsP s.heap (.ref q.2) (dec (.ref q.2)):=fun q hq=>by
  rw[hdec q hq];obtain⟨its,r,⟨o,h1,h2,m,h3⟩,_⟩:=I.tuple (ok q hq);cases r with
  | cons a t=>cases t with
   | cons b t=>cases t;obtain⟨t1,rfl⟩:=a;obtain⟨t2,rfl⟩:=b;exact⟨q.2,o,m,t1,t2,rfl,h1,h2,h3⟩
 refine yn6 (dec:=dec) (zx9 (xt1 (es:=es) (ep:=ep) (d:=p) hd) (I.ok.hd hc) ⟨o,g1,g2.1,g3⟩ (by rw[lx];exact z) fun h1 tk acc k hacc hsz=>?_);have eacc:acc.toList=qs.map fun q=>Value.ref q.2:=by
  refine vq8 fun i=>?_;rw[wr3];rcases vj7 i qs.length with hi | hi
  ·have hi2:i<acc.toList.length:=by rw[ww1,hacc.1,lx];exact hi
   obtain⟨e,he,ev⟩:=hacc.2 i acc.toList[i] (by rw[←vf0,wq9 hi2]);obtain⟨q',hq',ek⟩:=kq i e he;rw[wq9 hi2,hq',ev,ek];rfl
  ·rw[vf2 (by rw[ww1,hacc.1,lx];exact hi),vf2 hi];rfl
 rw[eacc];refine⟨by rw[lqm];exact h128,fun v hv=>?_,fun h' e vs' pm kk he=>?_⟩
 ·obtain⟨q,hq,rfl⟩:=ws2.mp hv;exact(isP q hq).keep k
 let back:Value->Pr×Addr:=fun v=>(dec v,match v with | .ref a=>a | _=>0)
 have hback:∀q∈qs,back (.ref q.2)=q:=fun q hq=>Prod.ext (hdec q hq) rfl;have p2:(vs'.map back).Perm qs:=by
  have:=pm.map back;rw[vc8]at this;have e9:qs.map (back∘fun q=>Value.ref q.2)=qs:=by
   conv=>rhs;rw[←List.map_id qs]
   exact vg8 fun q hq=>hback q hq
  rwa [e9]at this
 have e3:(vs'.map back).map (fun q=>Value.ref q.2)=vs':=by
  rw[vc8]
  conv=>rhs;rw[←List.map_id vs']
  refine vg8 fun v hv=>?_;obtain⟨q,hq,rfl⟩:=ws2.mp (pm.mem_iff.mp hv);rfl
 have vals:Vals ((vs'.map back).map fun q=>V.ref q.2) vs':=by
  conv=>rhs;rw[←e3]
  generalize vs'.map back=l
  induction l with
  | nil=>exact .nil
  | cons x l ih=>exact .cons rfl ih
 have I2:=I.laid (t':=tk) (a:=h1.objs.size) (o:=.lst ((vs'.map back).map fun q=>V.ref q.2)) (fun b o eb=>kk b o (k b o eb)) (ws3 hsz) (show ObjOk X.prog X.w _ _ _ (.lst _) from ⟨?_,vs',e,vals,he⟩)
 ·exact⟨.ref h1.objs.size,_,I2,rfl,q _ _ (I.hok.fresh (ws3 hsz)) p2⟩
 ·rw[lqm,p2.length_eq,vj9];lia
def rInQ(K:PySem.W.Frag)(neg:Bool):R2:=fun x y H Q=>∃(a p:Addr)(n:Pr)(qs:List (Pr×Addr)),x=.ref a/\y=.ref p/\SqT K H a [.str n.1,.str n.2]/\(SqL K H p (qs.map fun q=>V.ref q.2)∨SqT K H p (qs.map fun q=>V.ref q.2))/\PdOk K H qs/\Q (.bl (neg ^^ decide (n∈qs.map (·.1)))) H
open Classical in
theorem zw9(hu:X.A.units+1<cLine){pins:List (Addr×Obj)}{σ:St}{H:Hp}{s:Shared}{a:Addr}{n:Pr}{qs:List (Pr×Addr)}{its:List Value}(I:Inv X pins σ H s)(ha:SqT X.K H a [.str n.1,.str n.2])(r:Vals (qs.map fun q=>V.ref q.2) its)(ok:PdOk X.K H qs):
  (∀y,y∈its.toArray->SeqAt.EqAt X.A.in1 s y (.ref a) ((fun v=>match v with | .ref q=>decide (SqT X.K H q [.str n.1,.str n.2]) | _=>false) y))/\
  its.toArray.any (fun v=>match v with | .ref q=>decide (SqT X.K H q [.str n.1,.str n.2]) | _=>false)=decide (n∈qs.map (·.1)):=by
 have kn:∀q∈qs,decide (SqT X.K H q.2 [.str n.1,.str n.2])=decide (q.1=n):=fun q hq=>by
  by_cases e:q.1=n
  ·subst e;rw[wt8 rfl,wt8 (ok q hq)]
  ·rw[wv8 e,wv8 fun h2=>e ?_];have:=I.tuple_inj (ok q hq) h2;injection this with a b;injection b with b _;exact Prod.ext (V.str.inj a) (V.str.inj b)
 have eits:its=qs.map fun q=>Value.ref q.2:=by
  clear kn ok
  induction qs generalizing its with
  | nil=>cases r;rfl
  | cons q qs ih=>
   cases r with
   | cons h t=>
    have e:_=Value.ref q.2:=h;rw[ih t,e];rfl
 subst eits;refine⟨fun v hv=>?_,?_⟩
 ·obtain⟨q,hq,rfl⟩:=ws2.mp (by simpa using hv:v∈qs.map fun q=>Value.ref q.2);show SeqAt.EqAt _ _ _ _ (decide (SqT X.K H q.2 [.str n.1,.str n.2]))
  by_cases e:q.2=a
  ·rw[e,wt8 ha];exact SeqAt.EqAt.same _
  ·have:=SeqAt.EqAt.of_refs e (rcS (A:=X.A.in1) (ss:=[q.1.1,q.1.2]) (tt:=[n.1,n.2]) I hu (ok q hq) ha);rw[kn q hq];have e2:decide (q.1=n)=decide ([q.1.1,q.1.2]=[n.1,n.2]):=by
    by_cases c:q.1=n
    ·rw[wt8 c,c,wt8 rfl]
    ·rw[wv8 c,wv8 fun h=>c ?_];injection h with h1 h2;injection h2 with h2 _;exact Prod.ext h1 h2
   rw[e2];exact this
 ·rw[vd9,vk5];rw[show(qs.map fun q=>Value.ref q.2).toArray.any (fun v=>match v with | .ref q=>decide (SqT X.K H q [.str n.1,.str n.2]) | _=>false)=(qs.map fun q=>Value.ref q.2).any (fun v=>match v with | .ref q=>decide (SqT X.K H q [.str n.1,.str n.2]) | _=>false) by simp,vk3]
  constructor
  ·rintro⟨v,hv,e⟩;obtain⟨q,hq,rfl⟩:=ws2.mp hv;have e:decide (SqT X.K H q.2 [.str n.1,.str n.2])=true:=e;rw[kn q hq]at e;exact ws2.mpr ⟨q,hq,ws0 e⟩
  ·intro h;obtain⟨q,hq,e⟩:=ws2.mp h;refine⟨.ref q.2,ws2.mpr ⟨q,hq,rfl⟩,?_⟩;show decide (SqT X.K H q.2 [.str n.1,.str n.2])=true;rw[kn q hq];exact wt8 e
open Classical in
theorem wd1(hu:X.A.units+1<cLine):OpR X (compareOp .In) (rInQ X.K false):=by
 intro pins s σ H x y v u Q I rx ry h;obtain⟨a,p,n,qs,rfl,rfl,ha,hp,ok,q⟩:=h;cases rx;cases ry;rw[vn3]at q;rcases hp with hp | hp
 ·obtain⟨its,r,pl,hz⟩:=I.list hp;obtain⟨c1,c2⟩:=zw9 hu I ha r ok;exact SeqAt.in_listAt _ pl.isList c1 (by rw[c2];exact⟨.bl _,H,I,rfl,q⟩)
 ·obtain⟨its,r,pl,hz⟩:=I.tuple hp;obtain⟨c1,c2⟩:=zw9 hu I ha r ok;exact SeqAt.in_tupleAt _ pl c1 (by rw[c2];exact⟨.bl _,H,I,rfl,q⟩)
open Classical in
theorem xr3(hu:X.A.units+1<cLine):OpR X (compareOp .NotIn) (rInQ X.K true):=by
 intro pins s σ H x y v u Q I rx ry h;obtain⟨a,p,n,qs,rfl,rfl,ha,hp,ok,q⟩:=h;cases rx;cases ry;rw[Bool.true_xor]at q;rcases hp with hp | hp
 ·obtain⟨its,r,pl,hz⟩:=I.list hp;obtain⟨c1,c2⟩:=zw9 hu I ha r ok;exact SeqAt.notIn_listAt _ pl.isList c1 (by rw[c2];exact⟨.bl _,H,I,rfl,q⟩)
 ·obtain⟨its,r,pl,hz⟩:=I.tuple hp;obtain⟨c1,c2⟩:=zw9 hu I ha r ok;exact SeqAt.notIn_tupleAt _ pl c1 (by rw[c2];exact⟨.bl _,H,I,rfl,q⟩)
section
variable{o e:Expr}{apos cpos:Pos}{td ty:TE}
def tUpdP(P:Program)(w:World)(K:PySem.W.Frag)(td ty:TE):TE:=fun σ H Q=>td σ H fun x H1=>∃a qs,x=.ref a/\H1 a=some (pdO P w a qs)/\ty σ H1 fun y H2=>rUpdP P w K x [y] H2 Q
theorem wm8(hu:X.A.units+1<cLine)(ho:PE X o td)(he:PE X e ty)(m:M1 X o "update" apos e cpos):PE X (.Call (.Attribute o "update" apos) [e] [] cpos) (tUpdP X.prog X.w X.K td ty):=by
 intro pins s σ H Q I h;refine vg3 m.base m.few m.line wz9 PySem.F.slot_dict_update PySem.F.type_dict_update (thn (ho pins s σ H _ I h) fun u s1 ⟨x,H1,I1,rx,a,qs,ex,d,q1⟩=>?_);subst ex;obtain rfl:u=Value.ref a:=rx;obtain⟨z,hd,xs,r,ob,es,ep,g1,g2,g3,g4,g5⟩:=(I1.hok a _ d).1;refine⟨⟨ob,g1,g2.1⟩,?_,?_⟩
 ·intro b q;cases q;exact⟨ob,g1,g2.2.1⟩
 rw[m.trees];refine vb5 rfl (vd1 (wz6 (thn (he pins s1 σ H1 _ I1 q1) fun iv s2 ⟨y,H2,I2,ry,q2⟩=>vd5 ?_)));exact wn8 hu pins s2 σ H2 (.ref a) [y] (.ref a) [iv] Q I2 rfl (.cons ry .nil) q2
end
theorem yz6:Manifest.owners.lookup (String.ofList ['d','e','s','r','e','v','e','r'].reverse)=some Manifest.sig_reversed:=by kernel_rfl
theorem wk4:Slot "reversed" "__init__" "object.__init__":=.of (owner:="object") (n:="__init__") (by(rw[vg7,vc1];kernel_rfl)) (by decide +kernel) (by decide +kernel) (by decide +kernel) (by first | exact .inl (by decide +kernel) | exact .inr (by decide +kernel)) (by(rw[vn4];kernel_rfl))
theorem zr9:Slot "reversed" "__next__" "reversed.__next__":=.of (owner:="reversed") (n:="__next__") (by(rw[vg7,vc1];kernel_rfl)) (by decide +kernel) (by decide +kernel) (by decide +kernel) (by first | exact .inl (by decide +kernel) | exact .inr (by decide +kernel)) (by(rw[vn4];kernel_rfl))
theorem yz0:Slot "reversed" "__iter__" "reversed.__iter__":=.of (owner:="reversed") (n:="__iter__") (by(rw[vg7,vc1];kernel_rfl)) (by decide +kernel) (by decide +kernel) (by decide +kernel) (by first | exact .inl (by decide +kernel) | exact .inr (by decide +kernel)) (by(rw[vn4];kernel_rfl))
theorem yw7:entryFor table "reversed.__next__"=some Builtin.«reversed.__next__»:=entryFor_of_tree (by kernel_rfl)
theorem wg2:entryFor table "reversed.__new__"=some Builtin.«reversed.__new__»:=entryFor_of_tree (by kernel_rfl)
theorem xz7:entryFor table "reversed.__iter__"=some Builtin.«dict_keyiterator.__iter__»:=
 entryFor_alias (id':="dict_keyiterator.__iter__") (by kernel_rfl) (by first | rfl | decide +kernel | (unfold String.splitOn;(simp +decide [String.splitOnAux]))) (by decide +kernel) (by kernel_rfl)
theorem xb4(a:Value):argsOk "reversed.__next__" ⟨[a],[]⟩:=by
 unfold argsOk;(rw[signature?_of (id:="reversed.__next__") (n:=['_','_','t','x','e','n','_','_']) (o:=['d','e','s','r','e','v','e','r']) (by kernel_rfl) yz6];kernel_rfl)
theorem xs8(a:Value):argsOk "reversed.__iter__" ⟨[a],[]⟩:=by
 unfold argsOk;(rw[signature?_of (id:="reversed.__iter__") (n:=['_','_','r','e','t','i','_','_']) (o:=['d','e','s','r','e','v','e','r']) (by kernel_rfl) yz6];kernel_rfl)
theorem wb2:mroOf (.type "reversed")=pure [.type "reversed",.type "object"]:=by(rw[mroOf_type];kernel_rfl)
theorem wk0:typeLookup (.type "reversed") "__new__"=pure (some (.builtin "reversed.__new__")):=by(rw[vg7,vc1];kernel_rfl)
theorem xn5:TypeCalled "reversed" "reversed.__new__" "object.__init__":=
 ⟨by decide +kernel,by decide +kernel,⟨_,_,wb2⟩,madeBy_type wb2 wk0 (by decide +kernel),by decide +kernel,by(rw[vn4];kernel_rfl),wk4⟩
theorem rv_tc(a:Value):checkTypeCall "reversed" ⟨[a],[]⟩=pure ():=by kernel_rfl
theorem rv_nc(a:Value):checkBuiltinCall "reversed.__new__" ⟨[.type "reversed",a],[]⟩=pure ():=by kernel_rfl
theorem rv_sub:isSubtype (.type "reversed") (.type "reversed")=pure true:=by(rw[vn4];kernel_rfl)
theorem wf4:typeLookup (.type "tuple") "__reversed__"=pure none:=by(rw[vg7,vc1];kernel_rfl)
abbrev yg9(h:Heap)(it a:Addr)(j:Int):Prop:=h.get? it=some {cls:=.type "reversed",dict:=none,data:=.fields #[.ref a,.int j 0],slots:=#[]}
theorem xw2(a:Addr)(xs:Array Value)(hb:xs.size<=sizeLine):
  Meets (Builtin.«reversed.__new__» ⟨[.type "reversed",.ref a],[]⟩) (fun _ R s=>s.heap.IsTuple a xs/\∀tk,R (.ok (.ret (.ref s.heap.objs.size))) {s with heap:=s.heap.push {cls:=.type "reversed",data:=.fields #[.ref a,.int ((xs.size:Int)-1) 0]},toks:=tk}):=
 .of_wp fun prog w A R s h=>by
  obtain⟨ht,h⟩:=h;have hsub:=rv_sub;have ty:s.TypeIs (.ref a) "tuple":=ht.typeIs;obtain⟨hp,g,d,tk,os⟩:=s;have n1:isSubtype (.type "tuple") (.type "dict")=pure false:=by(rw[vn4];kernel_rfl)
  have g1:=vm9.lookup;have g0:=wf4;have hn:=zv4;have hl:IsTup (Shared.heap ⟨hp,g,d,tk,os⟩) a xs:=ht;have hf:(xs.size:Int)<2 ^ 63:=by lia
  have hlen:∀{Q:Value->Shared->Prop}{A:Around}{E:Value->Shared->Prop},Q (.int xs.size (tk+1)) ⟨hp,g,d,tk+1+1,os⟩->wpAny (model prog w) A (call (.builtin "len") [.ref a]) Q E ⟨hp,g,d,tk,os⟩:=fun h=>len_tuple (s:=⟨hp,g,d,tk,os⟩) hl hf h
  wp_walk using vf1 ty wf4,vk4 ty n1,vf1 ty vm9.lookup,hlen
  exact⟨_,rfl,h _⟩
theorem wk1{a:Addr}{xs:Array Value}{Q:Value->Shared->Prop}(hb:xs.size<=sizeLine)(ht:s.heap.IsTuple a xs)
  (h:∀tk,yg9 (s.heap.push {cls:=.type "reversed",data:=.fields #[.ref a,.int ((xs.size:Int)-1) 0]}) s.heap.objs.size a ((xs.size:Int)-1)->Q (.ref s.heap.objs.size) {s with heap:=s.heap.push {cls:=.type "reversed",data:=.fields #[.ref a,.int ((xs.size:Int)-1) 0]},toks:=tk}):
  wpAny (model prog w) A (call (.type "reversed") [.ref a]) Q E s:=by
 refine callType_new xn5 (by decide) (rv_tc _) (rv_nc _) (fun obj=>F.args_object_init_2 obj _) wg2 (xw2 a xs hb) ⟨ht,fun tk=>?_⟩;have g:(s.heap.push {cls:=.type "reversed",data:=.fields #[.ref a,.int ((xs.size:Int)-1) 0]}).get? s.heap.objs.size=some _:=wt0 _ rfl;exact⟨⟨_,g,rfl⟩,h tk g⟩
theorem xd7{it a:Addr}{j:Int}{Q:Value->Shared->Prop}(hit:yg9 s.heap it a j)(h:Q (.ref it) s):wpAny (model prog w) A (pyIter (.ref it)) Q E s:=by
 have ty:s.TypeIs (.ref it) "reversed":=⟨_,hit,rfl⟩;refine wpAny_pyIter_slot ty yz0 (ww9 yz0 ty xz7 ?_ (xs8 _));refine wr7 ⟨_,rfl,"reversed",_,ty,zr9.lookup,h⟩
theorem wq5{it a:Addr}{j:Nat}{xs:Array Value}{x:Value}{Q:Option Value->Shared->Prop}(hit:yg9 s.heap it a (j:Int))(ht:IsTup s.heap a xs)(hai:a≠it)(hb:xs.size<=sizeLine)(hx:xs[j]?=some x)
  (hQ:∀h' tk,yg9 h' it a ((j:Int)-1)->Heap.SameBut it s.heap h'->Q (some x) {s with heap:=h',toks:=tk}):wpAny (model prog w) A (pyNext (.ref it)) Q E s:=by
 have ty:s.TypeIs (.ref it) "reversed":=⟨_,hit,rfl⟩;unfold pyNext;refine wq8 (vf8 (ww8 (name:=Str.ofString "__next__") ty zr9 (ww9 zr9 ty yw7 ?_ (xb4 _))));show wpAny _ _ (field (.ref it) 0 >>= _) _ _ s;refine wq8 (wx3 hit rfl (x:=.ref a) rfl ?_);show wpAny _ _ (field (.ref it) 1 >>= _) _ _ s;refine wq8 (wx3 hit rfl (x:=.int (j:Int) 0) rfl ?_);show wpAny _ _ (if (j:Int)<0 then _ else _) _ _ s;rw[wv5 (by lia)];refine wq8 (vf1 ht.typeIs vm9.lookup ?_);show wpAny _ _ (mkInt (j:Int) >>= _) _ _ s;refine wq8 (wpAny_mkInt ?_);have hj:j<xs.size:=by
  rcases vj7 j xs.size with h | h
  ·exact h
  ·rw[Array.getElem?_eq_none h]at hx;cases hx
 have hn:=zv4;have ht':IsTup (Shared.heap {s with toks:=s.toks+1}) a xs:=ht;refine wq8 (vf8 (getItem_tuple (s:={s with toks:=s.toks+1}) (j:=j) ht' (by lia) (by lia) (by unfold seqIndex?;(simp only[show ¬((j:Int)<0) by lia,vg9];rw[ww4 (by simp;lia)];simp)) hx ?_));show wpAny _ _ (field (.ref it) 1 >>= _) _ _ _;refine wq8 (wx3 hit rfl (x:=.int (j:Int) 0) rfl ?_);refine wq8 (vb8 hit (by simp) fun h' hz' hs'=>?_);refine wr7 ⟨_,rfl,?_⟩;exact wr7 (hQ h' _ hz' hs')
theorem rv_end{it a:Addr}{j:Int}{Q:Option Value->Shared->Prop}(hh:A.handled=none)(hit:yg9 s.heap it a j)(hj:j<0)(hQ:∀h' tk,Heap.ExtBut it s.heap h'->Q none {s with heap:=h',toks:=tk}):wpAny (model prog w) A (pyNext (.ref it)) Q E s:=by
 have ty:s.TypeIs (.ref it) "reversed":=⟨_,hit,rfl⟩;unfold pyNext;refine wq8 (vf8 (ww8 (name:=Str.ofString "__next__") ty zr9 (ww9 zr9 ty yw7 ?_ (xb4 _))));show wpAny _ _ (field (.ref it) 0 >>= _) _ _ s;refine wq8 (wx3 hit rfl (x:=.ref a) rfl ?_);show wpAny _ _ (field (.ref it) 1 >>= _) _ _ s;refine wq8 (wx3 hit rfl (x:=.int j 0) rfl ?_);show wpAny _ _ (if j<0 then _ else _) _ _ s;rw[ww4 hj];refine wq8 (vf4 ?_);refine wq8 ?_;show wpAny _ _ (setField (.ref it) 1 (rawInt (-1)) >>= fun _=>setField (.ref it) 0 .none) _ _ s;refine wq8 (vb8 hit (by simp) fun h₁ hz₁ hs₁=>?_);refine vb8 hz₁ (by simp) fun h₂ hz₂ hs₂=>?_
 refine wq8 ?_;show wpAny _ _ (newExc (.type "StopIteration") [] >>= _) _ _ _;refine wq8 ?_;simp only[newExc,newTuple];refine wq8 (wx0 ?_ (by size_fits));refine wq8 (m:=firstArgMember _ _) (wpAny_of_eq (a:=Value.none) (by first | rfl | (simp only[firstArgMember];rfl)) ?_);refine wx0 ?_ (by size_fits);simp only[raiseNew];refine wq8 (wpAny_handled ?_);first | rw[show A.in1.handled=none from hh] | rw[hh]
 refine wq8 (wr7 (wpAny_throw ?_));refine wq8 (vk4 (T:="StopIteration") (b:=true) ⟨_,wt0 _ rfl,rfl⟩ isSubtype_stop (wr7 (hQ _ _ ?_)));exact fun b o hb e=>wr4 _ (wr4 _ (hs₂.extBut _ _ hb (hs₁.extBut _ _ hb e)))
def Itrv(K:PySem.W.Frag)(a:Addr)(n:Nat):It:=
 ⟨fun i H=>∃xs x,SqT K H a xs/\xs.length=n/\xs.reverse[i]?=some x,fun i H x H'=>H'=H/\∀xs,SqT K H a xs->xs.reverse[i]?=some x,fun i H=>∃xs,SqT K H a xs/\xs.length=n/\n<=i⟩
theorem xz3{P:Program}{w:World}{K:PySem.W.Frag}{tg:Expr}(a it:Addr)(hai:a≠it)(n:Nat):Turn P w K tg (Itrv K a n) [it] it (fun i h=>yg9 h it a ((n:Int)-1-(i:Nat))) where
 mem:=by simp
 obj:=fun i h st b hb=>by
  have e:b=it:=by simpa using hb
  subst e;exact⟨_,st,fun v z=>by cases z⟩
 keep:=fun i h h' st k=>k it (by simp) _ st
 item:=by
  intro X hP hw hK hc i pins s σ H E I hf st hg;subst hP hw hK;obtain⟨xs,x,hq,hn,hx⟩:=hg;obtain⟨its,rv,p,hz⟩:=I.tuple hq;have hi:i<xs.length:=by
   have:=(wr1.mp hx).1;rwa [vk1]at this
  have hx2:xs[xs.length-1-i]?=some x:=by rw[←List.getElem?_reverse hi];exact hx
  obtain⟨u,hu,ru⟩:=rv.get hx2;obtain⟨f0,f1,f2,f3,f4,f5⟩:=hf it (by simp);have ej:((n:Int)-1-(i:Nat))=((xs.length-1-i:Nat):Int):=by lia
  have st1:yg9 s.heap it a ((xs.length-1-i:Nat):Int):=by rw[←ej];exact st
  have hl:=rv.length;refine wq5 st1 p hai (by rw[ws9,←hl];exact hz) (x:=u) (by simpa using hu) fun h' tk st2 sb=>?_
  have I1:Inv X pins σ H {s with heap:=h',toks:=tk}:=I.turned (t':=tk) (fun b o hb e=>(sb.2 b hb).trans e) f0 f1 f3 f4 f5;have st3:yg9 h' it a ((n:Int)-1-((i+1:Nat):Int)):=by
   have e2:((n:Int)-1-((i+1:Nat):Int))=((xs.length-1-i:Nat):Int)-1:=by lia
   rw[e2];exact st2
  exact⟨u,rfl,ys7 (s:={s with heap:=h',toks:=tk}) st3 rfl rfl (by decide) ⟨x,H,I1,ru,⟨rfl,fun ys hy=>by rw[I.tuple_inj hy hq];exact hx⟩,st3,fun b hb=>(hf b hb).1⟩⟩
 done:=by
  intro X hP hw hK hc i pins s σ H E I hf st hg;subst hP hw hK;obtain⟨xs,hq,hn,hx⟩:=hg;obtain⟨f0,f1,f2,f3,f4,f5⟩:=hf it (by simp);exact rv_end (I.ok.hd hc) st (by lia) fun h' tk eb=>⟨rfl,I.turned (t':=tk) (fun b o hb e=>eb b o hb e) f0 f1 f3 f4 f5⟩
 self:=fun _ _ _ _ _ st h=>xd7 st h
section
variable{tg:Expr}
def iRev(K:PySem.W.Frag)(ta:TA):TI:=fun σ H R=>ta σ H fun vs H1=>∃a xs,vs=[.ref a]/\SqT K H1 a xs/\R (Itrv K a xs.length) H1
theorem yk4:bootBuiltins "reversed"=some (.type "reversed"):=by decide +kernel
theorem pi_rev{a:Expr}{ta:TA}{p pos:Pos}(hg:Gl X "reversed")(hm:X.mg "reversed"=none)(ha:PA X [a] ta)(hs:starEach [a] X.env=[(false,eval a X.env)]:=by rfl):PI X tg (.Call (.Name "reversed" p) [a] [] pos) (iRev X.K ta):=by
 intro pins s σ H R I h;refine Call_ (zv5 I hg hm yk4 (wz5 (thn (ha pos pins s σ H _ I h) fun us s1 ⟨vs,H1,I1,r1,q1⟩=>?_) (by rw[hs];rfl) rfl));obtain⟨l,xs,e,hq,q⟩:=q1;subst e;cases r1 with
 | cons r rr=>
  cases rr;cases r;obtain⟨its,rv,p1,hz⟩:=I1.tuple hq;have hl:=rv.length;have hlt:l<s1.heap.objs.size:=by obtain⟨o,e,_⟩:=p1;exact ws1 e
  refine wk1 (xs:=its.toArray) (by rw[ws9,←hl];exact hz) p1 fun tk hr=>?_
  refine xd7 (s:={s1 with heap:=_,toks:=tk}) hr ?_;refine⟨s1.heap.objs.size,[s1.heap.objs.size],_,_,H1,rfl,I1.kept (t':=tk) fun b o e=>wr4 _ e,xz3 l _ (ws6 hlt) xs.length,?_,fun b hb=>?_,q⟩
  ·have e0:(((xs.length:Nat):Int)-1-((0:Nat):Int))=((its.toArray.size:Nat):Int)-1:=by rw[ws9,hl];lia
   show yg9 _ _ _ _;rw[e0];exact hr
  ·have e:b=s1.heap.objs.size:=by simpa using hb
   subst e;exact I1.fpOk (wr5 _) (I1.hok.fresh (wr5 _))
end
end L2
end
local macro_rules | `(tactic| trivial)=>`(tactic| first | exact wr0 | exact .head _ | exact .tail _ (.head _) | exact .tail _ (.tail _ (.head _)) | exact fun _ h=>absurd h wr0 | simp)
section
set_option autoImplicit true
set_option relaxedAutoImplicit true
namespace Gn
open PySem L2
variable{P:Program}{w:World}{K:PySem.W.Frag}{mg:Str->Option Value}{base:Heap}{f:Addr}{fd:FuncData}
def top(i:Nat):Stmt:=PySem.Challenge.pw_surecall_k16_whole_made_is_least.main.body.getD i (.Pass ⟨0,0,0,0⟩)
abbrev wm4:Stmt:=top 18
abbrev wk3:Stmt:=top 19
abbrev sOf:Stmt:=top 20
structure zw0(d m t:Int):Prop where
 d0:0<=d
 m0:0<=m
 m1:m<4611686018427387904
 t0:0<=t
def Hand(H:Hp)(a:Addr)(d m t r:Int):Prop:=H a=some (.lst [.int d,.int m,.int t,.int r])/\zw0 d m t
abbrev hl(d m t r:Int):HO:=.lst [.int d,.int m,.int t,.int r]
inductive wb6(vs:List V)(H:Hp)(Q:VK):Prop
 | mk(a:Addr)(d m t r n:Int)(h1:vs=[.ref a,.int n])(h2:Hand H a d m t r)(h3:t<1000000)(h4:0<n)(h5:n<1000000)(h6:∀(x d' m' t':Int),0<=x->x<n->zw0 d' m' t'->t'<=t+1->Q (.int x) (upd H a (hl d' m' t' r))):wb6  vs H Q
def zj0:Sp:=fun vs H Q _=>wb6  vs H Q
theorem eI{X:Cx}{a b:Expr}{ta tb:TE}{pos:Pos}(ha:PE X a ta)(hb:PE X b tb)(hs:yv2 b:=by exact fun _ _=>rfl):PE X (.Subscript a b pos) (tOp (rIxL X.K) ta tb):=yn8 wn3 ha hb hs
theorem yw3:zd1 ["_law_hand_here","_law_many","_law_digit","_law_turn","_law_mixed"] ["_law_hand_here","_law_many"] (zc2 wk3):=⟨rfl,rfl,rfl,by decide +kernel,rfl,by decide +kernel,by decide +kernel⟩
theorem at0{a b c d:V}:atI [a,b,c,d] 0=some a:=rfl
theorem at1{a b c d:V}:atI [a,b,c,d] 1=some b:=rfl
theorem at2{a b c d:V}:atI [a,b,c,d] 2=some c:=rfl
theorem at3{a b c d:V}:atI [a,b,c,d] 3=some d:=rfl
theorem wn5{k:Nat}(F:Fun K "_law_take" "_law_take" wk3 f fd):FnOk P w K mg base CX0 (k+1) f fd ["_law_hand_here","_law_many"] zj0:=by
 refine F.ok yw3 (fun vs H Q E h=>?_) (fun cdv A outer s H vs Q E hr h=>?_)
 ·obtain⟨a,d,m,t,r,n,rfl,_⟩:=h;rfl
 obtain⟨a,d,m,t,r,n,rfl,⟨hH,ok⟩,ht,hn0,hn1,q⟩:=h;refine⟨_,zb3 (zh3 (zc4 yh6 (eI (pv 0) zb6) zb6 (zd6 _))
   (zb3 (zc3 (i:=2) yw3.nd rfl (wt1 rfl) (zf4 zx6 (eI (pv 0) zb6) (pv 1)))
    (zb3 (zr1 (zf4 zz8 (eI (pv 0) zb6) (pv 1)) (yf4 (pv 0) zb6 zq0))
     (zb7 (zd0 (pv 2))))) zd5)
  (zb3 (zr1 (zf4 zn0 (eI (pv 0) zb6) zb6) (yf4 (pv 0) zb6 zq0))
  (zb3 (zc3 (i:=3) yw3.nd rfl (wt1 rfl) (eI (pv 0) zb6))
  (zb3 (zc3 (i:=4) yw3.nd rfl (wt1 rfl) (zf4 zx6 (zf4 yb4 (zf4 zn0 (eI (pv 0) zb6) (zf4 yb4 zb6 (pv 3))) (zf4 zn0 zb6 (zf4 yb4 (pv 3) (pv 3)))) zb6))
  (zb3 (zr1 (zf4 zx6 (zf4 yb4 (pv 4) (zf4 zn0 (zf4 zx6 (pv 4) zb6) zb6)) zb6) (yf4 (pv 0) zb6 zq0))
  (zb7 (zd0 (zf4 zx6 (zf4 zz8 (eI (pv 0) zb6) zb6) (pv 1)))))))),?_⟩
 refine⟨_,rfl,a,_,_,_,rfl,rfl,SqL.of hH,at0,_,_,rfl,rfl,_,rfl,?_⟩;refine ite2 (fun c=>?_) (fun c=>?_)
 ·have c':d > 0:=ws0 c;refine⟨_,rfl,a,_,_,_,rfl,rfl,SqL.of hH,at0,_,rfl,_,_,rfl,rfl,hn0,?_⟩;refine⟨_,rfl,a,_,_,_,rfl,rfl,SqL.of hH,at0,_,rfl,_,_,rfl,rfl,⟨hn0,by lia⟩,?_⟩;refine⟨_,rfl,a,_,0,0,rfl,rfl,hH,rfl,?_⟩;refine⟨_,rfl,?_⟩;exact q (d % n) (d / n) m t (vm6 _ (by lia)) (vh7 _ hn0) ⟨Int.ediv_nonneg ok.d0 (by lia),ok.m0,ok.m1,ok.t0⟩ (by lia)
 ·refine⟨_,rfl,a,_,_,_,rfl,rfl,SqL.of hH,at2,_,_,rfl,rfl,?_⟩;refine⟨_,rfl,a,_,2,2,rfl,rfl,hH,rfl,?_⟩;have H1:upd H a (.lst ([V.int d,.int m,.int t,.int r].set 2 (.int (t+1)))) a=some (.lst [.int d,.int m,.int (t+1),.int r]):=zb1;refine⟨_,rfl,a,_,_,_,rfl,rfl,SqL.of H1,at2,?_⟩;refine⟨_,rfl,a,_,_,_,rfl,rfl,SqL.of H1,at1,_,rfl,_,_,rfl,rfl,.inl (by constructor <;> decide),_,_,rfl,rfl,?_⟩;refine⟨_,rfl,_,rfl,_,_,rfl,rfl,.inl ⟨by have:=ok.t0;lia,by lia⟩,_,_,rfl,rfl,_,_,rfl,rfl,.inr ?_,_,_,rfl,rfl,?_,?_⟩
  ·have h1:0<=(t+1)*(t+1):=Int.mul_nonneg (by have:=ok.t0;lia) (by have:=ok.t0;lia);have h2:(t+1)*(t+1)<=1000000*1000000:=Int.mul_le_mul (by lia) (by lia) (by have:=ok.t0;lia) (by lia)
   constructor <;> lia
  ·show(0:Int)<2305843009213693921
   decide
  have m0:0<=(m+39373*(t+1))*(48271+(t+1)*(t+1)) % 2305843009213693921:=vm6 _ (by decide);have m1:(m+39373*(t+1))*(48271+(t+1)*(t+1)) % 2305843009213693921<2305843009213693921:=vh7 _ (by decide);refine⟨_,rfl,_,rfl,_,_,rfl,rfl,?_,_,_,rfl,rfl,_,_,rfl,rfl,.inl ⟨by lia,by lia⟩,_,_,rfl,rfl,?_,?_⟩
  ·show(0:Int)<1000003
   decide
  ·show(0:Int)<2305843009213693907
   decide
  refine⟨_,rfl,a,_,1,1,rfl,rfl,H1,rfl,?_⟩;refine⟨_,rfl,a,_,_,_,rfl,rfl,SqL.of zb1,rfl,_,_,rfl,rfl,⟨by decide,by decide⟩,_,rfl,_,_,rfl,rfl,hn0,?_⟩;rw[zq5];exact q _ d _ (t+1) (vm6 _ (by lia)) (vh7 _ hn0) ⟨ok.d0,vm6 _ (by decide),Int.lt_trans (vh7 _ (by decide)) (by decide),by have:=ok.t0;lia⟩ (by lia)
def FrS(S:List Addr)(H H':Hp):Prop:=∀b o,b∉S->H b=some o->H' b=some o
theorem FrS.refl{S:List Addr}{H:Hp}:FrS S H H:=fun _ _ _ h=>h
theorem FrS.trans{S:List Addr}{H H1 H2:Hp}(a:FrS S H H1)(b:FrS S H1 H2):FrS S H H2:=fun c o n h=>b c o n (a c o n h)
theorem FrS.mono{S T:List Addr}{H H1:Hp}(a:FrS S H H1)(h:∀b∈S,b∈T):FrS T H H1:=fun c o n q=>a c o (fun z=>n (h c z)) q
theorem FrS.chg{S:List Addr}{H:Hp}{a:Addr}{o:HO}(h:a∈S):FrS S H (upd H a o):=fun b u n q=>by
 rw[zb5 (fun z=>n (by rw[z];exact h))];exact q
theorem FrS.new{S:List Addr}{H:Hp}{a:Addr}{o:HO}(h:H a=none):FrS S H (upd H a o):=fun b u n q=>by
 rw[zb5 (zb4 q h)];exact q
theorem FrS.seq{S:List Addr}{K:PySem.W.Frag}{H H':Hp}{a:Addr}{xs:List V}(e:FrS S H H')(n:a∉S)(h:SqL K H a xs):SqL K H' a xs:=by
 rcases h with (h | ⟨o,h⟩) | h
 ·exact .inl (.inl (e _ _ n h))
 ·exact .inl (.inr ⟨o,e _ _ n h⟩)
 ·exact .inr h
theorem Hand.at{H:Hp}{a:Addr}{d m t r:Int}(h:zw0 d m t):Hand (upd H a (hl d m t r)) a d m t r:=⟨zb1,h⟩
theorem Hand.new{H:Hp}{a b:Addr}{o:HO}{d m t r:Int}(h:Hand H a d m t r)(n:H b=none):Hand (upd H b o) a d m t r:=⟨by rw[zb5 (zb4 h.1 n)];exact h.1,h.2⟩
inductive SpOf(K:PySem.W.Frag)(vs:List V)(H:Hp)(Q:VK):Prop
 | mk(a p:Addr)(d m t r:Int)(xs:List V)(h1:vs=[.ref a,.ref p])(h2:Hand H a d m t r)(h3:t<1000000)(h4:p≠a)(h5:SqL K H p xs)(h6:xs≠[])(h7:xs.length<1000)(h8:∀(x:V)(d' m' t':Int),x∈xs->zw0 d' m' t'->t'<=t+1->Q x (upd H a (hl d' m' t' r))):SpOf K vs H Q
def spOf(K:PySem.W.Frag):Sp:=fun vs H Q _=>SpOf K vs H Q
section
variable{P:Program}{w:World}{K:PySem.W.Frag}{mg:Str->Option Value}{base:Heap}{f g:Addr}{fd gd:FuncData}
theorem scOf:zd1 ["_law_hand_here","_law_some"] ["_law_hand_here","_law_some"] (zc2 sOf):=⟨rfl,rfl,rfl,by decide +kernel,rfl,by decide +kernel,by decide +kernel⟩
structure Cal(P:Program)(w:World)(K:PySem.W.Frag)(mg:Str->Option Value)(base:Heap)(k:Nat)(x:Str)(ps:List Str)(sp:Sp):Prop where
 ex:∃g gd,FnOk P w K mg base CX0 k g gd ps sp/\Binds K gd ps []/\PySem.W.keepIn K (.ref g)=true/\mg x=some (.ref g)
theorem xh4{xs:List V}{i:Int}(h0:0<=i)(h1:i<(xs.length:Int)):∃v,atI xs i=some v/\v∈xs:=by
 have hk:i.toNat<xs.length:=by lia
 have ek:i=((i.toNat:Nat):Int):=by lia
 refine⟨xs[i.toNat],?_,ww5 hk⟩;have:=zq3 (xs:=xs) (j:=i.toNat) (wq9 hk);rw[←ek]at this;exact this
theorem ok_of{k:Nat}(F:Fun K "_law_of" "_law_of" sOf f fd)(T:Cal P w K mg base k "_law_take" ["_law_hand_here","_law_many"] zj0)(ml:mg "len"=none):
  FnOk P w K mg base CX0 (k+1) f fd ["_law_hand_here","_law_some"] (spOf K):=by
 obtain⟨g,gd,GT,bT,kT,mT⟩:=T.ex;refine F.ok scOf (fun vs H Q E h=>?_) (fun cdv A outer s H vs Q E hr h=>?_)
 ·obtain⟨a,p,d,m,t,r,xs,rfl,_⟩:=h;rfl
 obtain⟨a,p,d,m,t,r,xs,rfl,hh,ht,hpa,hS,hne,hlen,q⟩:=h;refine⟨_,zb7 (zd0 (eI (pv 1) (zb8 GT hr rfl mT kT bT .nil zc6 (zb0 (pv 0) (zb0 (zf2 zg3 rfl ml vb1 (zb0 (pv 1) zb2)) zb2))))),?_⟩;have hl0:0<xs.length:=vp3.mpr hne;refine⟨_,rfl,_,rfl,_,rfl,p,_,rfl,.inl hS,a,d,m,t,r,_,rfl,hh,ht,by lia,by lia,fun x d' m' t' h0 h1 ok' ht'=>?_⟩;obtain⟨v,hv,hm⟩:=xh4 h0 h1;have fr:FrS [a] H (upd H a (hl d' m' t' r)):=FrS.chg (by simp);exact⟨p,_,_,v,rfl,rfl,fr.seq (by simpa using hpa) hS,hv,q v d' m' t' hm ok' ht'⟩
end
abbrev zs6:Stmt:=top 21
abbrev lets:Str:="abcdefghijklmnopqrstuvwxyz"
def zj9(pre suf:Str)(c:Nat):Str:=pre++⟨#[c]⟩++suf
def yr2(pre suf:Str)(c:Nat):Str:=zj9 pre suf c++(if zj9 pre suf c=("own":Str) then("q":Str) else Str.empty)
theorem yh1(x y:Str):(x++y).cps=x.cps++y.cps:=rfl
theorem yf1{pre suf:Str}{c c':Nat}(h:zj9 pre suf c=zj9 pre suf c'):c=c':=by
 have e:(pre.cps++#[c])++suf.cps=(pre.cps++#[c'])++suf.cps:=wx5 Str.cps h;have e2:=wx5 Array.toList e;simp at e2;exact e2
theorem xc9{pre suf:Str}{c c':Nat}:(zj9 pre suf c).cps.size=(zj9 pre suf c').cps.size:=by
 unfold zj9;simp[yh1]
theorem xg8{pre suf:Str}{c c':Nat}(h:yr2 pre suf c=yr2 pre suf c'):c=c':=by
 have hs:=wx5 (fun z:Str=>z.cps.size) h;have hl:=xc9 (pre:=pre) (suf:=suf) (c:=c) (c':=c');have q1:("q":Str).cps.size=1:=by decide
 have q0:Str.empty.cps.size=0:=by decide
 unfold yr2 at h hs
 by_cases h1:zj9 pre suf c=("own":Str)
 ·by_cases h2:zj9 pre suf c'=("own":Str)
  ·exact yf1 (h1.trans h2.symm)
  ·rw[ww4 h1,wv5 h2]at hs;simp only[yh1,vj5,q1,q0]at hs;lia
 ·by_cases h2:zj9 pre suf c'=("own":Str)
  ·rw[wv5 h1,ww4 h2]at hs;simp only[yh1,vj5,q1,q0]at hs;lia
  ·rw[wv5 h1,wv5 h2]at h;have e:=wx5 (fun z:Str=>z.cps.toList) h;simp only[yh1,wx4]at e;have e2:(zj9 pre suf c).cps.toList=(zj9 pre suf c').cps.toList:=List.append_cancel_right e;refine yf1 (pre:=pre) (suf:=suf) ?_;cases hx:zj9 pre suf c with
   | mk a=>cases hy:zj9 pre suf c' with
    | mk b=>
     rw[hx,hy]at e2;have:a=b:=Array.toList_inj.mp e2;rw[this]
def code(first stride:Int)(k:Nat):Nat:=(97+(first+stride*(k:Int)) % 26).toNat
def zn7(pre suf:Str)(first stride:Int)(n:Nat):List Str:=(List.range n).map fun k=>yr2 pre suf (code first stride k)
theorem xw1{first stride:Int}(hs:stride∈([1,3,5,7,9,11]:List Int))(h0:0<=first){j k:Nat}(hj:j<=12)(hk:k<=12)(h:code first stride j=code first stride k):j=k:=by
 unfold code at h;simp only[ws5,wr0,vb0]at hs;rcases hs with rfl | rfl | rfl | rfl | rfl | rfl <;> lia
theorem yt2{pre suf:Str}{first stride:Int}(hs:stride∈([1,3,5,7,9,11]:List Int))(h0:0<=first){n:Nat}(hn:n<=12):(zn7 pre suf first stride n).Nodup:=by
 unfold zn7;refine List.Pairwise.map _ (R:=fun j k=>j≠k/\j<n/\k<n) (fun j k ⟨h1,h2,h3⟩ e=>h1 ?_) ?_
 ·exact xw1 hs h0 (by lia) (by lia) (xg8 e)
 ·have:(List.range n).Pairwise (fun j k=>j<k):=List.pairwise_lt_range;refine List.Pairwise.imp_of_mem (fun {a b} ha hb hab=>?_) this;rw[List.mem_range]at ha hb;exact⟨by lia,ha,hb⟩
theorem yn9{pre suf:Str}{first stride:Int}{n:Nat}:zn7 pre suf first stride (n+1)=zn7 pre suf first stride n++[yr2 pre suf (code first stride n)]:=by
 unfold zn7;rw[List.range_succ,wr9];rfl
theorem xp4{i:Int}(h0:0<=i)(h1:i<26):atI lets.cps.toList i=some (97+i).toNat:=by
 have key:∀j:Fin 26,lets.cps.toList[j.val]?=some (97+j.val):=by decide +kernel
 have e:i=((i.toNat:Nat):Int):=by lia
 have:=zq3 (xs:=lets.cps.toList) (j:=i.toNat) (key ⟨i.toNat,by lia⟩);rw[←e]at this;rw[this]
 congr 1
 simp only;lia
def odd:List Str:=["end","or","main","gives","kind","under","late","deed","call","say","make","take","put"]
theorem xq4:odd.Nodup:=by decide +kernel
inductive xj3(vs:List V)(H:Hp)(Q:VK):Prop
 | mk(a:Addr)(d m t r:Int)(n:Nat)(h1:vs=[.ref a,.int (n:Int)])(h2:Hand H a d m t r)(h3:t+10<1000000)(h4:n<=12)(h5:∀(p:Addr)(ws:List Str)(d' m' t':Int)(H':Hp),FrS [a] H H'->Hand H' a d' m' t' r->t'<=t+10->H p=none->H' p=some (.lst (ws.map V.str))->ws.length=n->ws.Nodup->Q (.ref p) H'):xj3  vs H Q
def yh7:Sp:=fun vs H Q _=>xj3  vs H Q
theorem wf1{c:Const}{j}{pos:Pos}{es:List Expr}{env:Env}:starEach (.Constant c j pos::es) env=(false,eval (.Constant c j pos) env)::starEach es env:=by
 first | rfl | (rw[starEach])
theorem yb5{X:Cx}{x:Str}{j}{pos:Pos}{es:List Expr}{t:TA}(h:PA X es t):PA X (.Constant (.str x) j pos::es) (zc5 (tC (.str x)) t):=zb0 zd4 h wf1
theorem zf3{X:Cx}{x:Int}{j}{pos:Pos}{es:List Expr}{t:TA}(h:PA X es t):PA X (.Constant (.int x) j pos::es) (zc5 (tC (.int x)) t):=zb0 zb6 h wf1
def yc7:List Expr->Option (List Str)
 | []=>some []
 | .Constant (.str x) _ _::r=>(yc7 r).map (x::·)
 | _=>none
theorem xn2{X:Cx}:∀(es:List Expr)(ss:List Str),yc7 es=some ss->PA X es (fun _ H Q=>Q (ss.map V.str) H)
 | [],ss,h=>by
  cases h;exact zb2
 | e::r,ss,h=>by
  cases e with
  | Constant c j pos=>
   cases c with
   | str x=>
    have h:(yc7 r).map (x::·)=some ss:=h;cases hr:yc7 r with
    | none=>rw[hr]at h;cases h
    | some rs=>
     rw[hr]at h;cases h;exact yb5 (xn2 r rs hr)
   | _=>cases h
  | _=>cases h
def xs5(e:Expr):Option (List Str):=match e with
 | .List es _=>yc7 es
 | _=>none
theorem wf7{X:Cx}{e:Expr}{ss:List Str}(h:xs5 e=some ss):PE X e (fun _ H Q=>ss.length<=sizeLine/\∀p,H p=none->Q (.ref p) (upd H p (.lst (ss.map V.str)))):=by
 cases e with
 | List es pos=>
  have q:=zd7 (pos:=pos) (xn2 (X:=X) es ss h);intro pins s σ H Q I hq;exact q pins s σ H Q I ⟨by rw[lqm];exact hq.1,hq.2⟩
 | _=>cases h
def val1(l:List Stmt):Expr:=match l with
 | .Assign _ v _::_=>v
 | _=>.Constant .none 0 ⟨0,0,0,0⟩
def set1(l:List Stmt)(v:Expr):List Stmt:=match l with
 | .Assign t _ p::r=>.Assign t v p::r
 | l=>l
theorem body{X:Cx}{l l':List Stmt}{t:TS}(e:l=l')(h:PSs X l' t):PSs X l t:=by subst e;exact h
theorem xq1(xs:List V){n:Nat}(h:n<=xs.length):cutV xs none (some (n:Int))=xs.take n:=by
 unfold cutV;rw[HT.yw4,HT.yk0,vq1 h];simp
theorem yz7(xs:List V){n:Nat}(h:n<=xs.length):cutV xs (some (n:Int)) none=xs.drop n:=by
 unfold cutV;rw[HT.yw4,HT.yk0,vq1 h];exact wr8 (by rw[vc7];lia)
theorem zv8{a p:Addr}{H H':Hp}{d m t r:Int}(f:FrS [a] H H')(h:Hand H' a d m t r)(hp:H' p=none):H p=none:=by
 cases hz:H p with
 | none=>rfl
 | some o=>
  have hpa:p≠a:=fun e=>by rw[e,h.1]at hp;cases hp
  have:=f p o (by simpa using hpa) hz;rw[hp]at this;cases this
section
variable{P:Program}{w:World}{K:PySem.W.Frag}{mg:Str->Option Value}{base:Heap}{f g:Addr}{fd gd:FuncData}
abbrev nWords:List Str:=["_law_hand_here","_law_many","_law_odd","_law_first","_law_letters","_law_stem","_law_k","_law_at","_law_stride","_law_words_here","_law_word"]
theorem zk1:zd1 nWords ["_law_hand_here","_law_many"] (zc2 zs6):=⟨rfl,rfl,rfl,by decide +kernel,rfl,by decide +kernel,by decide +kernel⟩
set_option maxHeartbeats 800000 in
theorem xt3{k:Nat}(F:Fun K "_law_words" "_law_words" zs6 f fd)(T:Cal P w K mg base k "_law_take" ["_law_hand_here","_law_many"] zj0)(ml:mg "len"=none)(mr:mg "range"=none)(mi:mg "int"=none):
  FnOk P w K mg base CX0 (k+1) f fd ["_law_hand_here","_law_many"] yh7:=by
 obtain⟨g,gd,GT,bT,kT,mT⟩:=T.ex;refine F.ok zk1 (fun vs H Q E h=>?_) (fun cdv A outer s H vs Q E hr h=>?_)
 ·obtain⟨a,d,m,t,r,n,rfl,_⟩:=h;rfl
 obtain⟨a,d,m,t,r,n,rfl,hh,ht,hn,q⟩:=h;have s1:∀{n:Nat},n<=1000->n<=sizeLine:=fun h=>ws3 (zc0 h);have eB:zg9 zs6=set1 (zg9 zs6) (val1 (zg9 zs6)):=rfl;have hO:xs5 (val1 (zg9 zs6))=some odd:=by decide +kernel
 have hsw:∀(x:Str)(p:Pos)(n:Nat)(env:Env),swapsWith (val1 (zg9 zs6)) (some (.Name x p)) n env=pure false:=fun _ _ _ _=>rfl;rw[eB];generalize val1 (zg9 zs6)=L at hO hsw;refine⟨_,zb3 (zc3 (i:=2) zk1.nd rfl (wt1 rfl) (wf7 hO) (hsw _ _ _ _))
  (zb3 (zh3 (zc4 zp3 (zb8 GT hr rfl mT kT bT .nil zc6 (zb0 (pv 0) (zb0 zb6 zb2))) zb6 (zd6 _))
   (zb3 (zc3 (i:=3) zk1.nd rfl (wt1 rfl) (zb8 GT hr rfl mT kT bT .nil zc6 (zb0 (pv 0) (zb0 zb6 zb2))))
    (zb7 (zd0 (zk3 zt7 (zf4 yf7 (zk3 zt7 (pv 2) (zm6 (pv 3)) zm8) (zk3 zt7 (pv 2) zm8 (zm6 (pv 3)))) zm8 (zm6 (pv 1)))))) zd5)
  (zb3 (zc3 (i:=4) zk1.nd rfl (wt1 rfl) zd4)
  (zb3 (zc3 (i:=5) zk1.nd rfl (wt1 rfl) zd4)
  (zb3 (zf9 wv0 rfl (zn3 rfl mr (zb0 (zb8 GT hr rfl mT kT bT .nil zc6 (zb0 (pv 0) (zb0 zb6 zb2))) zb2)) (zb9 (i:=6) zk1.nd rfl (wt1 rfl))
   (zb7 (zc3 (i:=5) zk1.nd rfl (wt1 rfl) (zf4 zp8 (pv 5) (yn8 wd6 (pv 4) (zb8 GT hr rfl mT kT bT .nil zc6 (zb0 (pv 0) (zb0 zb6 zb2))) (fun _ _=>rfl))))))
  (zb3 (zc3 (i:=7) zk1.nd rfl (wt1 rfl) (zb8 GT hr rfl mT kT bT .nil zc6 (zb0 (pv 0) (zb0 (zf4 zn0 (zf2 yp0 rfl ml vb1 (zb0 (pv 5) zb2)) zb6) zb2))))
  (zb3 (zc3 (i:=3) zk1.nd rfl (wt1 rfl) (zb8 GT hr rfl mT kT bT .nil zc6 (zb0 (pv 0) (zb0 zb6 zb2))))
  (zb3 (zc3 (i:=8) zk1.nd rfl (wt1 rfl) (eI (zd7 (zf3 (zf3 (zf3 (zf3 (zf3 (zf3 zb2))))))) (zb8 GT hr rfl mT kT bT .nil zc6 (zb0 (pv 0) (zb0 zb6 zb2)))))
  (zb3 (zc3 (i:=9) zk1.nd rfl (wt1 rfl) (zd7 zb2))
  (zb3 (zf9 wv0 rfl (zn3 rfl mr (zb0 (pv 1) zb2)) (zb9 (i:=6) zk1.nd rfl (wt1 rfl))
   (zb3 (zc3 (i:=10) zk1.nd rfl (wt1 rfl) (zf4 zp8 (zf4 zp8 (zk3 wf5 (pv 5) zm8 (zm6 (pv 7))) (yn8 wd6 (pv 4) (zf4 zx6 (zf4 zn0 (pv 3) (zf4 yb4 (pv 8) (pv 6))) zb6) (fun _ _=>rfl))) (zk3 wf5 (pv 5) (zm6 (pv 7)) zm8)))
    (zb7 (zg1 (zm9 wv2 wv6 wv7 zf5 (pv 9) (zb0 (zf4 zp8 (pv 10) (zf4 wj5 zd4 (zd2 zq9 rfl mi (by decide +kernel) (zb0 (zq6 zp3 (pv 10) zd4 (zd6 _)) zb2)))) zb2))))))
  (zb7 (zd0 (pv 9)))))))))))),?_⟩
 refine⟨s1 (by show 13<=1000;decide),fun po hpo=>?_⟩;have hh1:Hand (upd H po (.lst (odd.map V.str))) a d m t r:=hh.new hpo;have fr1:FrS [a] H (upd H po (.lst (odd.map V.str))):=FrS.new hpo;have hpa:po≠a:=fun e=>by rw[e,hh.1]at hpo;cases hpo
 refine⟨_,rfl,a,d,m,t,r,8,rfl,hh1,by lia,by decide,by decide,fun x d1 m1 t1 x0 x1 ok1 ht1=>?_⟩;have fr2:FrS [a] H _:=fr1.trans (FrS.chg (a:=a) (o:=hl d1 m1 t1 r) (by simp));have hpo2:upd (upd H po (.lst (odd.map V.str))) a (hl d1 m1 t1 r) po=some (.lst (odd.map V.str)):=by rw[zb5 hpa,zb1]
 have hh2:Hand (upd (upd H po (.lst (odd.map V.str))) a (hl d1 m1 t1 r)) a d1 m1 t1 r:=Hand.at ok1;generalize upd (upd H po (.lst (odd.map V.str))) a (hl d1 m1 t1 r)=H2 at *;refine⟨rfl,_,rfl,?_⟩;refine ite2 (fun c=>?_) (fun c=>?_)
 ·refine⟨_,rfl,a,d1,m1,t1,r,13,rfl,hh2,by lia,by decide,by decide,fun y d2 m2 t2 y0 y1 ok2 ht2=>?_⟩;have fr3:FrS [a] H _:=fr2.trans (FrS.chg (a:=a) (o:=hl d2 m2 t2 r) (by simp));have hpo3:upd H2 a (hl d2 m2 t2 r) po=some (.lst (odd.map V.str)):=by rw[zb5 hpa];exact hpo2
  have hh3:Hand (upd H2 a (hl d2 m2 t2 r)) a d2 m2 t2 r:=Hand.at ok2;generalize upd H2 a (hl d2 m2 t2 r)=H3 at *;obtain⟨j,rfl⟩:∃j:Nat,y=(j:Int):=⟨y.toNat,by lia⟩;have hj:j<=(odd.map V.str).length:=by show j<=13;lia
  refine⟨_,rfl,_,rfl,_,rfl,po,_,rfl,SqL.of hpo3,fun p1 hp1=>?_⟩;have e1:∀o,upd H3 p1 o po=some (.lst (odd.map V.str)):=fun o=>by rw[zb5 (zb4 hpo3 hp1)];exact hpo3
  refine⟨_,rfl,_,rfl,_,rfl,po,_,rfl,SqL.of (e1 _),fun p2 hp2=>?_⟩;have e2:p1≠p2:=fun z=>by rw[←z,zb1]at hp2;cases hp2
  rw[yz7 _ hj,xq1 _ hj]at *;have hlr:((odd.map V.str).drop j).length+((odd.map V.str).take j).length<=sizeLine:=by
   rw[vc7,wt4];exact s1 (by show(odd.map V.str).length-j+min j (odd.map V.str).length<=1000;have:(odd.map V.str).length=13:=rfl;lia)
  refine⟨p1,p2,_,_,rfl,rfl,by rw[zb5 e2];exact zb1,zb1,hlr,fun p3 hp3=>?_⟩;refine⟨_,rfl,_,rfl,p3,_,rfl,SqL.of zb1,fun p4 hp4=>?_⟩;have hrot:(odd.map V.str).drop j++(odd.map V.str).take j=((odd.drop j++odd.take j)).map V.str:=by rw[wr9,vr3,vq6]
  have hlo:(odd.drop j++odd.take j).length=13:=by
   rw[wr2,vc7,wt4];have:odd.length=13:=rfl;lia
  have hno:(odd.drop j++odd.take j).Nodup:=by
   have hp:(odd.drop j++odd.take j).Perm odd:=vh6.trans (by rw[vc2]);exact hp.nodup_iff.mpr xq4
  rw[hrot]at hp4 ⊢;rw[xq1 _ (by rw[lqm,hlo];lia)];have f1:FrS [a] H3 (upd H3 p1 (.lst ((odd.map V.str).drop j))):=FrS.new hp1;refine q p4 ((odd.drop j++odd.take j).take n) d2 m2 t2 _ (fr3.trans ((f1.trans (FrS.new hp2)).trans ((FrS.new hp3).trans (FrS.new hp4)))) (((((hh3.new hp1).new hp2).new hp3).new hp4)) (by lia) ?_ (by rw[zb1,vq6]) (by rw[wt4,hlo];lia) (hno.sublist (List.take_sublist _ _));exact zv8 (H':=upd (upd (upd H3 p1 _) p2 _) p3 _) (fr3.trans ((f1.trans (FrS.new hp2)).trans (FrS.new hp3))) (((hh3.new hp1).new hp2).new hp3) hp4
 ·-- the loop that makes the stem
  refine⟨_,rfl,a,d1,m1,t1,r,5,rfl,hh2,by lia,by decide,by decide,fun y d2 m2 t2 y0 y1 ok2 ht2=>?_⟩;have fr3:FrS [a] H _:=fr2.trans (FrS.chg (a:=a) (o:=hl d2 m2 t2 r) (by simp));have hh3:Hand (upd H2 a (hl d2 m2 t2 r)) a d2 m2 t2 r:=Hand.at ok2;generalize upd H2 a (hl d2 m2 t2 r)=H3 at *;refine⟨_,rfl,by lia,by lia,zr4 (lo:=0) (n:=y.toNat) (fun i σ Hx=>∃(stem:Str)(kx:Option V)(dx mx tx:Int),σ=[some (.ref a),some (.int n),some (.ref po),none,some (.str lets),some (.str stem),kx,none,none,none,none]/\
   stem.length<=i/\FrS [a] H Hx/\Hand Hx a dx mx tx r/\tx<=t2+i) ⟨Str.empty,none,d2,m2,t2,rfl,wr5 _,fr3,hh3,by lia⟩ (fun i σ Hx hi ⟨stem,kx,dx,mx,tx,hσ,hst,frx,hhx,htx⟩=>?_) (fun σ Hx ⟨stem,kx,dx,mx,tx,hσ,hst,frx,hhx,htx⟩=>?_)⟩
  ·subst hσ;refine⟨_,rfl,_,rfl,_,rfl,a,dx,mx,tx,r,26,rfl,hhx,by lia,by decide,by decide,fun z d3 m3 t3 z0 z1 ok3 ht3=>?_⟩;refine⟨lets,z,_,rfl,rfl,s1 (by decide),xp4 z0 z1,?_⟩;refine⟨stem,_,rfl,rfl,?_,?_⟩
   ·show stem.length+1<=sizeLine;exact s1 (by lia)
   ·refine⟨_,_,d3,m3,t3,rfl,?_,frx.trans (FrS.chg (by simp)),Hand.at ok3,by lia⟩;show(stem.cps++#[_]).size<=i+1;rw[vj5];show stem.length+1<=i+1;lia
  ·subst hσ;have hl1:(y.toNat:Int)<=4:=by lia
   refine⟨_,rfl,_,rfl,_,rfl,s1 (by lia),_,_,rfl,rfl,a,dx,mx,tx,r,_,rfl,hhx,by lia,by lia,by lia,fun u d4 m4 t4 u0 u1 ok4 ht4=>?_⟩;have fr4:FrS [a] H _:=frx.trans (FrS.chg (a:=a) (o:=hl d4 m4 t4 r) (by simp));have hh4:Hand (upd Hx a (hl d4 m4 t4 r)) a d4 m4 t4 r:=Hand.at ok4;generalize upd Hx a (hl d4 m4 t4 r)=H4 at *;refine⟨_,rfl,a,d4,m4,t4,r,26,rfl,hh4,by lia,by decide,by decide,fun v d5 m5 t5 v0 v1 ok5 ht5=>?_⟩;have fr5:FrS [a] H _:=fr4.trans (FrS.chg (a:=a) (o:=hl d5 m5 t5 r) (by simp));have hh5:Hand (upd H4 a (hl d5 m5 t5 r)) a d5 m5 t5 r:=Hand.at ok5;generalize upd H4 a (hl d5 m5 t5 r)=H5 at *;refine⟨s1 (by show 6<=1000;decide),fun ps hps=>?_⟩;have hh6:=hh5.new (o:=.lst [.int 1,.int 3,.int 5,.int 7,.int 9,.int 11]) hps;have hpsa:ps≠a:=fun e=>by rw[e,hh5.1]at hps;cases hps
   refine⟨_,rfl,a,d5,m5,t5,r,6,rfl,hh6,by lia,by decide,by decide,fun z d6 m6 t6 z0 z1 ok6 ht6=>?_⟩;obtain⟨sv,hsv,hsm⟩:=xh4 (xs:=[V.int 1,.int 3,.int 5,.int 7,.int 9,.int 11]) z0 z1;refine⟨ps,_,_,sv,rfl,rfl,SqL.of (by rw[zb5 hpsa,zb1]),hsv,?_⟩;have fr6:FrS [a] H _:=(fr5.trans (FrS.new (o:=.lst [.int 1,.int 3,.int 5,.int 7,.int 9,.int 11]) hps)).trans (FrS.chg (a:=a) (o:=hl d6 m6 t6 r) (by simp));have hh7:Hand (upd (upd H5 ps (.lst [.int 1,.int 3,.int 5,.int 7,.int 9,.int 11])) a (hl d6 m6 t6 r)) a d6 m6 t6 r:=Hand.at ok6;obtain⟨stride,rfl,hstr⟩:∃st:Int,sv=.int st/\st∈([1,3,5,7,9,11]:List Int):=by
    simp only[ws5,wr0,vb0]at hsm;rcases hsm with rfl | rfl | rfl | rfl | rfl | rfl
    all_goals exact⟨_,rfl,by simp⟩
   have hstb:0<=stride/\stride<=11:=by
    simp only[ws5,wr0,vb0]at hstr;lia
   refine⟨s1 (by decide),fun pw hpw=>?_⟩;have hfree:=zv8 fr6 hh7 hpw;have fr8:FrS [a] H _:=fr6.trans (FrS.new (o:=.lst []) hpw);have hh8:=hh7.new (o:=.lst []) hpw;have hpw8:upd (upd (upd H5 ps (.lst [.int 1,.int 3,.int 5,.int 7,.int 9,.int 11])) a (hl d6 m6 t6 r)) pw (.lst []) pw=some (.lst []):=zb1;have hpwa:pw≠a:=fun e=>by rw[e,hh7.1]at hpw;cases hpw
   generalize upd (upd (upd H5 ps (.lst [.int 1,.int 3,.int 5,.int 7,.int 9,.int 11])) a (hl d6 m6 t6 r)) pw (.lst [])=H8 at *;refine⟨_,rfl,n,rfl,by lia,by lia,zr4 (lo:=0) (n:=(n:Int).toNat) (fun i σ Hx=>∃(kx wx:Option V),σ=[some (.ref a),some (.int n),some (.ref po),some (.int v),some (.str lets),some (.str stem),kx,some (.int u),some (.int stride),some (.ref pw),wx]/\
    FrS [a] H Hx/\Hand Hx a d6 m6 t6 r/\Hx pw=some (.lst ((zn7 (Txt.slice stem none (some u)) (Txt.slice stem (some u) none) v stride i).map V.str))) ⟨kx,none,rfl,fr8,hh8,hpw8⟩ (fun i σ Hx hi ⟨kx,wx,hσ,fry,hhy,hwy⟩=>?_) (fun σ Hx ⟨kx,wx,hσ,fry,hhy,hwy⟩=>?_)⟩
   ·subst hσ;have hi':i<n:=by lia
    have hsl:stem.length<=sizeLine:=s1 (by lia);have pl:=Txt.slice_le stem none (some u);have sl:=Txt.slice_le stem (some u) none;have hk0:0<=(v+stride*(0+(i:Int))) % 26:=vm6 _ (by decide);have hk1:(v+stride*(0+(i:Int))) % 26<26:=vh7 _ (by decide);refine⟨_,rfl,_,rfl,u,rfl,stem,rfl,hsl,_,rfl,_,rfl,_,rfl,_,rfl,_,_,rfl,rfl,.inl ⟨by lia,by lia⟩,_,_,rfl,rfl,_,_,rfl,rfl,by show(0:Int)<26;decide,lets,_,_,rfl,rfl,s1 (by decide),xp4 hk0 hk1,
     _,_,rfl,rfl,?_,_,rfl,_,rfl,u,rfl,stem,rfl,hsl,_,_,rfl,rfl,?_,?_⟩
    ·show(Txt.slice stem none (some u)).length+1<=sizeLine;exact s1 (by lia)
    ·have e:(Txt.slice stem none (some u)++(⟨#[(97+(v+stride*(0+(i:Int))) % 26).toNat]⟩:Str)).length=(Txt.slice stem none (some u)).length+1:=by
      show(_++#[_]).size=_;rw[vj5];rfl
     show(Txt.slice stem none (some u)++(⟨#[(97+(v+stride*(0+(i:Int))) % 26).toNat]⟩:Str)).length+(Txt.slice stem (some u) none).length<=sizeLine;rw[e];exact s1 (by lia)
    have ew:Txt.slice stem none (some u)++(⟨#[(97+(v+stride*(0+(i:Int))) % 26).toNat]⟩:Str)++Txt.slice stem (some u) none=zj9 (Txt.slice stem none (some u)) (Txt.slice stem (some u) none) (code v stride i):=by
     unfold zj9 code;rw[Int.zero_add]
    have hwl:(zj9 (Txt.slice stem none (some u)) (Txt.slice stem (some u) none) (code v stride i)).length<=20:=by
     show((_++#[_])++_).size<=20;rw[vj5,vj5];show(Txt.slice stem none (some u)).length+1+(Txt.slice stem (some u) none).length<=20;lia
    rw[ew];generalize hw:zj9 (Txt.slice stem none (some u)) (Txt.slice stem (some u) none) (code v stride i)=wd at *;refine⟨_,rfl,.inl ⟨rfl,_,SqL.of hwy⟩,_,rfl,_,rfl,rfl,.inr ⟨_,rfl,_,_,rfl,rfl,?_,_,_,rfl,rfl,?_,pw,_,_,rfl,rfl,hwy,?_,?_⟩⟩
    ·cases decide (V.str wd=V.str ("own":Str)) <;> simp
    ·have h1:∀c:Prop,[Decidable c]->(if c then Str.empty else("q":Str)).length<=1:=fun c _=>by
      by_cases h:c
      ·rw[ww4 h];decide
      ·rw[wv5 h];decide
     have h2:=h1 ((if decide (V.str wd=V.str ("own":Str))=true then(1:Int) else 0)=0);exact s1 (by lia)
    ·have:((zn7 (Txt.slice stem none (some u)) (Txt.slice stem (some u) none) v stride i).map V.str).length=i:=by
      unfold zn7;rw[lqm,lqm,List.length_range]
     rw[this];exact zc0 (by lia)
    ·refine⟨_,_,rfl,?_,?_,?_⟩
     ·intro b o hb hx;rw[zb5 (fun e=>by rw[e,hfree]at hx;cases hx)];exact fry b o hb hx
     ·exact⟨by rw[zb5 (vb3 hpwa)];exact hhy.1,hhy.2⟩
     ·rw[zb1,yn9,wr9];have e1:yr2 (Txt.slice stem none (some u)) (Txt.slice stem (some u) none) (code v stride i)=wd++(if (if decide (V.str wd=V.str ("own":Str))=true then(1:Int) else 0)=0 then Str.empty else("q":Str)):=by
       unfold yr2;rw[hw]
       by_cases h:wd=("own":Str)
       ·rw[ww4 h,ww4 (wt8 (by rw[h])),wv5 (by decide)]
       ·have h':¬(V.str wd=V.str ("own":Str)):=fun z=>h (V.str.inj z);rw[wv5 h,wv8 h'];rfl
      rw[e1];rfl
   ·subst hσ;refine⟨_,rfl,?_⟩;rw[vg2]at hwy;refine q pw _ d6 m6 t6 Hx fry hhy (by lia) hfree hwy (by unfold zn7;rw[lqm,List.length_range]) (yt2 hstr v0 hn)
end
inductive wb8(K:PySem.W.Frag)(vs:List V)(H:Hp)(Q:VK):Prop
 | mk(p:Addr)(ns:List Int)(k:Nat)(h1:vs=[.ref p,.int (k:Int)])(h2:SqL K H p (ns.map V.int))(h3:ns.length<=63)(h4:k<=63)(h5:∀(a:Addr)(d m:Int),H a=none->zw0 d m 0->Q (.ref a) (upd H a (hl d m 0 0))):wb8 K vs H Q
def xj4(K:PySem.W.Frag):Sp:=fun vs H Q _=>wb8 K vs H Q
theorem xk9:zd1 ["_law_script","_law_k","_law_cell"] ["_law_script","_law_k"] (zc2 wm4):=⟨rfl,rfl,rfl,by decide +kernel,rfl,by decide +kernel,by decide +kernel⟩
theorem yx5{c k:Int}(h0:0<=c)(k0:0<=k)(k1:k<=63)(b:Bool):zw0 (c*(if b then 1 else 0)) (c % 2305843009213693951+7919*k+11) 0:=by
 have h1:0<=c % 2305843009213693951:=vm6 _ (by decide);have h2:c % 2305843009213693951<2305843009213693951:=vh7 _ (by decide);refine⟨?_,by lia,by lia,Int.le_refl 0⟩;cases b
 ·show 0<=c*0;lia
 ·show 0<=c*1;lia
theorem wj3{k:Nat}(F:Fun K "_law_hand" "_law_hand" wm4 f fd)(ml:mg "len"=none)(ma:mg "abs"=none)(mi:mg "int"=none):FnOk P w K mg base CX0 (k+1) f fd ["_law_script","_law_k"] (xj4 K):=by
 refine F.ok xk9 (fun vs H Q E h=>?_) (fun cdv A outer s H vs Q E hr h=>?_)
 ·obtain⟨p,ns,k,rfl,_⟩:=h;rfl
 obtain⟨p,ns,j,rfl,hS,h63,hk,q⟩:=h;refine⟨_,zb3 (zc3 (i:=2) xk9.nd rfl (wt1 rfl) zb6)
  (zb3 (zh3 (zc4 xc7 (pv 1) (zf2 zg3 rfl ml vb1 (zb0 (pv 0) zb2)) (zd6 _))
   (zb7 (zc3 (i:=2) xk9.nd rfl (wt1 rfl) (zf2 xt9 rfl ma (by decide +kernel) (zb0 (eI (pv 0) (pv 1)) zb2)))) zd5)
  (zb7 (zd0 (zd7 (zb0 (zf4 yb4 (pv 2) (zd2 zq9 rfl mi (by decide +kernel) (zb0 (zq6 op_ge (pv 2) (zf4 op_pow zb6 zb6) (zd6 _)) zb2)))
   (zb0 (zf4 zn0 (zf4 zn0 (zf4 zx6 (pv 2) zb6) (zf4 yb4 zb6 (pv 1))) zb6) (zb0 zb6 (zb0 zb6 zb2)))))))),?_⟩
 have s1:∀{n:Nat},n<=1000->n<=sizeLine:=fun h=>ws3 (zc0 h);have hl:(ns.map V.int).length=ns.length:=List.length_map _;refine⟨_,rfl,_,rfl,p,_,rfl,.inl hS,_,_,rfl,rfl,_,rfl,?_⟩;refine ite2 (fun c=>?_) (fun c=>?_)
 ·have c':(j:Int)<(((ns.map V.int).length:Nat):Int):=ws0 c;rw[hl]at c';have hj:j<ns.length:=by lia
  have hv:atI (ns.map V.int) (j:Int)=some (.int ns[j]):=zq3 (by rw[wr3,wq9 hj];rfl);refine⟨_,rfl,_,rfl,p,_,_,_,rfl,rfl,hS,hv,_,rfl,?_⟩;have c0:0<=(if ns[j]<0 then -ns[j] else ns[j]):=by split <;> lia
  refine⟨_,rfl,_,rfl,_,_,rfl,rfl,⟨by decide,by decide,by decide⟩,_,_,rfl,rfl,.inr ⟨_,rfl,_,_,rfl,rfl,.inr ?_,_,rfl,_,_,rfl,rfl,by show(0:Int)<2305843009213693951;decide,_,rfl,_,_,rfl,rfl,.inl (by constructor <;> decide),_,_,rfl,rfl,_,_,rfl,rfl,s1 (by show 4<=1000;decide),fun a ha=>?_⟩⟩
  ·cases decide ((if ns[j]<0 then -ns[j] else ns[j])≥10 ^ (18:Int).toNat) <;> (constructor <;> decide)
  ·exact q a _ _ ha (yx5 c0 (by lia) (by lia) _)
 ·refine⟨_,rfl,_,rfl,_,_,rfl,rfl,⟨by decide,by decide,by decide⟩,_,_,rfl,rfl,.inr ⟨_,rfl,_,_,rfl,rfl,.inr ?_,_,rfl,_,_,rfl,rfl,by show(0:Int)<2305843009213693951;decide,_,rfl,_,_,rfl,rfl,.inl (by constructor <;> decide),_,_,rfl,rfl,_,_,rfl,rfl,s1 (by show 4<=1000;decide),fun a ha=>?_⟩⟩
  ·cases decide ((0:Int)≥10 ^ (18:Int).toNat) <;> (constructor <;> decide)
  ·exact q a _ _ ha (yx5 (Int.le_refl 0) (by lia) (by lia) _)
abbrev Tr:=List (Str×Option Str)
structure TrOk(tr:Tr):Prop where
 nd:(tr.map (·.1)).Nodup
 up:∀(i:Nat) n e,tr[i]?=some (n,some e)->∃j,j<i/\∃g,tr[j]?=some (e,g)
theorem TrOk.nil:TrOk []:=⟨vd8,fun i n e h=>by simp at h⟩
theorem TrOk.snoc{tr:Tr}{n:Str}{e:Option Str}(h:TrOk tr)(hn:n∉tr.map (·.1))(he:∀x,e=some x->x∈tr.map (·.1)):TrOk (tr++[(n,e)]):=by
 refine⟨?_,fun i n' e' hi=>?_⟩
 ·rw[wr9];exact yd3 h.nd hn
 ·by_cases hlt:i<tr.length
  ·rw[wz1 hlt]at hi;obtain⟨j,hj,g,hg⟩:=h.up i n' e' hi;exact⟨j,hj,g,by rw[wz1 (by lia)];exact hg⟩
  ·rw[wz8 (by lia)]at hi;have h0:i-tr.length=0:=by
    cases hz:i-tr.length with
    | zero=>rfl
    | succ k=>rw[hz]at hi;simp at hi
   rw[h0]at hi;simp only[vk2,vr0,Prod.mk.injEq]at hi;obtain⟨_,he'⟩:=hi;obtain⟨p,hp,e1⟩:=ws2.mp (he e' he');obtain⟨j,hj,ej⟩:=vc0 hp;exact⟨j,by lia,p.2,by rw[wz1 hj,wq9 hj,ej,←e1]⟩
theorem TrOk.one{tr:Tr}(h:TrOk tr){i j:Nat}{n:Str}{a b:Option Str}(hi:tr[i]?=some (n,a))(hj:tr[j]?=some (n,b)):i=j:=by
 have e1:(tr.map (·.1))[i]?=some n:=by rw[wr3,hi];rfl
 have e2:(tr.map (·.1))[j]?=some n:=by rw[wr3,hj];rfl
 obtain⟨h1,e1⟩:=wr1.mp e1;obtain⟨h2,e2⟩:=wr1.mp e2;exact(vn5 h.nd).mp (e1.trans e2.symm)
inductive Up(tr:Tr):Str->List Str->Prop
 | root {i:Nat} {n:Str}:tr[i]?=some (n,none)->Up tr n [n]
 | step {i:Nat} {n e:Str} {l:List Str}:tr[i]?=some (n,some e)->Up tr e l->Up tr n (n::l)
theorem Up.exists{tr:Tr}(h:TrOk tr):∀(i:Nat) n g,tr[i]?=some (n,g)->∃l,Up tr n l:=by
 intro i
 induction i using Nat.strongRecOn with
 | ind i ih=>
  intro n g hi;cases g with
  | none=>exact⟨_,.root hi⟩
  | some e=>
   obtain⟨j,hj,g',hg⟩:=h.up i n e hi;obtain⟨l,hl⟩:=ih j hj e g' hg;exact⟨_,.step hi hl⟩
theorem Up.inj{tr:Tr}(h:TrOk tr){n:Str}{l l':List Str}(a:Up tr n l)(b:Up tr n l'):l=l':=by
 induction a generalizing l' with
 | root hi=>
  cases b with
  | root _=>rfl
  | step hj _=>have:=h.one hi hj;subst this;rw[hi]at hj;cases hj
 | step hi _ ih=>
  cases b with
  | root hj=>have:=h.one hi hj;subst this;rw[hi]at hj;cases hj
  | step hj hb=>
   have:=h.one hi hj;subst this;rw[hi]at hj;cases hj;rw[ih hb]
theorem Up.mem{tr:Tr}{n:Str}{l:List Str}(a:Up tr n l):∀x∈l,x∈tr.map (·.1):=by
 induction a with
 | root hi=>
  intro x hx;rw[wv1]at hx;subst hx;exact ws2.mpr ⟨_,ws4 hi,rfl⟩
 | step hi _ ih=>
  intro x hx;rcases ws5.mp hx with rfl | hx
  ·exact ws2.mpr ⟨_,ws4 hi,rfl⟩
  ·exact ih x hx
theorem Up.len{tr:Tr}(h:TrOk tr):∀(i:Nat) n g l,tr[i]?=some (n,g)->Up tr n l->l.length<=i+1:=by
 intro i
 induction i using Nat.strongRecOn with
 | ind i ih=>
  intro n g l hi hl;cases hl with
  | root _=>show 1<=i+1;lia
  | @step i' _ e l' hj hb=>
   have:=h.one hi hj;subst this;obtain⟨j,hlt,g',hg⟩:=h.up i n e hj;have:=ih j hlt e g' l' hg hb;show l'.length+1<=i+1;lia
def eldV:Option Str->V
 | none=>.non
 | some e=>.str e
abbrev ys1:Stmt:=top 1
def KindsAt(H:Hp)(p:Addr)(tr:Tr):Prop:=∃(kt:Addr)(ts:List Addr)(x y:V),H p=some (.tup [.ref kt,x,y])/\H kt=some (.tup (ts.map V.ref))/\ts.length=tr.length/\
 ∀(j:Nat) t z,ts[j]?=some t->tr[j]?=some z->∃v,H t=some (.tup [.str z.1,eldV z.2,v])
theorem yh9:zd1 ["program","kind","elder_of","line"] ["program","kind"] (zc2 ys1):=⟨rfl,rfl,rfl,by decide +kernel,rfl,by decide +kernel,by decide +kernel⟩
theorem eT{X:Cx}{a b:Expr}{ta tb:TE}{pos:Pos}(ha:PE X a ta)(hb:PE X b tb)(hs:yv2 b:=by exact fun _ _=>rfl):PE X (.Subscript a b pos) (tOp (rIxT X.K) ta tb):=yn8 yn4 ha hb hs
def kvE(tr:Tr):List (Key×V):=tr.map fun z=>((Sum.inr z.1:Key),eldV z.2)
theorem xz6{tr:Tr}{n:Str}(h:n∉tr.map (·.1)):valV (kvE tr) (Sum.inr n)=none:=by
 cases e:valV (kvE tr) (Sum.inr n)with
 | none=>rfl
 | some v=>
  have:=yj7 e;unfold kvE at this;rw[vc8]at this;obtain⟨z,hz,ez⟩:=ws2.mp this;exact absurd (ws2.mpr ⟨z,hz,vk8 ez⟩) h
theorem xm8{tr:Tr}(ok:TrOk tr){i:Nat}{n:Str}{e:Option Str}(h:tr[i]?=some (n,e)):kvE (tr.take (i+1))=putK (kvE (tr.take i)) (Sum.inr n) (eldV e):=by
 have hn:n∉(tr.take i).map (·.1):=fun hm=>by
  obtain⟨z,hz,ez⟩:=ws2.mp hm;obtain⟨j,hj,ej⟩:=vc0 hz;rw[wt4]at hj;have e1:tr[j]?=some (n,z.2):=by
   rw[wq9 (by lia),←ez,←ej,List.getElem_take]
  have:=ok.one h e1;lia
 rw[zw4 _ (xz6 hn)];unfold kvE;rw[ws7,h,wr9];rfl
theorem zp4{tr:Tr}(ok:TrOk tr){i:Nat}{n:Str}{e:Option Str}(h:tr[i]?=some (n,e)):valV (kvE tr) (Sum.inr n)=some (eldV e):=by
 obtain⟨hi,_⟩:=wr1.mp h;have key:∀(tr:Tr)(i:Nat),TrOk tr->tr[i]?=some (n,e)->(kvE tr).find? (fun kv=>decide (kv.1=(Sum.inr n:Key)))=some ((Sum.inr n:Key),eldV e):=by
  intro tr i ok h;cases q:(kvE tr).find? (fun kv=>decide (kv.1=(Sum.inr n:Key)))with
  | none=>
   have:=vq5.mp q ((Sum.inr n:Key),eldV e) (ws2.mpr ⟨(n,e),ws4 h,rfl⟩);simp at this
  | some r=>
   have h1:=List.find?_some q;have h2:=vh9 q;obtain⟨z,hz,ez⟩:=ws2.mp h2;obtain⟨j,hj,ej⟩:=vc0 hz;have h3:r.1=(Sum.inr n:Key):=ws0 h1;rw[←ez]at h3;have h4:z.1=n:=vk8 h3;have e1:tr[j]?=some (n,z.2):=by rw[wq9 hj,ej,←h4]
   have:=ok.one h e1;subst this;rw[h]at e1;have e2:z.2=e:=by cases e1;rfl
   rw[←ez,h4,e2]
 unfold valV;rw[key tr i ok h];rfl
theorem yn2{H H':Hp}{p:Addr}(f:FrS [] H H')(hp:H' p=none):H p=none:=by
 cases hz:H p with
 | none=>rfl
 | some o=>have:=f p o (by simp) hz;rw[hp]at this;cases this
theorem Up.at{tr:Tr}{n:Str}{l:List Str}(h:Up tr n l):∃(i:Nat)(g:Option Str),tr[i]?=some (n,g):=by
 cases h with
 | root h=>exact⟨_,_,h⟩
 | step h _=>exact⟨_,_,h⟩
theorem zs9(dn:List Str)(x:Str):atI ((dn++[x]).map V.str) (-1)=some (.str x):=by
 rw[wr9];unfold atI ixN;have hlen:(dn.map V.str++[x].map V.str).length=dn.length+1:=by simp
 rw[hlen,wv5 (by decide),ww4 (by lia)];have e:(-1+((dn.length+1:Nat):Int)).toNat=dn.length:=by lia
 show(dn.map V.str++[x].map V.str)[(-1+((dn.length+1:Nat):Int)).toNat]?=_;rw[e,wz8 (by simp)];simp
inductive yv7(vs:List V)(H:Hp)(Q:VK):Prop
 | mk(p:Addr)(n:Str)(tr:Tr)(l:List Str)(h1:vs=[.ref p,.str n])(h2:KindsAt H p tr)(h3:TrOk tr)(h4:tr.length<=12)(h5:Up tr n l)(h6:∀(a:Addr)(H':Hp),FrS [] H H'->H a=none->H' a=some (.tup (l.reverse.map V.str))->Q (.ref a) H'):yv7  vs H Q
def zx0:Sp:=fun vs H Q _=>yv7  vs H Q
theorem xs1{k:Nat}(F:Fun K "elders" "elders" ys1 f fd)(mt:mg "tuple"=none):FnOk P w K mg base CX0 (k+1) f fd ["program","kind"] zx0:=by
 refine F.ok yh9 (fun vs H Q E h=>?_) (fun cdv A outer s H vs Q E hr h=>?_)
 ·obtain⟨p,n,tr,l,rfl,_⟩:=h;rfl
 obtain⟨p,n,tr,l,rfl,⟨kt,ts,x,y,hp,hk,hlen,hts⟩,ok,h12,hup,q⟩:=h;have hu:=zn1 hr;have hl12:l.length<=12:=by
  obtain⟨i,g,hi⟩:=hup.at;have:=Up.len ok i n g l hi hup;obtain⟨h1,_⟩:=wr1.mp hi;lia
 have nd3:(["name","elder","deeds"]:List Str).Nodup:=by decide +kernel
 refine⟨_,zb3 (yv1 (i:=2) (N':=["name","elder","deeds"]) (src:=[none,none,none]) rfl yh9.nd rfl rfl ⟨rfl,by decide +kernel,by decide +kernel,rfl,rfl,rfl⟩
   (zh5 (eT (pv 0) zb6))
   (g:=gTup K 3 (zk6 (zd9 0) (zk6 (zd9 1) (zk6 (zd9 2) gNil)))) (fun _ _ _ _=>zh8 (n:=3) rfl (zc1 (zb9 (i:=0) nd3 rfl (wt1 rfl) (wz3 rfl)) (zc1 (zb9 (i:=1) nd3 rfl (wt1 rfl) (wz3 rfl)) (zc1 (zb9 (i:=2) nd3 rfl (wt1 rfl) (wz3 rfl)) zg2))))
   (fun _ _ _ _=>zg5) (fun _ _ _ _=>pv 0) (fun _ _ _ _=>pv 1))
  (zb3 (zc3 (i:=3) yh9.nd rfl (wt1 rfl) (zd7 (zb0 (pv 1) zb2)))
  (zb3 (zx4 wv0 (zs5 (zt8 (zc9 hu (pv 2) (eI (pv 3) (yh5 zr6 zb6)) (fun _ _=>rfl))))
   (zb7 (zg1 (zm9 wv2 wv6 wv7 zf5 (pv 3) (zb0 (zc9 hu (pv 2) (eI (pv 3) (yh5 zr6 zb6)) (fun _ _=>rfl)) zb2)))))
  (zb7 (zd0 (zd2 zd3 rfl mt (by decide +kernel) (zb0 (wd7 (pv 3) (yh5 zr6 zb6)) zb2)))))),?_⟩
 first | dsimp only[cxOf,Cx.nox] | skip
 have s1:∀{n:Nat},n<=1000->n<sizeLine:=fun h=>zc0 h;refine⟨_,rfl,p,_,_,_,rfl,rfl,SqT.of hp,rfl,kt,rfl,⟨_,SqT.of hk⟩,fun D hD=>?_⟩;have hDp:p≠D:=zb4 hp hD;have hDk:kt≠D:=zb4 hk hD;refine⟨fun i m σ Hx=>m=ts.length-i/\i<=ts.length/\(∃a b c,σ=[a,b,c])/\Hx=upd H D (.dK (kvE (tr.take i))),⟨_,rfl,wt6 _,⟨_,_,_,rfl⟩,rfl⟩,?_⟩;rintro i m σ Hx ⟨rfl,hi,⟨a0,b0,c0,rfl⟩,rfl⟩;have hkD:∀o,upd H D o kt=some (.tup (ts.map V.ref)):=fun o=>by rw[zb5 hDk];exact hk
 by_cases hlt:i<ts.length
 ·refine .inr ⟨⟨_,_,SqT.of (hkD _),by rw[wr3,wq9 hlt];rfl⟩,fun σ' H'=>(∃a b c,σ'=[a,b,c])/\H'=upd H D (.dK (kvE (tr.take (i+1)))),fun σ' H' ⟨h1,h2⟩=>⟨_,by lia,rfl,hlt,h1,h2⟩,fun v H' yl=>?_⟩;obtain⟨rfl,yl⟩:=yl;have hv:=yl _ (SqT.of (hkD _));rw[wr3,wq9 hlt]at hv;cases hv;have htr:tr[i]?=some tr[i]:=wq9 (by lia);obtain⟨v3,hv3⟩:=hts i _ _ (wq9 hlt) htr;have hv4:∀o,upd H D o ts[i]=some (.tup [.str tr[i].1,eldV tr[i].2,v3]):=fun o=>by rw[zb5 (zb4 hv3 hD)];exact hv3
  refine⟨ts[i],_,rfl,SqT.of (hv4 _),rfl,_,_,rfl,_,_,rfl,_,_,rfl,rfl,?_⟩;refine⟨_,rfl,_,rfl,_,Sum.inr tr[i].1,rfl,zb1,?_,⟨_,_,_,rfl⟩,?_⟩
  ·unfold kvE;rw[lqm,wt4];exact s1 (by lia)
  ·rw[zq5,xm8 ok htr];rfl
 ·refine .inl ⟨⟨_,SqT.of (hkD _),by rw[lqm];lia⟩,?_⟩;have e:i=tr.length:=by lia
  rw[e,wr8 (wr5 _)];refine⟨_,rfl,by show 1<=sizeLine;decide,fun pl hpl=>?_⟩;have hDl:D≠pl:=fun z=>by rw[←z,zb1]at hpl;cases hpl
  have hlp:H pl=none:=by rw[zb5 (vb3 hDl)]at hpl;exact hpl
  refine zx2 (fun σ Hx=>∃(dn rs:List Str)(x:Str),σ=[some (.ref p),some (.str n),some (.ref D),some (.ref pl)]/\Hx=upd (upd H D (.dK (kvE tr))) pl (.lst ((dn++[x]).map V.str))/\Up tr x rs/\dn++rs=l/\dn.length<=12)
   (fun σ Hx=>match Hx pl with | some (.lst xs)=>100-xs.length | _=>0) ⟨[],l,n,rfl,rfl,hup,rfl,by decide⟩ ?_ ?_
  ·rintro σ Hx ⟨dn,rs,x,rfl,rfl,hx,hl,hd⟩;have hdl:∀o,upd (upd H D (.dK (kvE tr))) pl o D=some (.dK (kvE tr)):=fun o=>by rw[zb5 hDl];exact zb1
   have hll:∀o,upd (upd H D (.dK (kvE tr))) pl o pl=some o:=fun o=>zb1;have hlen:∀y:Str,((dn++[y]).map V.str).length=dn.length+1:=fun y=>by simp
   cases hx with
   | @root i _ hi=>
    refine⟨_,rfl,_,rfl,_,rfl,pl,_,_,_,rfl,rfl,SqL.of zb1,zs9 dn x,D,V.non,rfl,?_,_,rfl,?_⟩
    ·have:=DGet.k (k:=(Sum.inr x:Key)) (hdl (.lst ((dn++[x]).map V.str)));rw[zp4 ok hi]at this;exact this
    ·show if (!decide (V.non=V.non))=true then _ else _
     rw[wv5 (by simp)];refine⟨_,rfl,_,rfl,rfl,pl,_,rfl,SqL.of zb1,fun p2 hp2=>?_⟩;have hfr:FrS [] H (upd (upd H D (.dK (kvE tr))) pl (.lst ((dn++[x]).map V.str))):=(FrS.new hD).trans (FrS.new hpl);refine⟨p2,_,rfl,.inl ⟨SqL.of zb1,fun p3 hp3=>?_⟩⟩;refine q p3 _ ((hfr.trans (FrS.new hp2)).trans (FrS.new hp3)) ?_ ?_
     ·exact yn2 (hfr.trans (FrS.new hp2)) hp3
     ·rw[zb1,←hl,List.map_reverse]
   | @step i _ e l' hi hb=>
    refine⟨_,rfl,_,rfl,_,rfl,pl,_,_,_,rfl,rfl,SqL.of zb1,zs9 dn x,D,V.str e,rfl,?_,_,rfl,?_⟩
    ·have:=DGet.k (k:=(Sum.inr x:Key)) (hdl (.lst ((dn++[x]).map V.str)));rw[zp4 ok hi]at this;exact this
    ·show if (!decide (V.str e=V.non))=true then _ else _
     rw[ww4 (by simp)];refine⟨_,rfl,.inl ⟨rfl,_,SqL.of zb1⟩,_,rfl,_,rfl,_,rfl,pl,_,_,_,rfl,rfl,SqL.of zb1,zs9 dn x,D,V.str e,rfl,?_,pl,_,_,rfl,rfl,zb1,?_,⟨dn++[x],l',e,rfl,?_,hb,by rw[←hl];simp,?_⟩,?_⟩
     ·have:=DGet.k (k:=(Sum.inr x:Key)) (hdl (.lst ((dn++[x]).map V.str)));rw[zp4 ok hi]at this;exact this
     ·rw[hlen];exact s1 (by lia)
     ·rw[zq5,wr9 (l₁:=dn++[x])];rfl
     ·have:=wx5 List.length hl;rw[wr2,wt3]at this;rw[wr2,ws8];lia
     ·show(match upd _ pl _ pl with | some (HO.lst xs)=>100-xs.length | _=>0)<(match upd _ pl _ pl with | some (HO.lst xs)=>100-xs.length | _=>0);rw[zb1,zb1];show 100-(((dn++[x]).map V.str)++[V.str e]).length<100-((dn++[x]).map V.str).length;rw[wr2,hlen,ws8];lia
  ·intro σ Hx R R' hR hc;obtain⟨v1,h1,v2,h2,v3,h3,p',xs,i',v',h4,h5,h6,h7,a',v8,h8,h9,c,h10,h11⟩:=hc;exact⟨v1,h1,v2,h2,v3,h3,p',xs,i',v',h4,h5,h6,h7,a',v8,h8,h9,c,h10,hR _ _ h11⟩
abbrev xm1:Stmt:=top 2
theorem zj8(n:Str)(l:List Str):inV (.str n) (l.map V.str)=decide (n∈l):=by
 unfold inV
 induction l with
 | nil=>rfl
 | cons x r ih=>
  rw[ww3,vp8,ih];have e:eqV (.str x) (.str n)=decide (x=n):=by
   first | rfl | simp[eqV] | (unfold eqV;by_cases h:x=n <;> simp[h])
  rw[e]
  by_cases h:x=n
  ·subst h;simp
  ·have h':¬n=x:=fun z=>h z.symm;simp[h,h']
theorem zf8(l:List Str):(l.map V.str).all zz6=true:=by
 rw[List.all_map,ww0];intro x _;rfl
inductive xn9(vs:List V)(H:Hp)(Q:VK):Prop
 | mk(p:Addr)(n o:Str)(tr:Tr)(l:List Str)(h1:vs=[.ref p,.str n,.str o])(h2:KindsAt H p tr)(h3:TrOk tr)(h4:tr.length<=12)(h5:Up tr n l)(h6:∀(H':Hp),FrS [] H H'->Q (.bl (decide (o∈l))) H'):xn9  vs H Q
def yk1:Sp:=fun vs H Q _=>xn9  vs H Q
theorem wn2:zd1 ["program","one","other"] ["program","one","other"] (zc2 xm1):=⟨rfl,rfl,rfl,by decide +kernel,rfl,by decide +kernel,by decide +kernel⟩
theorem xx2{k:Nat}(F:Fun K "is_below" "is_below" xm1 f fd)(T:Cal P w K mg base k "elders" ["program","kind"] zx0):FnOk P w K mg base CX0 (k+1) f fd ["program","one","other"] yk1:=by
 obtain⟨g,gd,GT,bT,kT,mT⟩:=T.ex;refine F.ok wn2 (fun vs H Q E h=>?_) (fun cdv A outer s H vs Q E hr h=>?_)
 ·obtain⟨p,n,o,tr,l,rfl,_⟩:=h;rfl
 obtain⟨p,n,o,tr,l,rfl,hK,ok,h12,hup,q⟩:=h;refine⟨_,zb7 (zd0 (zq6 zg6 (pv 2) (zb8 GT hr rfl mT kT bT .nil zc6 (zb0 (pv 0) (zb0 (pv 1) zb2))) rfl)),?_⟩;refine⟨_,rfl,_,rfl,_,rfl,p,n,tr,l,rfl,hK,ok,h12,hup,fun a H' fr ha hH'=>?_⟩;refine⟨a,_,rfl,.inr (SqT.of hH'),rfl,zf8 _,?_⟩;have e:inV (.str o) (l.reverse.map V.str)=decide (o∈l):=by
  rw[zj8]
  by_cases h:o∈l
  ·rw[wt8 h,wt8 (List.mem_reverse.mpr h)]
  ·rw[wv8 h,wv8 (fun z=>h (List.mem_reverse.mp z))]
 show Q (.bl (if false=true then _ else _)) H';rw[wv5 (by decide),e];exact q H' fr
theorem FrS.put{S:List Addr}{H H':Hp}{a:Addr}{o:HO}(f:FrS S H H')(h:H a=none):FrS S H (upd H' a o):=fun b u n q=>by
 rw[zb5 (zb4 q h)];exact f b u n q
theorem FrS.put'{S:List Addr}{H H':Hp}{a:Addr}{o:HO}(f:FrS S H H')(h:a∈S):FrS S H (upd H' a o):=f.trans (FrS.chg h)
theorem FrS.old{S:List Addr}{H H':Hp}{p:Addr}(f:FrS S H H')(hs:∀b∈S,∃o,H' b=some o)(hp:H' p=none):H p=none:=by
 cases hz:H p with
 | none=>rfl
 | some o=>
  by_cases hm:p∈S
  ·obtain⟨u,hu⟩:=hs p hm;rw[hp]at hu;cases hu
  ·have:=f p o hm hz;rw[hp]at this;cases this
theorem zh0{K:PySem.W.Frag}{a:Addr}{xs:List V}{g:TG}{tt:TT}{te:TE}{D:Addr}{σ0:St}{H0:Hp}{Q:Hp->Prop}(Pv:Nat->St->Hp->Prop)(h0:Pv 0 σ0 H0)(hl:∀i σ H,i<=xs.length->Pv i σ H->SqL K H a xs)
  (hs:∀i x σ H,xs[i]?=some x->Pv i σ H->g x σ H fun σ2 H2=>tt σ2 H2 fun b H3=>if b=true then te σ2 H3 fun v H4=>∃ys,H4 D=some (.lst ys)/\ys.length<sizeLine/\Pv (i+1) σ2 (upd H4 D (.lst (ys++[v]))) else Pv (i+1) σ2 H3)
  (hd:∀σ H,Pv xs.length σ H->Q H):yd7 (Itl K a) g tt te D σ0 H0 Q:=by
 refine⟨fun i m σ H=>m=xs.length-i/\i<=xs.length/\Pv i σ H,⟨xs.length,by simp,wt6 _,h0⟩,?_⟩;rintro i m σ H ⟨rfl,hi,p⟩;have q:=hl i σ H hi p
 by_cases hlt:i<xs.length
 ·refine .inr ⟨⟨xs,xs[i],q,by simp[hlt]⟩,Pv (i+1),fun σ' H' p'=>⟨xs.length-(i+1),by lia,rfl,hlt,p'⟩,fun x H' y=>?_⟩;obtain⟨e,y⟩:=y;subst e;exact hs i x σ _ (y xs q) p
 ·have e:i=xs.length:=by lia
  subst e;exact .inl ⟨⟨xs,q,wr5 _⟩,hd σ H p⟩
theorem yj9{ok:Hp->Prop}{xs:List V}{g:TG}{tt:TT}{te:TE}{D:Addr}{σ0:St}{H0:Hp}{Q:Hp->Prop}(Pv:Nat->St->Hp->Prop)(h0:Pv 0 σ0 H0)(hl:∀i σ H,i<=xs.length->Pv i σ H->ok H)
  (hs:∀i x σ H,xs[i]?=some x->Pv i σ H->g x σ H fun σ2 H2=>tt σ2 H2 fun b H3=>if b=true then te σ2 H3 fun v H4=>∃ys,H4 D=some (.lst ys)/\ys.length<sizeLine/\Pv (i+1) σ2 (upd H4 D (.lst (ys++[v]))) else Pv (i+1) σ2 H3)
  (hd:∀σ H,Pv xs.length σ H->Q H):yd7 (Itx ok xs) g tt te D σ0 H0 Q:=by
 refine⟨fun i m σ H=>m=xs.length-i/\i<=xs.length/\Pv i σ H,⟨xs.length,by simp,wt6 _,h0⟩,?_⟩;rintro i m σ H ⟨rfl,hi,p⟩;have q:=hl i σ H hi p
 by_cases hlt:i<xs.length
 ·refine .inr ⟨⟨q,hlt⟩,Pv (i+1),fun σ' H' p'=>⟨xs.length-(i+1),by lia,rfl,hlt,p'⟩,fun x H' y=>?_⟩;obtain⟨e,y⟩:=y;subst e;exact hs i x σ _ y p
 ·have e:i=xs.length:=by lia
  subst e;exact .inl ⟨⟨q,wr5 _⟩,hd σ H p⟩
theorem yb9{lo:Int}{n:Nat}{g:TG}{tt:TT}{te:TE}{D:Addr}{σ0:St}{H0:Hp}{Q:Hp->Prop}(Pv:Nat->St->Hp->Prop)(h0:Pv 0 σ0 H0)
  (hs:∀i σ H,i<n->Pv i σ H->g (.int (lo+i)) σ H fun σ2 H2=>tt σ2 H2 fun b H3=>if b=true then te σ2 H3 fun v H4=>∃ys,H4 D=some (.lst ys)/\ys.length<sizeLine/\Pv (i+1) σ2 (upd H4 D (.lst (ys++[v]))) else Pv (i+1) σ2 H3)
  (hd:∀σ H,Pv n σ H->Q H):yd7 (Itr lo n) g tt te D σ0 H0 Q:=by
 refine⟨fun i m σ H=>m=n-i/\i<=n/\Pv i σ H,⟨n,by simp,wt6 _,h0⟩,?_⟩;rintro i m σ H ⟨rfl,hi,p⟩
 by_cases hlt:i<n
 ·refine .inr ⟨hlt,Pv (i+1),fun σ' H' p'=>⟨n-(i+1),by lia,rfl,hlt,p'⟩,fun x H' y=>?_⟩;obtain⟨e,y⟩:=y;subst e y;exact hs i σ _ hlt p
 ·have e:i=n:=by lia
  subst e;exact .inl ⟨wr5 _,hd σ H p⟩
theorem for_x{ok:Hp->Prop}{xs:List V}{g:TG}{tb:TS}{D:Ends}{σ:St}{H:Hp}(Pv:Nat->St->Hp->Prop)(h0:Pv 0 σ H)(hl:∀i σ H,i<=xs.length->Pv i σ H->ok H)
  (hs:∀i x σ H,xs[i]?=some x->Pv i σ H->g x σ H fun σ2 H2=>tb {D with nx:=Pv (i+1),ct:=Pv (i+1),bk:=D.nx} σ2 H2) (hd:∀σ H,Pv xs.length σ H->D.nx σ H):
  ∃W:Nat->Nat->St->Hp->Prop,(∃m,W 0 m σ H)/\∀i m σ H,W i m σ H->
   ((Itx ok xs).stop i H/\D.nx σ H)∨((Itx ok xs).go i H/\∃N:St->Hp->Prop,(∀σ' H',N σ' H'->∃m',m'<m/\W (i+1) m' σ' H')/\∀x H',(Itx ok xs).yld i H x H'->g x σ H' fun σ2 H2=>tb {D with nx:=N,ct:=N,bk:=D.nx} σ2 H2):=by
 refine⟨fun i m σ H=>m=xs.length-i/\i<=xs.length/\Pv i σ H,⟨xs.length,by simp,wt6 _,h0⟩,?_⟩;rintro i m σ H ⟨rfl,hi,p⟩;have q:=hl i σ H hi p
 by_cases hlt:i<xs.length
 ·refine .inr ⟨⟨q,hlt⟩,Pv (i+1),fun σ' H' p'=>⟨xs.length-(i+1),by lia,rfl,hlt,p'⟩,fun x H' y=>?_⟩;obtain⟨e,y⟩:=y;subst e;exact hs i x σ _ y p
 ·have e:i=xs.length:=by lia
  subst e;exact .inl ⟨⟨q,wr5 _⟩,hd σ H p⟩
theorem yw0{α:Type}[DecidableEq α]:∀(l U:List α),l.Nodup->(∀x∈l,x∈U)->l.length<=U.length
 | [],U,_,_=>wt6 _
 | x::l,U,h,hs=>by
  have hx:x∈U:=hs x (vf3 ..);have hn:=wx9.mp h;have ih:=yw0 l (U.erase x) hn.2 fun y hy=>(List.mem_erase_of_ne (fun e=>hn.1 (by rw[←e];exact hy))).mpr (hs y (ww6 _ hy))
  rw[List.length_erase_of_mem hx]at ih;have:=List.length_pos_of_mem hx;show l.length+1<=U.length;lia
theorem yb6{κ:Type}[DecidableEq κ](kvs:List (κ×V))(k:κ)(v:V):((putK kvs k v).map (·.1)=kvs.map (·.1)/\k∈kvs.map (·.1))∨((putK kvs k v).map (·.1)=kvs.map (·.1)++[k]/\k∉kvs.map (·.1)):=by
 cases h:valV kvs k with
 | none=>exact .inr ⟨by rw[zw4 v h,wr9];rfl,zw7 h⟩
 | some u=>
  refine .inl ⟨?_,yj7 h⟩;unfold putK;rw[zm3,h];show(List.map _ (List.map _ kvs))=_;rw[vc8];refine vg8 fun x _=>?_;show(if x.1=k then(x.1,v) else x).1=x.1
  split <;> rfl
structure DOk(U N:List Str)(kvs:List (Key×V)):Prop where
 nd:(kvs.map (·.1)).Nodup
 ks:∀k∈kvs.map (·.1),∃x∈U,k=Sum.inr x
 vs:∀k v,valV kvs k=some v->v=.non∨∃n∈N,v=.str n
theorem DOk.nil{U N:List Str}:DOk U N []:=⟨vd8,(fun _ h=>nomatch h),(fun _ _ h=>nomatch h)⟩
theorem DOk.put{U N:List Str}{kvs:List (Key×V)}{x:Str}{v:V}(h:DOk U N kvs)(hx:x∈U)(hv:v=.non∨∃n∈N,v=.str n):DOk U N (putK kvs (Sum.inr x) v):=by
 refine⟨?_,fun k hk=>?_,fun k u hu=>?_⟩
 ·rcases yb6 kvs (Sum.inr x) v with ⟨e,_⟩ | ⟨e,hn⟩
  ·rw[e];exact h.nd
  ·rw[e];exact yd3 h.nd hn
 ·rcases yb6 kvs (Sum.inr x) v with ⟨e,_⟩ | ⟨e,hn⟩
  ·rw[e]at hk;exact h.ks k hk
  ·rw[e]at hk;rcases wt9.mp hk with hk | hk
   ·exact h.ks k hk
   ·exact⟨x,hx,wv1.mp hk⟩
 ·rw[zm5]at hu
  by_cases e:k=Sum.inr x
  ·rw[ww4 e]at hu;cases hu;exact hv
  ·rw[wv5 e]at hu;exact h.vs k u hu
theorem DOk.len{U N:List Str}{kvs:List (Key×V)}(h:DOk U N kvs):kvs.length<=U.length:=by
 have:=yw0 (kvs.map (·.1)) (U.map fun x=>(Sum.inr x:Key)) h.nd fun k hk=>by
  obtain⟨x,hx,e⟩:=h.ks k hk;exact ws2.mpr ⟨x,hx,e.symm⟩
 rwa [lqm,lqm]at this
theorem DOk.get{U N:List Str}{kvs:List (Key×V)}(h:DOk U N kvs)(k:Key):(valV kvs k).getD .non=.non∨∃n∈N,(valV kvs k).getD .non=.str n:=by
 cases e:valV kvs k with
 | none=>exact .inl rfl
 | some v=>exact h.vs k v e
structure WA where
 (tree late deeds wants owners vars params fields told held roots:Addr)
structure WD where
 tr:Tr
 (late deeds vars params fields:List Str)
 wants:List (List Key×V)
 (owners roots:List (Key×V))
 own:Str->List Str
def WD.names(D:WD):List Str:=D.tr.map (·.1)
def WD.U(D:WD):List Str:="own"::(D.vars++D.params)
def Stt(M:List Addr)(H:Hp)(a:Addr)(o:HO):Prop:=a∉M/\H a=some o
theorem Stt.keep{M:List Addr}{H H':Hp}{a:Addr}{o:HO}(h:Stt M H a o)(f:FrS M H H'):Stt M H' a o:=⟨h.1,f a o h.1 h.2⟩
theorem Stt.sub{M M':List Addr}{H:Hp}{a:Addr}{o:HO}(h:Stt M H a o)(hs:∀b∈M',b∈M):Stt M' H a o:=⟨fun z=>h.1 (hs a z),h.2⟩
structure WOk(D:WD):Prop where
 ok:TrOk D.tr
 l1:D.tr≠[]
 l12:D.tr.length<=12
 lateIn:∀x∈D.late,x∈D.names
 lateLen:D.late.length<=12
 soon:∃x∈D.names,x∉D.late
 d1:D.deeds≠[]
 d6:D.deeds.length<=6
 v4:D.vars.length=4
 p4:D.params.length=4
 f3:D.fields.length=3
structure Wld(M:List Addr)(H:Hp)(wd:Addr)(A:WA)(D:WD):Prop where
 k:∃kvs,Stt M H wd (.dK kvs)/\valV kvs (Sum.inr "tree")=some (.ref A.tree)/\valV kvs (Sum.inr "late")=some (.ref A.late)/\valV kvs (Sum.inr "deeds")=some (.ref A.deeds)/\valV kvs (Sum.inr "wants")=some (.ref A.wants)/\
  valV kvs (Sum.inr "owners")=some (.ref A.owners)/\valV kvs (Sum.inr "vars")=some (.ref A.vars)/\valV kvs (Sum.inr "params")=some (.ref A.params)/\valV kvs (Sum.inr "fields")=some (.ref A.fields)/\
  valV kvs (Sum.inr "told")=some (.ref A.told)/\valV kvs (Sum.inr "held")=some (.ref A.held)/\valV kvs (Sum.inr "roots")=some (.ref A.roots)
 tree:∃ts:List Addr,Stt M H A.tree (.lst (ts.map V.ref))/\ts.length=D.tr.length/\∀(j:Nat) t x,ts[j]?=some t->D.tr[j]?=some x->Stt M H t (.tup [.str x.1,eldV x.2])
 late:Stt M H A.late (.lst (D.late.map V.str))
 deeds:Stt M H A.deeds (.lst (D.deeds.map V.str))
 vars:Stt M H A.vars (.lst (D.vars.map V.str))
 params:Stt M H A.params (.lst (D.params.map V.str))
 fields:Stt M H A.fields (.lst (D.fields.map V.str))
 wants:Stt M H A.wants (.dT D.wants)
 owners:Stt M H A.owners (.dK D.owners)
 roots:Stt M H A.roots (.dK D.roots)
 wl:∀n∈D.names,∀d∈D.deeds,∃(r:Str)(p:Addr)(ws:List Str),valV D.roots (Sum.inr n)=some (.str r)/\valV D.wants [Sum.inr r,Sum.inr d]=some (.ref p)/\Stt M H p (.lst (ws.map V.str))/\ws.length<=4/\∀x∈ws,x∈D.names
 ol:∀d∈D.deeds,∃p:Addr,valV D.owners (Sum.inr d)=some (.ref p)/\Stt M H p (.lst ((D.own d).map V.str))/\(∀x∈D.own d,x∈D.names)/\(D.own d).length<=13
theorem Wld.map{M M':List Addr}{H H':Hp}{wd:Addr}{A:WA}{D:WD}(h:Wld M H wd A D)(f:∀a o,Stt M H a o->Stt M' H' a o):Wld M' H' wd A D:=by
 obtain⟨⟨kvs,k0,k1⟩,⟨ts,t1,t2,t3⟩,h1,h2,h3,h4,h5,h6,h7,h8,h9,h10⟩:=h;refine⟨⟨kvs,f _ _ k0,k1⟩,⟨ts,f _ _ t1,t2,fun j t x a b=>f _ _ (t3 j t x a b)⟩,f _ _ h1,f _ _ h2,f _ _ h3,f _ _ h4,f _ _ h5,f _ _ h6,f _ _ h7,f _ _ h8,fun n hn d hd=>?_,fun d hd=>?_⟩
 ·obtain⟨r,p,ws,a,b,c,e⟩:=h9 n hn d hd;exact⟨r,p,ws,a,b,f _ _ c,e⟩
 ·obtain⟨p,a,b,c⟩:=h10 d hd;exact⟨p,a,f _ _ b,c⟩
theorem Wld.keep{M:List Addr}{H H':Hp}{wd:Addr}{A:WA}{D:WD}(h:Wld M H wd A D)(f:FrS M H H'):Wld M H' wd A D:=h.map fun _ _ x=>x.keep f
theorem Wld.g{M:List Addr}{H:Hp}{wd:Addr}{A:WA}{D:WD}(h:Wld M H wd A D):DGet H wd (.str "tree") (some (.ref A.tree))/\DGet H wd (.str "late") (some (.ref A.late))/\DGet H wd (.str "deeds") (some (.ref A.deeds))/\DGet H wd (.str "wants") (some (.ref A.wants))/\
  DGet H wd (.str "owners") (some (.ref A.owners))/\DGet H wd (.str "vars") (some (.ref A.vars))/\DGet H wd (.str "params") (some (.ref A.params))/\DGet H wd (.str "fields") (some (.ref A.fields))/\DGet H wd (.str "told") (some (.ref A.told))/\DGet H wd (.str "held") (some (.ref A.held))/\DGet H wd (.str "roots") (some (.ref A.roots)):=by
 obtain⟨kvs,⟨_,e⟩,k1,k2,k3,k4,k5,k6,k7,k8,k9,k10,k11⟩:=h.k;have g:∀(x:Str)(v:V),valV kvs (Sum.inr x)=some v->DGet H wd (.str x) (some v):=fun x v q=>.inl ⟨kvs,Sum.inr x,.inl e,rfl,q.symm⟩;exact⟨g _ _ k1,g _ _ k2,g _ _ k3,g _ _ k4,g _ _ k5,g _ _ k6,g _ _ k7,g _ _ k8,g _ _ k9,g _ _ k10,g _ _ k11⟩
abbrev wq7:Stmt:=top 24
abbrev sHas:Stmt:=top 25
theorem yq0{tr:Tr}(ok:TrOk tr):zf6 [] (kvE tr)=kvE tr:=by
 have key:∀i,i<=tr.length->zf6 [] ((kvE tr).take i)=kvE (tr.take i):=by
  intro i
  induction i with
  | zero=>intro _;rfl
  | succ i ih=>
   intro hi;have hv:tr[i]?=some tr[i]:=wq9 (by lia);have hk:(kvE tr)[i]?=some (Sum.inr tr[i].1,eldV tr[i].2):=by unfold kvE;rw[wr3,hv];rfl
   rw[yp5 hk,ih (by lia),xm8 ok (e:=tr[i].2) (n:=tr[i].1) hv]
 have hl:(kvE tr).length=tr.length:=by unfold kvE;rw[lqm]
 have:=key tr.length (wr5 _);rwa [wr8 (by lia),wr8 (wr5 _)]at this
inductive xz9(vs:List V)(H:Hp)(Q:VK):Prop
 | mk(wd:Addr)(M:List Addr)(A:WA)(D:WD)(n:Str)(l:List Str)(h1:vs=[.ref wd,.str n])(h2:Wld M H wd A D)(h3:WOk D)(h4:Up D.tr n l)(h5:∀(a:Addr)(H':Hp),FrS [] H H'->H a=none->H' a=some (.lst (l.map V.str))->Q (.ref a) H'):xz9  vs H Q
def ym2:Sp:=fun vs H Q _=>xz9  vs H Q
theorem yz3:zd1 ["_law_world_here","_law_kind","_law_up_here","_law_line_here"] ["_law_world_here","_law_kind"] (zc2 wq7):=⟨rfl,rfl,rfl,by decide +kernel,rfl,by decide +kernel,by decide +kernel⟩
theorem wj4{k:Nat}(F:Fun K "_law_line" "_law_line" wq7 f fd)(mdi:mg "dict"=none):FnOk P w K mg base CX0 (k+1) f fd ["_law_world_here","_law_kind"] ym2:=by
 refine F.ok yz3 (fun vs H Q E h=>?_) (fun cdv A outer s H vs Q E hr h=>?_)
 ·obtain⟨wd,M,A,D,n,l,rfl,_⟩:=h;rfl
 obtain⟨wd,M,WA,D,n,l,rfl,hW,hO,hup,q⟩:=h;have hu:=zn1 hr;refine⟨_,zb3 (zc3 (i:=2) yz3.nd rfl (wt1 rfl) (zd2 (zh6 rfl) rfl mdi (by decide +kernel) (zb0 (zc9 hu (pv 0) zd4 (fun _ _=>rfl)) zb2)))
  (zb3 (zc3 (i:=3) yz3.nd rfl (wt1 rfl) (zd7 zb2))
  (zb3 (zx4 wv0 (zs5 (zt8 (pv 1)))
   (zb3 (zg1 (zm9 wv2 wv6 wv7 zf5 (pv 3) (zb0 (pv 1) zb2)))
   (zb7 (zc3 (i:=1) yz3.nd rfl (wt1 rfl) (zc9 hu (pv 2) (pv 1) (fun _ _=>rfl))))))
  (zb7 (zd0 (pv 3))))),?_⟩
 first | dsimp only[cxOf,Cx.nox] | skip
 have s1:∀{n:Nat},n<=1000->n<sizeLine:=fun h=>zc0 h;obtain⟨ts,t1,t2,t3⟩:=hW.tree;have hkl:(kvE D.tr).length=D.tr.length:=by unfold kvE;rw[lqm]
 have h12:=hO.l12;refine⟨_,rfl,wd,_,rfl,hW.g.1,WA.tree,ts,kvE D.tr,rfl,SqL.of t1.2,by rw[hkl];exact t2,by rw[hkl];exact s1 (by lia),fun j t kv ht hkv=>?_,fun Dp hDp=>?_⟩
 ·unfold kvE at hkv;rw[wr3]at hkv;obtain⟨x,hx,rfl⟩:=wr6.mp hkv;exact SqT.of (t3 j t x ht hx).2
 rw[yq0 hO.ok];refine⟨wt6 _,fun pl hpl=>?_⟩;have hDl:Dp≠pl:=fun z=>by rw[←z,zb1]at hpl;cases hpl
 have hlp:H pl=none:=by rw[zb5 (vb3 hDl)]at hpl;exact hpl
 refine zx2 (fun σ Hx=>∃(dn:List Str)(kv:V),σ=[some (.ref wd),some kv,some (.ref Dp),some (.ref pl)]/\Hx=upd (upd H Dp (.dK (kvE D.tr))) pl (.lst (dn.map V.str))/\dn.length<=12/\((kv=.non/\dn=l)∨∃x rs,kv=.str x/\Up D.tr x rs/\dn++rs=l))
  (fun σ Hx=>match Hx pl with | some (.lst xs)=>100-xs.length | _=>0) ⟨[],.str n,rfl,rfl,by decide,.inr ⟨n,l,rfl,hup,rfl⟩⟩ ?_ ?_
 ·rintro σ Hx ⟨dn,kv,rfl,rfl,hd,hc⟩;have hdl:∀o,upd (upd H Dp (.dK (kvE D.tr))) pl o Dp=some (.dK (kvE D.tr)):=fun o=>by rw[zb5 hDl];exact zb1
  rcases hc with ⟨rfl,rfl⟩ | ⟨x,rs,rfl,hx,hl⟩
  ·refine⟨_,rfl,_,rfl,?_⟩;show if (!decide (V.non=V.non))=true then _ else _
   rw[wv5 (by trivial)];exact⟨_,rfl,q pl _ (((FrS.refl).put hDp).put hlp) hlp zb1⟩
  ·refine⟨_,rfl,_,rfl,?_⟩;show if (!decide (V.str x=V.non))=true then _ else _
   rw[ww4 (by trivial)];have hd2:dn.length+1<=12:=by
    obtain⟨i,g,hi⟩:=hup.at;have h1:=Up.len hO.ok i n g l hi hup;obtain⟨h2,_⟩:=wr1.mp hi;have h3:=wx5 List.length hl;rw[wr2]at h3;have h4:1<=rs.length:=by cases hx <;> simp
    lia
   refine⟨_,rfl,.inl ⟨rfl,_,SqL.of zb1⟩,_,rfl,pl,_,_,rfl,rfl,zb1,by rw[lqm];exact s1 (by lia),_,rfl,_,rfl,Dp,?_⟩;rw[zq5];have mz:(match upd (upd H Dp (.dK (kvE D.tr))) pl (.lst (dn.map V.str++[V.str x])) pl with | some (HO.lst xs)=>100-xs.length | _=>0)<(match upd (upd H Dp (.dK (kvE D.tr))) pl (.lst (dn.map V.str)) pl with | some (HO.lst xs)=>100-xs.length | _=>0):=by
    rw[zb1,zb1];show 100-(dn.map V.str++[V.str x]).length<100-(dn.map V.str).length;rw[wr2,lqm,ws8];lia
   have ee:dn.map V.str++[V.str x]=(dn++[x]).map V.str:=by rw[wr9];rfl
   cases hx with
   | @root i _ hi=>
    refine⟨.non,rfl,?_,⟨dn++[x],.non,rfl,by rw[ee],by rw[wr2,ws8];exact hd2,.inl ⟨rfl,hl⟩⟩,mz⟩;have:=DGet.k (k:=(Sum.inr x:Key)) (hdl (.lst (dn.map V.str++[V.str x])));rw[zp4 hO.ok hi]at this;exact this
   | @step i _ e l' hi hb=>
    refine⟨.str e,rfl,?_,⟨dn++[x],.str e,rfl,by rw[ee],by rw[wr2,ws8];exact hd2,.inr ⟨e,l',rfl,hb,by rw[←hl];simp⟩⟩,mz⟩;have:=DGet.k (k:=(Sum.inr x:Key)) (hdl (.lst (dn.map V.str++[V.str x])));rw[zp4 hO.ok hi]at this;exact this
 ·intro σ Hx R R' hR hc;obtain⟨v1,h1,c,h10,h11⟩:=hc;exact⟨v1,h1,c,h10,hR _ _ h11⟩
def HsD(D:WD)(k d:Str):Prop:=k∈D.names/\d∈D.deeds/\∃n l,Up D.tr k l/\n∈l/\n∈D.own d
inductive SpHas(vs:List V)(H:Hp)(Q:VK):Prop
 | mk(wd:Addr)(M:List Addr)(A:WA)(D:WD)(n d:Str)(h1:vs=[.ref wd,.str n,.str d])(h2:Wld M H wd A D)(h3:WOk D)(h4:n∈D.names)(h5:d∈D.deeds)(h6:∀(b:Bool)(H':Hp),FrS [] H H'->(b=true->HsD D n d)->Q (.bl b) H'):SpHas  vs H Q
def wj6:Sp:=fun vs H Q _=>SpHas  vs H Q
theorem scHas:zd1 ["_law_world_here","_law_kind","_law_deed_here"] ["_law_world_here","_law_kind","_law_deed_here"] (zc2 sHas):=⟨rfl,rfl,rfl,by decide +kernel,rfl,by decide +kernel,by decide +kernel⟩
theorem wg3{D:WD}(hO:WOk D){n:Str}(hn:n∈D.names):∃l,Up D.tr n l/\l.length<=12/\∀x∈l,x∈D.names:=by
 obtain⟨z,hz,e⟩:=ws2.mp hn;obtain⟨i,hi,ei⟩:=vc0 hz;have hg:D.tr[i]?=some (n,z.2):=by rw[wq9 hi,ei,←e]
 obtain⟨l,hl⟩:=Up.exists hO.ok i n z.2 hg;have:=Up.len hO.ok i n z.2 l hg hl;have:=hO.l12;exact⟨l,hl,by lia,hl.mem⟩
theorem ok_has{k:Nat}(F:Fun K "_law_has" "_law_has" sHas f fd)(T:Cal P w K mg base k "_law_line" ["_law_world_here","_law_kind"] ym2)(ma:mg "any"=none):FnOk P w K mg base CX0 (k+1) f fd ["_law_world_here","_law_kind","_law_deed_here"] wj6:=by
 obtain⟨g,gd,GT,bT,kT,mT⟩:=T.ex;refine F.ok scHas (fun vs H Q E h=>?_) (fun cdv A outer s H vs Q E hr h=>?_)
 ·obtain⟨wd,M,A,D,n,d,rfl,_⟩:=h;rfl
 obtain⟨wd,M,WA,D,n,d,rfl,hW,hO,hn,hd,q⟩:=h;have hu:=zn1 hr;have nd3:(["_law_one","_law_world_here","_law_deed_here"]:List Str).Nodup:=by decide +kernel
 refine⟨_,zb7 (zd0 (zf2 (xx7 rfl) rfl ma (by decide +kernel) (zb0 (zh4 (N':=["_law_one","_law_world_here","_law_deed_here"]) (src:=[none,some 0,some 2]) rfl ⟨rfl,by decide +kernel,by decide +kernel,rfl,rfl,rfl⟩
   (zf7 (zb8 GT hr rfl mT kT bT .nil zc6 (zb0 (pv 0) (zb0 (pv 1) zb2))))
   (g:=zd9 0) (fun _ _ _ _=>zb9 (i:=0) nd3 rfl (wt1 rfl) (wz3 rfl)) (fun _ _ _ _=>zg5)
   (fun _ _ _ _=>zq6 (show OpR _ _ (rIn K false) from zg6) (pv 0) (zc9 hu (zc9 hu (pv 1) zd4 (fun _ _=>rfl)) (pv 2) (fun _ _=>rfl)) rfl)) zb2))),?_⟩
 first | dsimp only[cxOf,Cx.nox] | skip
 have s1:∀{n:Nat},n<=1000->n<sizeLine:=fun h=>zc0 h;obtain⟨l,hl,hl12,hlm⟩:=wg3 hO hn;obtain⟨op,o1,o2,o3,o4⟩:=hW.ol d hd;refine⟨_,rfl,_,rfl,wd,M,WA,D,n,l,rfl,hW,hO,hl,fun la H1 f1 hla hla1=>⟨la,rfl,⟨_,SqL.of hla1⟩,fun Dl hDl=>?_⟩⟩;refine zh0 (xs:=l.map V.str) (fun i σ Hx=>(∃x,σ=[x,some (.ref wd),some (.str d)])/\FrS [] H1 Hx/\∃bs:List Bool,bs=(l.take i).map (fun x=>inV (.str x) ((D.own d).map V.str))/\Hx Dl=some (.lst (bs.map V.bl))) ⟨⟨_,rfl⟩,(FrS.refl).put hDl,[],rfl,zb1⟩ ?_ ?_ ?_
 ·rintro i σ Hx hi ⟨_,fr,_⟩;exact SqL.of (fr _ _ (by trivial) hla1)
 ·rintro i x σ Hx hx ⟨⟨x0,rfl⟩,fr,bs,hb,hDx⟩;obtain⟨hi,_⟩:=wr1.mp hx;rw[lqm]at hi;rw[wr3,wq9 hi]at hx;cases hx;have fr2:FrS M H Hx:=(f1.trans fr).mono (by trivial);have hW2:=hW.keep fr2;have o2':=o2.keep fr2;refine⟨_,rfl,_,rfl,wd,_,rfl,hW2.g.2.2.2.2.1,_,rfl,WA.owners,_,rfl,.inl ⟨_,Sum.inr d,.inl hW2.owners.2,rfl,o1.symm⟩,op,_,rfl,.inl (SqL.of o2'.2),rfl,zf8 _,_,hDx,?_,⟨_,rfl⟩,fr.put hDl,bs++[inV (.str l[i]) ((D.own d).map V.str)],?_,?_⟩
  ·rw[lqm,hb,lqm,wt4];exact s1 (by lia)
  ·rw[hb,ws7,wq9 hi,wr9];rfl
  ·rw[zb1,wr9];rfl
 ·rintro σ Hx ⟨_,fr,bs,hb,hDx⟩;refine⟨Dl,bs,rfl,SqL.of hDx,q _ Hx (f1.trans fr) fun hany=>⟨hn,hd,?_⟩⟩;rw[lqm,wr8 (wr5 _)]at hb;subst hb;obtain⟨b,hbm,hbt⟩:=vk3.mp hany;obtain⟨x,hx,rfl⟩:=ws2.mp hbm;refine⟨x,l,hl,hx,?_⟩;have hbt:inV (.str x) ((D.own d).map V.str)=true:=hbt;rw[zj8]at hbt;simpa using hbt
abbrev Ms(hd en:Addr)(A:WA):List Addr:=[hd,en,A.told,A.held]
structure Sit(H:Hp)(hd en wd:Addr)(A:WA)(D:WD)(t r:Int):Prop where
 hand:∃d m,Hand H hd d m t r
 env:∃kv,H en=some (.dK kv)/\DOk D.U D.names kv
 told:∃kv,H A.told=some (.dK kv)/\DOk D.deeds D.names kv
 held:∃kv,H A.held=some (.dK kv)/\DOk D.fields D.names kv
 w:Wld (Ms hd en A) H wd A D
 nd:(Ms hd en A).Nodup
 ok:WOk D
section
variable{H H':Hp}{hd en wd:Addr}{A:WA}{D:WD}{t r:Int}
theorem Sit.fr0(S:Sit H hd en wd A D t r)(f:FrS [] H H'):Sit H' hd en wd A D t r:=by
 obtain⟨⟨d,m,h1,h1'⟩,⟨k1,e1,e1'⟩,⟨k2,e2,e2'⟩,⟨k3,e3,e3'⟩,w,nd,ok⟩:=S;exact⟨⟨d,m,f _ _ (by trivial) h1,h1'⟩,⟨k1,f _ _ (by trivial) e1,e1'⟩,⟨k2,f _ _ (by trivial) e2,e2'⟩,⟨k3,f _ _ (by trivial) e3,e3'⟩,w.keep (f.mono (by trivial)),nd,ok⟩
theorem Sit.ne(S:Sit H hd en wd A D t r):hd≠en/\hd≠A.told/\hd≠A.held/\en≠A.told/\en≠A.held/\A.told≠A.held:=by
 have:=S.nd;simp only[Ms,wx9,ws5,wr0,vb0,not_or]at this;exact⟨this.1.1,this.1.2.1,this.1.2.2,this.2.1.1,this.2.1.2,this.2.2.1⟩
theorem Sit.setHand(S:Sit H hd en wd A D t r){d' m' t' r':Int}(ok:zw0 d' m' t'):Sit (upd H hd (hl d' m' t' r')) hd en wd A D t' r':=by
 obtain⟨n1,n2,n3,n4,n5,n6⟩:=S.ne;obtain⟨⟨d,m,h1⟩,⟨k1,e1,e1'⟩,⟨k2,e2,e2'⟩,⟨k3,e3,e3'⟩,w,nd,wok⟩:=S;exact⟨⟨d',m',Hand.at ok⟩,⟨k1,by rw[zb5 n1.symm];exact e1,e1'⟩,⟨k2,by rw[zb5 n2.symm];exact e2,e2'⟩,⟨k3,by rw[zb5 n3.symm];exact e3,e3'⟩,w.keep (FrS.chg (by trivial)),nd,wok⟩
theorem Sit.setEnv(S:Sit H hd en wd A D t r){kv:List (Key×V)}(h:DOk D.U D.names kv):Sit (upd H en (.dK kv)) hd en wd A D t r:=by
 obtain⟨n1,n2,n3,n4,n5,n6⟩:=S.ne;obtain⟨⟨d,m,h1,h1'⟩,⟨k1,e1,e1'⟩,⟨k2,e2,e2'⟩,⟨k3,e3,e3'⟩,w,nd,wok⟩:=S;exact⟨⟨d,m,by rw[zb5 n1];exact h1,h1'⟩,⟨kv,zb1,h⟩,⟨k2,by rw[zb5 n4.symm];exact e2,e2'⟩,⟨k3,by rw[zb5 n5.symm];exact e3,e3'⟩,w.keep (FrS.chg (by trivial)),nd,wok⟩
theorem Sit.setTold(S:Sit H hd en wd A D t r){kv:List (Key×V)}(h:DOk D.deeds D.names kv):Sit (upd H A.told (.dK kv)) hd en wd A D t r:=by
 obtain⟨n1,n2,n3,n4,n5,n6⟩:=S.ne;obtain⟨⟨d,m,h1,h1'⟩,⟨k1,e1,e1'⟩,⟨k2,e2,e2'⟩,⟨k3,e3,e3'⟩,w,nd,wok⟩:=S;exact⟨⟨d,m,by rw[zb5 n2];exact h1,h1'⟩,⟨k1,by rw[zb5 n4];exact e1,e1'⟩,⟨kv,zb1,h⟩,⟨k3,by rw[zb5 n6.symm];exact e3,e3'⟩,w.keep (FrS.chg (by trivial)),nd,wok⟩
theorem Sit.setHeld(S:Sit H hd en wd A D t r){kv:List (Key×V)}(h:DOk D.fields D.names kv):Sit (upd H A.held (.dK kv)) hd en wd A D t r:=by
 obtain⟨n1,n2,n3,n4,n5,n6⟩:=S.ne;obtain⟨⟨d,m,h1,h1'⟩,⟨k1,e1,e1'⟩,⟨k2,e2,e2'⟩,⟨k3,e3,e3'⟩,w,nd,wok⟩:=S;exact⟨⟨d,m,by rw[zb5 n3];exact h1,h1'⟩,⟨k1,by rw[zb5 n5];exact e1,e1'⟩,⟨k2,by rw[zb5 n6];exact e2,e2'⟩,⟨kv,zb1,h⟩,w.keep (FrS.chg (by trivial)),nd,wok⟩
theorem Sit.have_(S:Sit H hd en wd A D t r):∀b∈Ms hd en A,∃o,H b=some o:=by
 obtain⟨⟨d,m,h1,h1'⟩,⟨k1,e1,e1'⟩,⟨k2,e2,e2'⟩,⟨k3,e3,e3'⟩,w,nd,wok⟩:=S;intro b hb;simp only[Ms,ws5,wr0,vb0]at hb;rcases hb with rfl | rfl | rfl | rfl
 ·exact⟨_,h1⟩
 ·exact⟨_,e1⟩
 ·exact⟨_,e2⟩
 ·exact⟨_,e3⟩
theorem Sit.notin(S:Sit H hd en wd A D t r){p:Addr}(hp:H p=none):p∉Ms hd en A:=fun z=>by
 obtain⟨o,ho⟩:=S.have_ p z;rw[hp]at ho;cases ho
theorem zj3{p a:Addr}{ss:List Str}{d m t r:Int}(h:H p=some (.lst (ss.map V.str)))(hh:Hand H a d m t r):p≠a:=fun e=>by
 subst e;rw[hh.1]at h;cases ss with
 | nil=>cases h
 | cons x l=>cases h
theorem FrS.thaw{a:Addr}{o:Obj}{u:HO}{Hx:Hp}(hu:H a=Option.some u)(f:FrS [] (upd H a (.frz o u)) Hx):FrS [] H (upd Hx a u):=fun b v n q=>by
 by_cases e:b=a
 ·subst e;rw[zb1];rw[hu]at q;exact q
 ·rw[zb5 e];exact f b v n (by rw[zb5 e];exact q)
theorem DOk.strs{U N:List Str}{kvs:List (Key×V)}(h:DOk U N kvs):∃ss:List Str,kvs.map (fun kv=>kV kv.1)=ss.map V.str/\ss.length=kvs.length/\∀x∈ss,x∈U:=by
 have key:∀l:List (Key×V),(∀k∈l.map (·.1),∃x∈U,k=Sum.inr x)->∃ss:List Str,l.map (fun kv=>kV kv.1)=ss.map V.str/\ss.length=l.length/\∀x∈ss,x∈U:=by
  intro l
  induction l with
  | nil=>intro _;exact⟨[],rfl,rfl,by simp⟩
  | cons a l ih=>
   intro hk;obtain⟨ss,e,el,hm⟩:=ih fun k hk'=>hk k (ww6 _ hk');obtain⟨x,hx,ex⟩:=hk a.1 (by trivial);refine⟨x::ss,?_,by simp[el],?_⟩
   ·rw[ww3,ww3,e,ex];rfl
   ·intro y hy;rcases ws5.mp hy with rfl | hy
    ·exact hx
    ·exact hm y hy
 exact key kvs h.ks
end
abbrev sVar:Stmt:=top 26
abbrev sTgt:Stmt:=top 27
abbrev wh9:Stmt:=top 28
inductive SpVar(vs:List V)(H:Hp)(Q:VK):Prop
 | mk(hd en wd:Addr)(A:WA)(D:WD)(t r:Int)(h1:vs=[.ref hd,.ref wd,.ref en])(h2:Sit H hd en wd A D t r)(h3:t+2<1000000)(h4:∀(x:Str)(H':Hp)(t':Int),Sit H' hd en wd A D t' r->FrS (Ms hd en A) H H'->t'<=t+2->FrS [hd] H H'->Q (.str x) H'):SpVar  vs H Q
def ym5:Sp:=fun vs H Q _=>SpVar  vs H Q
theorem scVar:zd1 ["_law_hand_here","_law_world_here","_law_env","_law_some"] ["_law_hand_here","_law_world_here","_law_env"] (zc2 sVar):=⟨rfl,rfl,rfl,by decide +kernel,rfl,by decide +kernel,by decide +kernel⟩
theorem ok_var{k:Nat}(F:Fun K "_law_variable" "_law_variable" sVar f fd)(T:Cal P w K mg base k "_law_take" ["_law_hand_here","_law_many"] zj0)(O:Cal P w K mg base k "_law_of" ["_law_hand_here","_law_some"] (spOf K))(mli:mg "list"=none):
  FnOk P w K mg base CX0 (k+1) f fd ["_law_hand_here","_law_world_here","_law_env"] ym5:=by
 obtain⟨g,gd,GT,bT,kT,mT⟩:=T.ex;obtain⟨g2,gd2,GO,bO,kO,mO⟩:=O.ex;refine F.ok scVar (fun vs H Q E h=>?_) (fun cdv A outer s H vs Q E hr h=>?_)
 ·obtain⟨hd,en,wd,A,D,t,r,rfl,_⟩:=h;rfl
 obtain⟨hd,en,wd,WA,D,t,r,rfl,S,ht,q⟩:=h;have hu:=zn1 hr;have nd2:(["_law_x","_law_env"]:List Str).Nodup:=by decide +kernel
 refine⟨_,zb3 (xp0 (zh1 (i:=3) (N':=["_law_x","_law_env"]) (src:=[none,some 2]) rfl scVar.nd rfl rfl ⟨rfl,by decide +kernel,by decide +kernel,rfl,rfl,rfl⟩
   (yj1 (pv 2)) (g:=zd9 0) (fun _ _ _ _=>zb9 (i:=0) nd2 rfl (wt1 rfl) (wz3 rfl))
   (fun _ _ _ _=>zm7 (zs5 (zt8 (zc9 hu (pv 1) (pv 0) (fun _ _=>rfl))))) (fun _ _ _ _=>pv 0)))
  (zb3 (zh3 (PW.pt (zk4 (zc4 (zx1 (vg4 hu)) (pv 3) (zd7 zb2) (zd6 _)) (zk0 (zc4 yh6 (zb8 GT hr rfl mT kT bT .nil zc6 (zb0 (pv 0) (zb0 zb6 zb2))) zb6 (zd6 _)))))
   (zb7 (zd0 (zb8 GO hr rfl mO kO bO .nil zc6 (zb0 (pv 0) (zb0 (pv 3) zb2))))) zd5)
  (zb7 (zd0 (zb8 GO hr rfl mO kO bO .nil zc6 (zb0 (pv 0) (zb0 (zf4 yf7 (zc9 hu (pv 1) zd4 (fun _ _=>rfl)) (zd2 (zq1 rfl) rfl mli (by decide +kernel) (zb0 (pv 2) zb2))) zb2)))))),?_⟩
 first | dsimp only[cxOf,Cx.nox] | skip
 have s1:∀{n:Nat},n<=1000->n<sizeLine:=fun h=>zc0 h;obtain⟨kv,hen,hk⟩:=S.env;have hU:D.U.length=9:=by unfold WD.U;rw[wt3,wr2,S.ok.v4,S.ok.p4]
 have hkl:=hk.len;obtain⟨us,eu,eul,_⟩:=hk.strs;refine⟨en,kv,hen,?_⟩;refine⟨_,rfl,en,kv,rfl,hen,fun o Dl hDl=>?_⟩;have hDe:Dl≠en:=fun z=>by rw[z,zb1]at hDl;cases hDl
 have hD0:H Dl=none:=by rw[zb5 hDe]at hDl;exact hDl
 refine yj9 (xs:=kv.map fun p=>kV p.1) (fun i σ Hx=>(∃x,σ=[x,some (.ref en)])/\FrS [] (upd H en (.frz o (.dK kv))) Hx/\∃ss:List Str,ss.length<=i/\Hx Dl=some (.lst (ss.map V.str))) ⟨⟨_,rfl⟩,(FrS.refl).put hDl,[],by simp,zb1⟩ ?_ ?_ ?_
 ·rintro i σ Hx hi ⟨_,fr,_⟩;exact fr _ _ (by trivial) zb1
 ·rintro i x σ Hx hx ⟨⟨x0,rfl⟩,fr,ss,hs,hDx⟩;have hx':=hx;rw[eu]at hx;obtain⟨hi,_⟩:=wr1.mp hx;rw[lqm]at hi;rw[wr3,wq9 hi]at hx;cases hx;have hin:(Sum.inr us[i]:Key)∈kv.map (·.1):=by
   rw[wr3]at hx';obtain⟨p,hp,e⟩:=wr6.mp hx';have:p.1=Sum.inr us[i]:=by
    obtain⟨y,_,ey⟩:=hk.ks p.1 (ws2.mpr ⟨p,ws4 hp,rfl⟩);rw[ey]at e ⊢;cases e;rfl
   exact ws2.mpr ⟨p,ws4 hp,this⟩
  obtain⟨v,hv⟩:∃v,valV kv (Sum.inr us[i])=some v:=by
   cases z:valV kv (Sum.inr us[i])with
   | some v=>exact⟨v,rfl⟩
   | none=>exact absurd hin (zw7 z)
  refine⟨_,rfl,_,rfl,en,v,rfl,.inl ⟨kv,Sum.inr us[i],.inr ⟨o,fr _ _ (by trivial) zb1⟩,rfl,hv.symm⟩,_,rfl,?_⟩;refine ite2 (fun c=>?_) (fun c=>?_)
  ·refine⟨_,rfl,_,hDx,by rw[lqm];exact s1 (by lia),⟨_,rfl⟩,fr.put hDl,ss++[us[i]],?_,?_⟩
   ·rw[wr2,ws8];lia
   ·rw[zb1,wr9];rfl
  ·exact⟨⟨_,rfl⟩,fr,ss,by lia,hDx⟩
 ·rintro σ Hx ⟨_,fr,ss,hs,hDx⟩;rw[lqm]at hs;refine⟨o,fr _ _ (by trivial) zb1,?_⟩;have f1:FrS [] H (upd Hx en (.dK kv)):=FrS.thaw hen fr;have S1:=S.fr0 f1;have hD1:upd Hx en (.dK kv) Dl=some (.lst (ss.map V.str)):=by rw[zb5 hDe];exact hDx
  generalize upd Hx en (.dK kv)=H1 at f1 S1 hD1;have last:∀(H2:Hp)(t2:Int),Sit H2 hd en wd WA D t2 r->FrS (Ms hd en WA) H H2->FrS [hd] H H2->t2<=t+1->
    tRet (zn6 (spOf K) [] E (zc5 (tVar 0) (zc5 (tOp rCat (yt6 (tVar 1) (tC (.str "vars"))) (tCB (fun xs H Q=>∃p kvs,xs=[.ref p]/\Rd H p (.dK kvs)/\∀l,H l=none->Q (.ref l) (upd H l (.lst (kvs.map fun kv=>kV kv.1)))) (zc5 (tVar 2) tNil))) tNil))) ⟨fun _ H=>Q .non H,Q,fun _ _=>False,fun _ _=>False⟩ [some (.ref hd),some (.ref wd),some (.ref en),some (.ref Dl)] H2:=by
   intro H2 t2 S2 f2 f2' ht2;obtain⟨kv2,hen2,hk2⟩:=S2.env;obtain⟨us2,eu2,eul2,_⟩:=hk2.strs;have hkl2:=hk2.len;refine⟨_,rfl,_,rfl,wd,_,rfl,S2.w.g.2.2.2.2.2.1,_,rfl,en,kv2,rfl,.inl hen2,fun l hl=>?_⟩;have S3:=S2.fr0 (FrS.new (S:=[]) (o:=.lst (kv2.map fun kv=>kV kv.1)) hl);refine⟨WA.vars,l,_,_,rfl,rfl,S3.w.vars.2,zb1,?_,fun p hp=>?_⟩
   ·rw[lqm,lqm,S.ok.v4];exact ws3 (s1 (by lia))
   ·have S4:=S3.fr0 (FrS.new (S:=[]) (o:=.lst (D.vars.map V.str++kv2.map fun kv=>kV kv.1)) hp);rw[eu2,←wr9]at S4 ⊢;rw[eu2]at hp;obtain⟨d,m,hh⟩:=S4.hand;refine⟨hd,p,d,m,t2,r,_,rfl,hh,by lia,zj3 (ss:=D.vars++us2) zb1 hh,SqL.of zb1,?_,?_,fun x d' m' t' hx c e=>?_⟩
    ·intro z;have:=wx5 List.length z;rw[lqm,wr2,S.ok.v4,vb9]at this;lia
    ·rw[lqm,wr2,S.ok.v4];lia
    obtain⟨y,hy,rfl⟩:=ws2.mp hx;refine q y _ t' (S4.setHand c) ?_ (by lia) ?_
    ·exact(f2.trans ((FrS.new hl).trans (FrS.new hp))).put' (by trivial)
    ·exact(f2'.trans ((FrS.new hl).trans (FrS.new hp))).put' (by trivial)
  refine⟨_,rfl,wt6 _,fun pe hpe=>?_⟩;have S2:=S1.fr0 (FrS.new (S:=[]) (o:=.lst []) hpe);have hDp:Dl≠pe:=zb4 hD1 hpe;refine⟨Dl,pe,_,rfl,rfl,hDp,SqL.of (by rw[zb5 hDp];exact hD1),SqL.of zb1,_,rfl,?_⟩;have f2:FrS (Ms hd en WA) H (upd H1 pe (.lst [])):=(f1.trans (FrS.new hpe)).mono (by trivial);have f2':FrS [hd] H (upd H1 pe (.lst [])):=(f1.trans (FrS.new hpe)).mono (by trivial);cases ss with
  | nil=>exact last _ t S2 f2 f2' (by lia)
  | cons y ys=>
   obtain⟨d,m,hh⟩:=S2.hand;refine⟨_,rfl,hd,d,m,t,r,4,rfl,hh,by lia,by decide,by decide,fun x d' m' t3 x0 x1 c e=>⟨_,_,rfl,rfl,_,rfl,?_⟩⟩;have S3:=S2.setHand (r':=r) c;have f3:=f2.put' (a:=hd) (o:=hl d' m' t3 r) (by trivial);have f3':=f2'.put' (a:=hd) (o:=hl d' m' t3 r) (by trivial);have hDh:Dl≠hd:=zj3 (ss:=y::ys) (by rw[zb5 hDp];exact hD1) hh;refine ite2 (fun c=>?_) (fun c=>?_)
   ·obtain⟨d,m,hh⟩:=S3.hand;refine⟨_,rfl,_,rfl,hd,Dl,d,m,t3,r,_,rfl,hh,by lia,hDh,SqL.of (by rw[zb5 hDh,zb5 hDp];exact hD1),by simp,by rw[lqm];lia,fun x d' m' t' hx c e=>?_⟩;obtain⟨y,hy,rfl⟩:=ws2.mp hx;exact q y _ t' (S3.setHand c) (f3.put' (by trivial)) (by lia) (f3'.put' (by trivial))
   ·exact last _ t3 S3 f3 f3' e
def Tup(H H':Hp):Prop:=∀b xs,H b=some (.tup xs)->H' b=some (.tup xs)
theorem Tup.trans{A B C:Hp}(f:Tup A B)(g:Tup B C):Tup A C:=fun b xs h=>g b xs (f b xs h)
theorem Tup.of0{H H':Hp}(f:FrS [] H H'):Tup H H':=fun b _ h=>f b _ wr0 h
theorem Tup.new{H:Hp}{p:Addr}{o:HO}(hp:H p=none):Tup H (upd H p o):=fun b xs h=>by
 rw[zb5 (zb4 h hp)];exact h
theorem Tup.lst{H:Hp}{p:Addr}{o:HO}{ys:List V}(hp:H p=some (.lst ys)):Tup H (upd H p o):=fun b xs h=>by
 rw[zb5 (fun z=>by rw[z,hp]at h;cases h)];exact h
theorem FrS.tup{M:List Addr}{H H':Hp}(f:FrS M H H')(hm:∀b∈M,∀xs,H b≠some (.tup xs)):Tup H H':=fun b xs h=>f b _ (fun z=>hm b z xs h) h
theorem Sit.notup{H:Hp}{hd en wd:Addr}{A:WA}{D:WD}{t r:Int}(S:Sit H hd en wd A D t r):∀b∈Ms hd en A,∀xs,H b≠some (.tup xs):=by
 obtain⟨⟨d,m,h1,h1'⟩,⟨k1,e1,e1'⟩,⟨k2,e2,e2'⟩,⟨k3,e3,e3'⟩,w,nd,wok⟩:=S;intro b hb xs;simp only[Ms,ws5,wr0,vb0]at hb;rcases hb with rfl | rfl | rfl | rfl
 ·rw[h1];intro z;cases z
 ·rw[e1];intro z;cases z
 ·rw[e2];intro z;cases z
 ·rw[e3];intro z;cases z
theorem Sit.tup{H H':Hp}{hd en wd:Addr}{A:WA}{D:WD}{t r:Int}(S:Sit H hd en wd A D t r)(f:FrS (Ms hd en A) H H'):Tup H H':=FrS.tup f S.notup
inductive PlainR(H:Hp)(a:Addr):Prop
 | mk(w:Str)(rest:List V)(h:H a=some (.tup (.str w::rest)))(n1:w≠"call")(n2:w≠"either")(n3:w≠"again")(m:w="make"->∃x k:Str,rest=[.str x,.str k]):PlainR H a
inductive CallR(Z:Str->Str->Prop)(H:Hp)(a:Addr):Prop
 | mk(x y k d:Str)(g:Addr)(ss:List Str)(h:H a=some (.tup [.str "call",.str x,.str y,.str k,.str d,.ref g]))(hg:H g=some (.tup (ss.map V.str)))(hl:ss.length<=1000)(hz:Z k d):CallR Z H a
theorem PlainR.keep{H H':Hp}{a:Addr}(h:PlainR H a)(f:Tup H H'):PlainR H' a:=by
 obtain⟨w,rest,h,n1,n2,n3,m⟩:=h;exact⟨w,rest,f _ _ h,n1,n2,n3,m⟩
theorem CallR.keep{H H':Hp}{a:Addr}(h:CallR Z H a)(f:Tup H H'):CallR Z H' a:=by
 obtain⟨x,y,k,d,g,ss,h,hg,hl,hz⟩:=h;exact⟨x,y,k,d,g,ss,f _ _ h,f _ _ hg,hl,hz⟩
def Row1(Z:Str->Str->Prop)(H:Hp)(a:Addr):Prop:=PlainR H a∨CallR Z H a
inductive Fl(Z:Str->Str->Prop)(H:Hp):Nat->List Addr->List Addr->Prop
 | nil {n:Nat}:Fl Z H n [] []
 | one {n:Nat} {a:Addr} {rs fs:List Addr} (h:Row1 Z H a) (t:Fl Z H n rs fs):Fl Z H n (a::rs) (a::fs)
 | again {n:Nat} {a l:Addr} {rs1 fs1 rs fs:List Addr} (h:H a=some (.tup [.str "again",.ref l])) (hl:H l=some (.tup (rs1.map V.ref))) (s:Fl Z H n rs1 fs1) (t:Fl Z H (n+1) rs fs):Fl Z H (n+1) (a::rs) (a::(fs1++fs))
 | either {n:Nat} {a l1 l2:Addr} {rs1 fs1 rs2 fs2 rs fs:List Addr} (h:H a=some (.tup [.str "either",.ref l1,.ref l2])) (h1:H l1=some (.tup (rs1.map V.ref))) (h2:H l2=some (.tup (rs2.map V.ref))) (s1:Fl Z H n rs1 fs1) (s2:Fl Z H n rs2 fs2) (t:Fl Z H (n+1) rs fs):Fl Z H (n+1) (a::rs) (a::(fs1++(fs2++fs)))
theorem Fl.keep{H H':Hp}{n:Nat}{rs fs:List Addr}(h:Fl Z H n rs fs)(f:Tup H H'):Fl Z H' n rs fs:=by
 induction h with
 | nil=>exact .nil
 | one h _ ih=>exact .one (h.imp (·.keep f) (·.keep f)) ih
 | again h hl _ _ i1 i2=>exact .again (f _ _ h) (f _ _ hl) i1 i2
 | either h h1 h2 _ _ _ i1 i2 i3=>exact .either (f _ _ h) (f _ _ h1) (f _ _ h2) i1 i2 i3
theorem Fl.app{H:Hp}{n:Nat}{rs fs rs' fs':List Addr}(h:Fl Z H n rs fs)(g:Fl Z H n rs' fs'):Fl Z H n (rs++rs') (fs++fs'):=by
 induction h with
 | nil=>exact g
 | one h _ ih=>exact .one h (ih g)
 | again h hl s _ i1 i2=>
  have:=Fl.again h hl s (i2 g);rw[←wt7]at this;exact this
 | either h h1 h2 s1 s2 _ i1 i2 i3=>
  have:=Fl.either h h1 h2 s1 s2 (i3 g);simpa [wt7]using this
theorem Fl.len{H:Hp}{n:Nat}{rs fs:List Addr}(h:Fl Z H n rs fs):rs.length<=fs.length:=by
 induction h with
 | nil=>exact wr5 _
 | one h _ ih=>exact Nat.succ_le_succ ih
 | again h hl s _ i1 i2=>rw[wt3,wt3,wr2];lia
 | either h h1 h2 s1 s2 _ i1 i2 i3=>rw[wt3,wt3,wr2,wr2];lia
inductive RowIs(Z:Str->Str->Prop)(H:Hp)(a:Addr):Prop
 | mk(w:Str)(rest:List V)(h:H a=some (.tup (.str w::rest)))(c:w="call"->CallR Z H a)(m:w="make"->∃x k:Str,rest=[.str x,.str k]):RowIs Z H a
theorem RowIs.keep{H H':Hp}{a:Addr}(h:RowIs Z H a)(f:Tup H H'):RowIs Z H' a:=by
 obtain⟨w,rest,h,c,m⟩:=h;exact⟨w,rest,f _ _ h,fun e=>(c e).keep f,m⟩
theorem Row1.is{H:Hp}{a:Addr}(h:Row1 Z H a):RowIs Z H a:=by
 rcases h with ⟨w,rest,h,n1,_,_,m⟩ | ⟨x,y,k,d,g,ss,h,hg,hl,hz⟩
 ·exact⟨w,rest,h,fun e=>absurd e n1,m⟩
 ·exact⟨_,_,h,fun _=>⟨x,y,k,d,g,ss,h,hg,hl,hz⟩,fun e=>absurd e (by decide +kernel)⟩
theorem Fl.is{H:Hp}{n:Nat}{rs fs:List Addr}(h:Fl Z H n rs fs):∀a∈fs,RowIs Z H a:=by
 have na:("again":Str)≠"call":=by decide +kernel
 have ne:("either":Str)≠"call":=by decide +kernel
 induction h with
 | nil=>intro a h;cases h
 | one h _ ih=>
  intro a ha;cases ha with
  | head=>exact h.is
  | tail _ ha=>exact ih a ha
 | again h hl s _ i1 i2=>
  intro a ha;cases ha with
  | head=>exact⟨_,_,h,fun e=>absurd e na,fun e=>absurd e (by decide +kernel)⟩
  | tail _ ha=>exact(wt9.mp ha).elim (i1 a) (i2 a)
 | either h h1 h2 s1 s2 _ i1 i2 i3=>
  intro a ha;cases ha with
  | head=>exact⟨_,_,h,fun e=>absurd e ne,fun e=>absurd e (by decide +kernel)⟩
  | tail _ ha=>exact(wt9.mp ha).elim (i1 a) fun ha=>(wt9.mp ha).elim (i2 a) (i3 a)
inductive Lots(Z:Str->Str->Prop)(H:Hp)(n:Nat):List Addr->List Addr->Prop
 | nil:Lots Z H n [] []
 | snoc {ls fs:List Addr} {l:Addr} {rs f1:List Addr} (h:Lots Z H n ls fs) (hl:H l=some (.tup (rs.map V.ref))) (s:Fl Z H n rs f1):Lots Z H n (ls++[l]) (fs++f1)
theorem Lots.keep{H H':Hp}{n:Nat}{ls fs:List Addr}(h:Lots Z H n ls fs)(f:Tup H H'):Lots Z H' n ls fs:=by
 induction h with
 | nil=>exact .nil
 | snoc _ hl s ih=>exact ih.snoc (f _ _ hl) (s.keep f)
theorem Lots.zero{H:Hp}{n:Nat}{ls fs:List Addr}(h:Lots Z H n ls fs)(e:ls.length=0):ls=[]/\fs=[]:=by
 cases h with
 | nil=>exact⟨rfl,rfl⟩
 | snoc h hl s=>rw[wr2,ws8]at e;lia
theorem Lots.one{H:Hp}{n:Nat}{ls fs:List Addr}(h:Lots Z H n ls fs)(e:ls.length=1):∃l rs,ls=[l]/\H l=some (.tup (rs.map V.ref))/\Fl Z H n rs fs:=by
 cases h with
 | nil=>cases e
 | snoc h hl s=>
  rw[wr2,ws8]at e;obtain⟨rfl,rfl⟩:=h.zero (by lia);exact⟨_,_,rfl,hl,s⟩
theorem Lots.two{H:Hp}{n:Nat}{ls fs:List Addr}(h:Lots Z H n ls fs)(e:ls.length=2):∃l1 rs1 f1 l2 rs2 f2,ls=[l1,l2]/\fs=f1++f2/\H l1=some (.tup (rs1.map V.ref))/\Fl Z H n rs1 f1/\H l2=some (.tup (rs2.map V.ref))/\Fl Z H n rs2 f2:=by
 cases h with
 | nil=>cases e
 | snoc h hl s=>
  rw[wr2,ws8]at e;obtain⟨l1,rs1,rfl,a,b⟩:=h.one (by lia);exact⟨l1,rs1,_,_,_,_,rfl,rfl,a,b,hl,s⟩
theorem Lots.row{H:Hp}{n:Nat}{ls fs:List Addr}{a:Addr}{w:Str}(h:Lots Z H n ls fs)(ha:H a=some (.tup (.str w::ls.map V.ref)))(e:ls.length=1/\w="again"∨ls.length=2/\w="either"):Fl Z H (n+1) [a] (a::fs):=by
 rcases e with ⟨e,rfl⟩ | ⟨e,rfl⟩
 ·obtain⟨l,rs,rfl,b,s⟩:=h.one e;have:=Fl.again (rs:=[]) (fs:=[]) ha b s .nil;rwa [wx1]at this
 ·obtain⟨l1,rs1,f1,l2,rs2,f2,rfl,rfl,b1,s1,b2,s2⟩:=h.two e;have:=Fl.either (rs:=[]) (fs:=[]) ha b1 b2 s1 s2 .nil;rwa [wx1]at this
inductive SpTgt(vs:List V)(H:Hp)(Q:VK):Prop
 | mk(hd en wd:Addr)(A:WA)(D:WD)(t r:Int)(h1:vs=[.ref hd,.ref wd,.ref en])(h2:Sit H hd en wd A D t r)(h3:t+1<1000000)(h4:∀(x:Str)(H':Hp)(t':Int),x∈D.U->Sit H' hd en wd A D t' r->FrS (Ms hd en A) H H'->t'<=t+1->FrS [hd] H H'->Q (.str x) H'):SpTgt  vs H Q
def yt7:Sp:=fun vs H Q _=>SpTgt  vs H Q
theorem scTgt:zd1 ["_law_hand_here","_law_world_here","_law_env"] ["_law_hand_here","_law_world_here","_law_env"] (zc2 sTgt):=⟨rfl,rfl,rfl,by decide +kernel,rfl,by decide +kernel,by decide +kernel⟩
theorem ok_tgt{k:Nat}(F:Fun K "_law_target" "_law_target" sTgt f fd)(O:Cal P w K mg base k "_law_of" ["_law_hand_here","_law_some"] (spOf K)):
  FnOk P w K mg base CX0 (k+1) f fd ["_law_hand_here","_law_world_here","_law_env"] yt7:=by
 obtain⟨g2,gd2,GO,bO,kO,mO⟩:=O.ex;refine F.ok scTgt (fun vs H Q E h=>?_) (fun cdv A outer s H vs Q E hr h=>?_)
 ·obtain⟨hd,en,wd,A,D,t,r,rfl,_⟩:=h;rfl
 obtain⟨hd,en,wd,WA,D,t,r,rfl,S,ht,q⟩:=h;have hu:=zn1 hr;have nd2:(["_law_x","_law_world_here"]:List Str).Nodup:=by decide +kernel
 refine⟨_,zb7 (zd0 (zb8 GO hr rfl mO kO bO .nil zc6 (zb0 (pv 0) (zb0 (zf4 yf7 (zc9 hu (pv 1) zd4 (fun _ _=>rfl))
   (xn4 (zh4 (N':=["_law_x","_law_world_here"]) (src:=[none,some 1]) rfl ⟨rfl,by decide +kernel,by decide +kernel,rfl,rfl,rfl⟩
   (yj1 (pv 2)) (g:=zd9 0) (fun _ _ _ _=>zb9 (i:=0) nd2 rfl (wt1 rfl) (wz3 rfl))
   (fun _ _ _ _=>zm7 (zc4 (show OpR _ _ (rIn K false) from zg6) (pv 0) (zc9 hu (pv 1) zd4 (fun _ _=>rfl)) rfl)) (fun _ _ _ _=>pv 0)))) zb2)))),?_⟩
 first | dsimp only[cxOf,Cx.nox] | skip
 have s1:∀{n:Nat},n<=1000->n<sizeLine:=fun h=>zc0 h;obtain⟨kv,hen,hk⟩:=S.env;have hU:D.U.length=9:=by unfold WD.U;rw[wt3,wr2,S.ok.v4,S.ok.p4]
 have hkl:=hk.len;obtain⟨us,eu,eul,hum⟩:=hk.strs;refine⟨_,rfl,_,rfl,wd,_,rfl,S.w.g.2.2.2.2.2.1,en,kv,hen,?_⟩;refine⟨_,rfl,en,kv,rfl,hen,fun o Dl hDl=>?_⟩;have hDe:Dl≠en:=fun z=>by rw[z,zb1]at hDl;cases hDl
 have hD0:H Dl=none:=by rw[zb5 hDe]at hDl;exact hDl
 have hwe:wd≠en:=fun z=>by obtain⟨kvs,⟨hn,_⟩,_⟩:=S.w.k;exact hn (by rw[z];simp)
 refine yj9 (xs:=kv.map fun p=>kV p.1) (fun i σ Hx=>(∃x,σ=[x,some (.ref wd)])/\FrS [] (upd H en (.frz o (.dK kv))) Hx/\∃ss:List Str,ss.length<=i/\(∀x∈ss,x∈D.U)/\Hx Dl=some (.lst (ss.map V.str))) ⟨⟨_,rfl⟩,(FrS.refl).put hDl,[],by simp,by simp,zb1⟩ ?_ ?_ ?_
 ·rintro i σ Hx hi ⟨_,fr,_⟩;exact fr _ _ (by trivial) zb1
 ·rintro i x σ Hx hx ⟨⟨x0,rfl⟩,fr,ss,hs,hsm,hDx⟩;rw[eu]at hx;obtain⟨hi,_⟩:=wr1.mp hx;rw[lqm]at hi;rw[wr3,wq9 hi]at hx;cases hx;have fr2:FrS (Ms hd en WA) H Hx:=fun b u n e=>fr b u (by trivial) (by rw[zb5 (fun z=>n (by rw[z];simp))];exact e)
  have W2:=S.w.keep fr2;refine⟨_,rfl,_,rfl,wd,_,rfl,W2.g.2.2.2.2.2.2.1,WA.params,_,rfl,.inl (SqL.of W2.params.2),rfl,zf8 _,_,rfl,?_⟩;refine ite2 (fun c=>?_) (fun c=>?_)
  ·refine⟨_,rfl,_,hDx,by rw[lqm];exact s1 (by lia),⟨_,rfl⟩,fr.put hDl,ss++[us[i]],?_,?_,?_⟩
   ·rw[wr2,ws8];lia
   ·intro x hx;rcases wt9.mp hx with hx | hx
    ·exact hsm x hx
    ·rw[wv1.mp hx];exact hum _ (ww5 hi)
   ·rw[zb1,wr9];rfl
  ·exact⟨⟨_,rfl⟩,fr,ss,by lia,hsm,hDx⟩
 ·rintro σ Hx ⟨_,fr,ss,hs,hsm,hDx⟩;rw[lqm]at hs;refine⟨o,fr _ _ (by trivial) zb1,?_⟩;have f1:FrS [] H (upd Hx en (.dK kv)):=FrS.thaw hen fr;have S1:=S.fr0 f1;have hD1:upd Hx en (.dK kv) Dl=some (.lst (ss.map V.str)):=by rw[zb5 hDe];exact hDx
  refine⟨WA.vars,Dl,_,_,rfl,rfl,S1.w.vars.2,hD1,?_,fun p hp=>?_⟩
  ·rw[lqm,lqm,S.ok.v4];exact ws3 (s1 (by lia))
  ·have S4:=S1.fr0 (FrS.new (S:=[]) (o:=.lst (D.vars.map V.str++ss.map V.str)) hp);rw[←wr9]at S4 ⊢;obtain⟨d,m,hh⟩:=S4.hand;refine⟨hd,p,d,m,t,r,_,rfl,hh,by lia,zj3 (ss:=D.vars++ss) zb1 hh,SqL.of zb1,?_,?_,fun x d' m' t' hx c e=>?_⟩
   ·intro z;have:=wx5 List.length z;rw[lqm,wr2,S.ok.v4,vb9]at this;lia
   ·rw[lqm,wr2,S.ok.v4];lia
   obtain⟨y,hy,rfl⟩:=ws2.mp hx;refine q y _ t' ?_ (S4.setHand c) ?_ (by lia) ?_
   ·rcases wt9.mp hy with hy | hy
    ·unfold WD.U;simp[hy]
    ·exact hsm y hy
   ·exact((f1.trans (FrS.new hp)).mono (by trivial)).put' (by trivial)
   ·exact((f1.trans (FrS.new hp)).mono (by trivial)).put' (by trivial)
theorem zt1{H1:Hp}{tp:Addr}{ts:List Addr}{tr:Tr}{Dl:Addr}(ht:H1 tp=some (.lst (ts.map V.ref)))(hl:ts.length=tr.length)(h3:∀(j:Nat) t x,ts[j]?=some t->tr[j]?=some x->H1 t=some (.tup [.str x.1,eldV x.2]))(hD:H1 Dl=none)(h12:tr.length<=1000)
  {Q:Hp->Prop} (q:∀H',FrS [] H1 H'->H' Dl=some (.lst ((tr.map (·.1)).map V.str))->Q H'):yd7 (Itl K tp) (gTup K 2 (zk6 (zd9 0) (zk6 (zd9 1) gNil))) tAll (tVar 0) Dl [none,none] (upd H1 Dl (.lst [])) Q:=by
 refine zh0 (xs:=ts.map V.ref) (fun i σ Hx=>(∃x y,σ=[x,y])/\FrS [] H1 Hx/\Hx Dl=some (.lst (((tr.take i).map (·.1)).map V.str))) ⟨⟨_,_,rfl⟩,(FrS.refl).put hD,zb1⟩ ?_ ?_ ?_
 ·rintro i σ Hx hi ⟨_,fr,_⟩;exact SqL.of (fr _ _ (by trivial) ht)
 ·rintro i x σ Hx hx ⟨⟨x0,y0,rfl⟩,fr,hDx⟩;rw[wr3]at hx;obtain⟨t,htt,rfl⟩:=wr6.mp hx;obtain⟨hi,_⟩:=wr1.mp htt;have htr:tr[i]?=some tr[i]:=wq9 (by lia);have e:=h3 i t _ htt htr;refine⟨t,_,rfl,SqT.of (fr _ _ (by trivial) e),rfl,_,_,rfl,_,_,rfl,rfl,?_⟩;refine⟨_,rfl,_,hDx,?_,⟨_,_,rfl⟩,fr.put hD,?_⟩
  ·rw[lqm,lqm,wt4];exact zc0 (by lia)
  ·rw[zb1,ws7,htr,wr9,wr9];rfl
 ·rintro σ Hx ⟨_,fr,hDx⟩;rw[wr8 (by rw[lqm];lia)]at hDx;exact q Hx fr hDx
inductive wb1(vs:List V)(H:Hp)(Q:VK):Prop
 | mk(hd en wd:Addr)(A:WA)(D:WD)(t r:Int)(h1:vs=[.ref hd,.ref wd,.ref en])(h2:Sit H hd en wd A D t r)(h3:t+3<1000000)(h4:∀(x:Addr)(H':Hp)(t':Int),PlainR H' x->Sit H' hd en wd A D t' r->FrS (Ms hd en A) H H'->t'<=t+3->Q (.ref x) H'):wb1  vs H Q
def yx8:Sp:=fun vs H Q _=>wb1  vs H Q
abbrev nMake:List Str:=["_law_hand_here","_law_world_here","_law_env","_law_names","_law_soon","_law_kind","_law_x"]
theorem yn3:zd1 nMake ["_law_hand_here","_law_world_here","_law_env"] (zc2 wh9):=⟨rfl,rfl,rfl,by decide +kernel,rfl,by decide +kernel,by decide +kernel⟩
theorem wj9{k:Nat}(F:Fun K "_law_make" "_law_make" wh9 f fd)(T:Cal P w K mg base k "_law_take" ["_law_hand_here","_law_many"] zj0)(O:Cal P w K mg base k "_law_of" ["_law_hand_here","_law_some"] (spOf K))(G:Cal P w K mg base k "_law_target" ["_law_hand_here","_law_world_here","_law_env"] yt7):
  FnOk P w K mg base CX0 (k+1) f fd ["_law_hand_here","_law_world_here","_law_env"] yx8:=by
 obtain⟨g,gd,GT,bT,kT,mT⟩:=T.ex;obtain⟨g2,gd2,GO,bO,kO,mO⟩:=O.ex;obtain⟨g3,gd3,GG,bG,kG,mG⟩:=G.ex;refine F.ok yn3 (fun vs H Q E h=>?_) (fun cdv A outer s H vs Q E hr h=>?_)
 ·obtain⟨hd,en,wd,A,D,t,r,rfl,_⟩:=h;rfl
 obtain⟨hd,en,wd,WA,D,t,r,rfl,S,ht,q⟩:=h;have hu:=zn1 hr;have nd2:(["_law_name","_law_elder"]:List Str).Nodup:=by decide +kernel
 have nd3:(["_law_name","_law_world_here"]:List Str).Nodup:=by decide +kernel
 refine⟨_,zb3 (zh1 (i:=3) (N':=["_law_name","_law_elder"]) (src:=[none,none]) rfl yn3.nd rfl rfl ⟨rfl,by decide +kernel,by decide +kernel,rfl,rfl,rfl⟩
   (zf7 (zc9 hu (pv 1) zd4 (fun _ _=>rfl))) (g:=gTup K 2 (zk6 (zd9 0) (zk6 (zd9 1) gNil))) (fun _ _ _ _=>zh8 (n:=2) rfl (zc1 (zb9 (i:=0) nd2 rfl (wt1 rfl) (wz3 rfl)) (zc1 (zb9 (i:=1) nd2 rfl (wt1 rfl) (wz3 rfl)) zg2)))
   (fun _ _ _ _=>zg5) (fun _ _ _ _=>pv 0))
  (zb3 (zh1 (i:=4) (N':=["_law_name","_law_world_here"]) (src:=[none,some 1]) rfl yn3.nd rfl rfl ⟨rfl,by decide +kernel,by decide +kernel,rfl,rfl,rfl⟩
   (zf7 (pv 3)) (g:=zd9 0) (fun _ _ _ _=>zb9 (i:=0) nd3 rfl (wt1 rfl) (wz3 rfl))
   (fun _ _ _ _=>zm7 (zc4 (show OpR _ _ (rIn K true) from zm1) (pv 0) (zc9 hu (pv 1) zd4 (fun _ _=>rfl)) rfl)) (fun _ _ _ _=>pv 0))
  (zb3 (zc3 (i:=5) yn3.nd rfl (wt1 rfl) (zb8 GO hr rfl mO kO bO .nil zc6 (zb0 (pv 0) (zb0 (eI (zd7 (zb0 (pv 4) (zb0 (pv 4) (zb0 (pv 3) zb2)))) (zb8 GT hr rfl mT kT bT .nil zc6 (zb0 (pv 0) (zb0 zb6 zb2)))) zb2))))
  (zb3 (zc3 (i:=6) yn3.nd rfl (wt1 rfl) (zb8 GG hr rfl mG kG bG .nil zc6 (zb0 (pv 0) (zb0 (pv 1) (zb0 (pv 2) zb2)))))
  (zb3 (zn8 hu (pv 2) (pv 6) (pv 5) rfl)
  (zb7 (zd0 (zf0 (zb0 zd4 (zb0 (pv 6) (zb0 (pv 5) zb2))))))))))
  ,?_⟩
 first | dsimp only[cxOf,Cx.nox] | skip
 have s1:∀{n:Nat},n<=1000->n<sizeLine:=fun h=>zc0 h;have hU:D.U.length=9:=by unfold WD.U;rw[wt3,wr2,S.ok.v4,S.ok.p4]
 have h12:=S.ok.l12;obtain⟨ts,t1,t2,t3⟩:=S.w.tree;refine⟨_,rfl,wd,_,rfl,S.w.g.1,WA.tree,rfl,⟨_,SqL.of t1.2⟩,fun Dn hDn=>?_⟩;refine zt1 (tr:=D.tr) t1.2 t2 (fun j t x a b=>(t3 j t x a b).2) hDn (by lia) fun H1 f1 hn1=>?_
 have S1:=S.fr0 f1;refine⟨_,rfl,Dn,rfl,⟨_,SqL.of hn1⟩,fun Ds hDs=>?_⟩;have hnD:Dn≠Ds:=zb4 hn1 hDs;refine zh0 (xs:=(D.tr.map (·.1)).map V.str) (fun i σ Hx=>(∃x,σ=[x,some (.ref wd)])/\FrS [] H1 Hx/\Hx Ds=some (.lst ((((D.tr.map (·.1)).take i).filter fun x=>decide (x∉D.late)).map V.str))) ⟨⟨_,rfl⟩,(FrS.refl).put hDs,zb1⟩ ?_ ?_ ?_
 ·rintro i σ Hx hi ⟨_,fr,_⟩;exact SqL.of (fr _ _ (by trivial) hn1)
 ·rintro i x σ Hx hx ⟨⟨x0,rfl⟩,fr,hDx⟩;obtain⟨hi,_⟩:=wr1.mp hx;rw[lqm]at hi;rw[wr3,wq9 hi]at hx;cases hx;have S2:=S1.fr0 fr;have hi':=hi;rw[lqm]at hi';have hlf:(((D.tr.map (·.1)).take i).filter fun x=>decide (x∉D.late)).length<=12:=by
   have:=vc3 (fun x=>decide (x∉D.late)) ((D.tr.map (·.1)).take i);rw[wt4,lqm]at this;lia
  refine⟨_,rfl,_,rfl,wd,_,rfl,S2.w.g.2.1,WA.late,_,rfl,.inl (SqL.of S2.w.late.2),rfl,zf8 _,_,rfl,?_⟩;have ef:((D.tr.map (·.1)).take (i+1)).filter (fun x=>decide (x∉D.late))=((D.tr.map (·.1)).take i).filter (fun x=>decide (x∉D.late))++[(D.tr.map (·.1))[i]].filter (fun x=>decide (x∉D.late)):=by
   rw[ws7,wq9 hi,vk6];rfl
  rw[zj8];refine ite2 (fun c0=>?_) (fun c0=>?_)
  rotate_left
  ·have c:(D.tr.map (·.1))[i]∈D.late:=by simpa using c0
   refine⟨⟨_,rfl⟩,fr,?_⟩;rw[ef,vg0 (by simpa using c),vd0,wx1];exact hDx
  ·have c:(D.tr.map (·.1))[i]∉D.late:=by simpa using c0
   refine⟨_,rfl,_,hDx,by rw[lqm];exact s1 (by lia),⟨_,rfl⟩,fr.put hDs,?_⟩;rw[zb1,ef,vg1 (by simpa using c),vd0,wr9];rfl
 rintro σ H2 ⟨_,f2,hs2⟩;rw[lqm,wr8 (wr5 _)]at hs2;have S2:=S1.fr0 f2;have hn2:=f2 _ _ (by trivial) hn1;obtain⟨x1,hx1,hx1l⟩:=S.ok.soon;have hsne:((D.tr.map (·.1)).filter fun x=>decide (x∉D.late))≠[]:=fun z=>by
  have:x1∈((D.tr.map (·.1)).filter fun x=>decide (x∉D.late)):=wx8.mpr ⟨hx1,by simp[hx1l]⟩;rw[z]at this;cases this
 have hnne:D.tr.map (·.1)≠[]:=fun z=>by
  have:x1∈D.tr.map (·.1):=hx1;rw[z]at this;cases this
 have hlf:((D.tr.map (·.1)).filter fun x=>decide (x∉D.late)).length<=12:=by
  have:=vc3 (fun x=>decide (x∉D.late)) (D.tr.map (·.1));rw[lqm]at this;lia
 generalize hss:((D.tr.map (·.1)).filter fun x=>decide (x∉D.late))=ss at hs2 hsne hlf;have hsm:∀x∈ss,x∈D.names:=fun x hx=>by rw[←hss]at hx;exact(wx8.mp hx).1
 have fr02:FrS (Ms hd en WA) H H2:=(f1.trans f2).mono (by trivial);refine⟨_,rfl,_,rfl,_,rfl,_,rfl,by show 3<=sizeLine;exact ws3 (s1 (by decide)),fun pc hpc=>?_⟩;have S3:=S2.fr0 (FrS.new (S:=[]) (o:=.lst [.ref Ds,.ref Ds,.ref Dn]) hpc);obtain⟨d,m,hh⟩:=S3.hand;refine⟨_,rfl,hd,d,m,t,r,3,rfl,hh,by lia,by decide,by decide,fun x d' m' t4 x0 x1 c e=>?_⟩;have S4:=S3.setHand (r':=r) c;have hph:pc≠hd:=fun z=>by have:=hh.1;rw[z]at *;rw[zb1]at this;cases this
 have hsd:Ds≠hd:=fun z=>by have hh2:=hh.1;rw[zb5 (vb3 hph)]at hh2;exact zj3 hs2 ⟨hh2,hh.2⟩ z
 have hnd:Dn≠hd:=fun z=>by have hh2:=hh.1;rw[zb5 (vb3 hph)]at hh2;exact zj3 hn2 ⟨hh2,hh.2⟩ z
 have hsp:Ds≠pc:=zb4 hs2 hpc;have hnp:Dn≠pc:=zb4 hn2 hpc;have fr04:=(fr02.trans (FrS.new (o:=.lst [.ref Ds,.ref Ds,.ref Dn]) hpc)).put' (a:=hd) (o:=hl d' m' t4 r) (by trivial);have go:∀(pz:Addr)(zs:List Str),pz≠hd->pz≠pc->H2 pz=some (.lst (zs.map V.str))->zs≠[]->zs.length<=12->(∀x∈zs,x∈D.names)->
   spOf K [.ref hd,.ref pz] (upd (upd H2 pc (.lst [.ref Ds,.ref Ds,.ref Dn])) hd (hl d' m' t4 r)) (fun v Hv=>tSeq (tAsg (zn6 yt7 [] E0 (zc5 (tVar 0) (zc5 (tVar 1) (zc5 (tVar 2) tNil)))) (zd9 6)) (tSeq (sDPut (tVar 2) (tVar 6) (tVar 5)) (tRet (tTup (zc5 (tC (.str "make")) (zc5 (tVar 6) (zc5 (tVar 5) tNil)))))) ⟨fun _ H=>Q .non H,Q,fun _ _=>False,fun _ _=>False⟩ [some (.ref hd),some (.ref wd),some (.ref en),some (.ref Dn),some (.ref Ds),some v,none] Hv) E0:=by
  intro pz zs h1 h2 hz hz0 hz12 hzm;obtain⟨d,m,hh⟩:=S4.hand;refine⟨hd,pz,d,m,t4,r,_,rfl,hh,by lia,h1,SqL.of (by rw[zb5 h1,zb5 h2];exact hz),by simpa using hz0,by rw[lqm];lia,fun y d5 m5 t5 hy c5 e5=>?_⟩;obtain⟨z,hz',rfl⟩:=ws2.mp hy;have S5:=S4.setHand (r':=r) c5;have fr05:=fr04.put' (a:=hd) (o:=hl d5 m5 t5 r) (by trivial);refine⟨_,rfl,_,rfl,_,rfl,hd,en,wd,WA,D,t5,r,rfl,S5,by lia,fun x6 H6 t6 hx6 S6 f6 ht6 _=>?_⟩;obtain⟨kv,hen,hk⟩:=S6.env;refine⟨_,rfl,_,rfl,_,rfl,en,_,rfl,DPut.k (k:=(Sum.inr x6:Key)) hen (s1 (by have:=hk.len;lia)),?_⟩;have S7:=S6.setEnv (hk.put hx6 (.inr ⟨z,hzm z hz',rfl⟩));have fr07:=(fr05.trans f6).put' (a:=en) (o:=.dK (putK kv (Sum.inr x6) (V.str z))) (by trivial);refine⟨_,rfl,_,rfl,by show 3<=sizeLine;exact ws3 (s1 (by decide)),fun pr hpr=>?_⟩;exact q pr _ t6 ⟨"make",_,zb1,by decide +kernel,by decide +kernel,by decide +kernel,fun _=>⟨_,_,rfl⟩⟩ (S7.fr0 (FrS.new hpr)) (fr07.trans (FrS.new hpr)) (by lia)
 have hcs:x=0∨x=1∨x=2:=by lia
 rcases hcs with rfl | rfl | rfl
 ·exact⟨pc,_,_,.ref Ds,rfl,rfl,SqL.of (by rw[zb5 hph];exact zb1),rfl,go Ds ss hsd hsp hs2 hsne hlf hsm⟩
 ·exact⟨pc,_,_,.ref Ds,rfl,rfl,SqL.of (by rw[zb5 hph];exact zb1),rfl,go Ds ss hsd hsp hs2 hsne hlf hsm⟩
 ·exact⟨pc,_,_,.ref Dn,rfl,rfl,SqL.of (by rw[zb5 hph];exact zb1),rfl,go Dn D.names hnd hnp hn2 hnne (by unfold WD.names;rw[lqm];lia) (fun x hx=>hx)⟩
abbrev wj0:Stmt:=top 29
abbrev xg6:Stmt:=top 31
inductive wc7(vs:List V)(H:Hp)(Q:VK):Prop
 | mk(hd en wd:Addr)(A:WA)(D:WD)(t r:Int)(ab dd:Str)(h1:vs=[.ref hd,.ref wd,.ref en,.str ab,.str dd])(h2:Sit H hd en wd A D t r)(h3:t+12<1000000)(h4:ab∈D.names)(h5:dd∈D.deeds)(h6:∀(x:Addr)(ss:List Str)(H':Hp)(t':Int),H' x=some (.tup (ss.map V.str))->ss.length<=1000->Sit H' hd en wd A D t' r->FrS (Ms hd en A) H H'->t'<=t+12->Q (.ref x) H'):wc7  vs H Q
def xr4:Sp:=fun vs H Q _=>wc7  vs H Q
inductive xk5(vs:List V)(H:Hp)(Q:VK):Prop
 | mk(hd en wd:Addr)(A:WA)(D:WD)(t r:Int)(h1:vs=[.ref hd,.ref wd,.ref en])(h2:Sit H hd en wd A D t r)(h3:t+7<1000000)(h4:∀(x:Addr)(H':Hp)(t':Int),PlainR H' x->Sit H' hd en wd A D t' r->FrS (Ms hd en A) H H'->t'<=t+7->Q (.ref x) H'):xk5  vs H Q
def yt4:Sp:=fun vs H Q _=>xk5  vs H Q
theorem Sit.own{H H6:Hp}{hd en wd:Addr}{A:WA}{D:WD}{t r t6 r6:Int}{pa:Addr}{o:HO}(S:Sit H hd en wd A D t r)(S6:Sit H6 hd en wd A D t6 r6)(f:FrS (Ms hd en A) H H6)(hpa:H pa=none):Sit (upd H6 pa o) hd en wd A D t6 r6/\FrS (Ms hd en A) H (upd H6 pa o):=by
 have hpaM:pa∉Ms hd en A:=S.notin hpa;have u:∀b∈Ms hd en A,upd H6 pa o b=H6 b:=fun b hb=>zb5 (fun z=>hpaM (by rw[←z];exact hb))
 have fr:FrS (Ms hd en A) H (upd H6 pa o):=f.put hpa;obtain⟨⟨d,m,h1,h1'⟩,⟨k1,e1,e1'⟩,⟨k2,e2,e2'⟩,⟨k3,e3,e3'⟩,w,nd,ok⟩:=S6;exact⟨⟨⟨d,m,(u _ (by trivial)).trans h1,h1'⟩,⟨k1,(u _ (by trivial)).trans e1,e1'⟩,⟨k2,(u _ (by trivial)).trans e2,e2'⟩,⟨k3,(u _ (by trivial)).trans e3,e3'⟩,S.w.keep fr,nd,ok⟩,fr⟩
abbrev nArgs:List Str:=["_law_hand_here","_law_world_here","_law_env","_law_above","_law_deed_here","_law_args_here","_law_kind","_law_some"]
theorem yx0:zd1 nArgs ["_law_hand_here","_law_world_here","_law_env","_law_above","_law_deed_here"] (zc2 wj0):=⟨rfl,rfl,rfl,by decide +kernel,rfl,by decide +kernel,by decide +kernel⟩
theorem wk7{k:Nat}(F:Fun K "_law_args" "_law_args" wj0 f fd)(T:Cal P w K mg base k "_law_take" ["_law_hand_here","_law_many"] zj0)(O:Cal P w K mg base k "_law_of" ["_law_hand_here","_law_some"] (spOf K))
  (V':Cal P w K mg base k "_law_variable" ["_law_hand_here","_law_world_here","_law_env"] ym5) (L:Cal P w K mg base k "_law_line" ["_law_world_here","_law_kind"] ym2) (mtu:mg "tuple"=none):
  FnOk P w K mg base CX0 (k+1) f fd ["_law_hand_here","_law_world_here","_law_env","_law_above","_law_deed_here"] xr4:=by
 obtain⟨g,gd,GT,bT,kT,mT⟩:=T.ex;obtain⟨g2,gd2,GO,bO,kO,mO⟩:=O.ex;obtain⟨g3,gd3,GV,bV,kV',mV⟩:=V'.ex;obtain⟨g4,gd4,GL,bL,kL,mL⟩:=L.ex;refine F.ok yx0 (fun vs H Q E h=>?_) (fun cdv A outer s H vs Q E hr h=>?_)
 ·obtain⟨hd,en,wd,A,D,t,r,ab,dd,rfl,_⟩:=h;rfl
 obtain⟨hd,en,wd,WA,D,t,r,ab,dd,rfl,S,ht,hab,hdd,q⟩:=h;have hu:=zn1 hr;have nd4:(["_law_x","_law_env","_law_kind","_law_world_here"]:List Str).Nodup:=by decide +kernel
 refine⟨_,zb3 (zc3 (i:=5) yx0.nd rfl (wt1 rfl) (zd7 zb2))
  (zb3 (zf9 wv0 rfl (zf7 (zc9 hu (zc9 hu (pv 1) zd4 (fun _ _=>rfl)) (zf0 (zb0 (zc9 hu (zc9 hu (pv 1) zd4 (fun _ _=>rfl)) (pv 3) (fun _ _=>rfl)) (zb0 (pv 4) zb2))) (fun _ _=>rfl))) (zb9 (i:=6) yx0.nd rfl (wz3 rfl))
   (zb3 (xp0 (zh1 (i:=7) (N':=["_law_x","_law_env","_law_kind","_law_world_here"]) (src:=[none,some 2,some 6,some 1]) rfl yx0.nd rfl rfl ⟨rfl,by decide +kernel,by decide +kernel,rfl,rfl,rfl⟩
    (yj1 (pv 2)) (g:=zd9 0) (fun _ _ _ _=>zb9 (i:=0) nd4 rfl (wt1 rfl) (wz3 rfl))
    (fun _ _ _ _=>zm7 (PW.pt (zk4 (zs5 (zt8 (zc9 hu (pv 1) (pv 0) (fun _ _=>rfl)))) (zk0 (zc4 (show OpR _ _ (rIn K false) from zg6) (pv 2) (zb8 GL hr rfl mL kL bL .nil zc6 (zb0 (pv 3) (zb0 (zc9 hu (pv 1) (pv 0) (fun _ _=>rfl)) zb2))) rfl))))) (fun _ _ _ _=>pv 0)))
   (zb7 (zh3 (PW.pt (zk4 (zc4 (zx1 (vg4 hu)) (pv 7) (zd7 zb2) (zd6 _)) (zk0 (zc4 yh6 (zb8 GT hr rfl mT kT bT .nil zc6 (zb0 (pv 0) (zb0 zb6 zb2))) zb6 (zd6 _)))))
    (zb7 (zg1 (zm9 wv2 wv6 wv7 zf5 (pv 5) (zb0 (zb8 GO hr rfl mO kO bO .nil zc6 (zb0 (pv 0) (zb0 (pv 7) zb2))) zb2))))
    (zb7 (zg1 (zm9 wv2 wv6 wv7 zf5 (pv 5) (zb0 (zb8 GV hr rfl mV kV' bV .nil zc6 (zb0 (pv 0) (zb0 (pv 1) (zb0 (pv 2) zb2)))) zb2))))))))
  (zb7 (zd0 (zd2 zd3 rfl mtu (by decide +kernel) (zb0 (pv 5) zb2))))),?_⟩
 first | dsimp only[cxOf,Cx.nox] | skip
 have s1:∀{n:Nat},n<=1000->n<sizeLine:=fun h=>zc0 h;have hU:D.U.length=9:=by unfold WD.U;rw[wt3,wr2,S.ok.v4,S.ok.p4]
 refine⟨wt6 _,fun pa hpa=>?_⟩;have S1:=S.fr0 (FrS.new (S:=[]) (o:=.lst []) hpa);obtain⟨rt,wp,ws,e1,e2,e3,e4,e5⟩:=S.w.wl ab hab dd hdd;refine⟨_,rfl,wd,_,rfl,S1.w.g.2.2.2.1,_,rfl,wd,_,rfl,S1.w.g.2.2.2.2.2.2.2.2.2.2,_,rfl,WA.roots,_,rfl,.inl ⟨_,Sum.inr ab,.inl S1.w.roots.2,rfl,e1.symm⟩,_,rfl,by show 2<=sizeLine;exact ws3 (s1 (by decide)),fun pk hpk=>?_⟩;have S2:=S1.fr0 (FrS.new (S:=[]) (o:=.tup [V.str rt,V.str dd]) hpk);have e3':=e3.keep ((FrS.new (o:=.lst []) hpa).trans (FrS.new (o:=.tup [V.str rt,V.str dd]) hpk));have hpk2:upd (upd H pa (.lst [])) pk (.tup [V.str rt,V.str dd]) pa=some (.lst []):=by rw[zb5 (zb4 (o:=.lst []) zb1 hpk)];exact zb1
 refine⟨WA.wants,.ref wp,rfl,.inr ⟨_,[Sum.inr rt,Sum.inr dd],pk,.inl S2.w.wants.2,rfl,zb1,e2.symm⟩,wp,rfl,⟨_,SqL.of e3'.2⟩,?_⟩;have f02:FrS (Ms hd en WA) H (upd (upd H pa (.lst [])) pk (.tup [V.str rt,V.str dd])):=(FrS.new hpa).trans (FrS.new hpk);generalize upd (upd H pa (.lst [])) pk (.tup [V.str rt,V.str dd])=H2 at S2 e3' hpk2 f02;have hpaM:pa∉Ms hd en WA:=S.notin hpa;refine zm4 (xs:=ws.map V.str) (fun i σ Hx=>∃(kx sx:Option V)(tx:Int)(xs:List Str),σ=[some (.ref hd),some (.ref wd),some (.ref en),some (.str ab),some (.str dd),some (.ref pa),kx,sx]/\Sit Hx hd en wd WA D tx r/\FrS (Ms hd en WA) H Hx/\tx<=t+3*i/\Hx pa=some (.lst (xs.map V.str))/\xs.length<=i) ⟨_,_,t,[],rfl,S2,f02,by lia,hpk2,by simp⟩ ?_ ?_ ?_
 ·rintro i σ Hx hi ⟨_,_,_,_,_,_,fr,_⟩;exact SqL.of (e3.keep fr).2
 ·rintro i x σ Hx hx ⟨kx,sx,tx,xs,rfl,Sx,fr,htx,hpx,hxl⟩;obtain⟨hi,_⟩:=wr1.mp hx;rw[lqm]at hi;rw[wr3,wq9 hi]at hx;cases hx;obtain⟨kv,hen,hk⟩:=Sx.env;have hkl:=hk.len;obtain⟨us,eu,eul,_⟩:=hk.strs;refine⟨en,kv,hen,?_⟩;refine⟨_,rfl,en,kv,rfl,hen,fun o Dl hDl=>?_⟩;have hDe:Dl≠en:=fun z=>by rw[z,zb1]at hDl;cases hDl
  have hD0:Hx Dl=none:=by rw[zb5 hDe]at hDl;exact hDl
  refine yj9 (xs:=kv.map fun p=>kV p.1) (fun i' σ Hy=>(∃x,σ=[x,some (.ref en),some (.str ws[i]),some (.ref wd)])/\FrS [] (upd Hx en (.frz o (.dK kv))) Hy/\∃ss:List Str,ss.length<=i'/\Hy Dl=some (.lst (ss.map V.str))) ⟨⟨_,rfl⟩,(FrS.refl).put hDl,[],by simp,zb1⟩ ?_ ?_ ?_
  ·rintro i' σ Hy hi ⟨_,fr,_⟩;exact fr _ _ (by trivial) zb1
  ·rintro i' x σ Hy hx ⟨⟨x0,rfl⟩,fry,ss,hs,hDy⟩;have hx':=hx;rw[eu]at hx;obtain⟨hi,_⟩:=wr1.mp hx;rw[lqm]at hi;rw[wr3,wq9 hi]at hx;cases hx;have hin:(Sum.inr us[i']:Key)∈kv.map (·.1):=by
    rw[wr3]at hx';obtain⟨p,hp,e⟩:=wr6.mp hx';have:p.1=Sum.inr us[i']:=by
     obtain⟨y,_,ey⟩:=hk.ks p.1 (ws2.mpr ⟨p,ws4 hp,rfl⟩);rw[ey]at e ⊢;cases e;rfl
    exact ws2.mpr ⟨p,ws4 hp,this⟩
   obtain⟨v,hv⟩:∃v,valV kv (Sum.inr us[i'])=some v:=by
    cases z:valV kv (Sum.inr us[i'])with
    | some v=>exact⟨v,rfl⟩
    | none=>exact absurd hin (zw7 z)
   have hge:∀Hz,FrS [] (upd Hx en (.frz o (.dK kv))) Hz->DGet Hz en (.str us[i']) (some v):=fun Hz fz=>.inl ⟨kv,Sum.inr us[i'],.inr ⟨o,fz _ _ (by trivial) zb1⟩,rfl,hv.symm⟩
   refine⟨_,rfl,_,rfl,en,v,rfl,hge _ fry,_,rfl,?_⟩;rcases hk.vs _ _ hv with rfl | ⟨n,hn,rfl⟩
   ·show if (!decide (V.non=V.non))=true then _ else _
    rw[wv5 (by trivial)];exact⟨⟨_,rfl⟩,fry,ss,by lia,hDy⟩
   ·show if (!decide (V.str n=V.non))=true then _ else _
    rw[ww4 (by trivial)];obtain⟨l,hl,hl12,_⟩:=wg3 S.ok hn;have fr2:FrS (Ms hd en WA) Hx Hy:=fun b u n e=>fry b u (by trivial) (by rw[zb5 (fun z=>n (by rw[z];simp))];exact e)
    refine⟨_,rfl,_,rfl,_,rfl,_,rfl,en,V.str n,rfl,hge _ fry,wd,_,WA,D,n,l,rfl,Sx.w.keep fr2,S.ok,hl,fun la Hz fz hla hlz=>?_⟩;have hDla:Dl≠la:=zb4 hDy hla;have hDz:=fz _ _ (by trivial) hDy;refine⟨la,_,rfl,.inl (SqL.of hlz),rfl,zf8 _,_,rfl,?_⟩;refine ite2 (fun c=>?_) (fun c=>?_)
    ·refine⟨_,rfl,_,hDz,by rw[lqm];exact s1 (by lia),⟨_,rfl⟩,(fry.trans fz).put hDl,ss++[us[i']],?_,?_⟩
     ·rw[wr2,ws8];lia
     ·rw[zb1,wr9];rfl
    ·exact⟨⟨_,rfl⟩,fry.trans fz,ss,by lia,hDz⟩
  ·rintro σ Hy ⟨_,fry,ss,hs,hDy⟩;rw[lqm]at hs;refine⟨o,fry _ _ (by trivial) zb1,?_⟩;have f1:FrS [] Hx (upd Hy en (.dK kv)):=FrS.thaw hen fry;have S1:=Sx.fr0 f1;have hD1:upd Hy en (.dK kv) Dl=some (.lst (ss.map V.str)):=by rw[zb5 hDe];exact hDy
   generalize upd Hy en (.dK kv)=H3 at f1 S1 hD1;have hpa3:=f1 _ _ (by trivial) hpx;refine⟨_,rfl,wt6 _,fun pe hpe=>?_⟩;have S4:=S1.fr0 (FrS.new (S:=[]) (o:=.lst []) hpe);have hDp:Dl≠pe:=zb4 hD1 hpe;have hpa4:upd H3 pe (.lst []) pa=some (.lst (xs.map V.str)):=by rw[zb5 (zb4 hpa3 hpe)];exact hpa3
   have f4:FrS (Ms hd en WA) H (upd H3 pe (.lst [])):=fr.trans ((f1.trans (FrS.new hpe)).mono (by trivial));have hD4:upd H3 pe (.lst []) Dl=some (.lst (ss.map V.str)):=by rw[zb5 hDp];exact hD1
   refine⟨Dl,pe,_,rfl,rfl,hDp,SqL.of hD4,SqL.of zb1,_,rfl,?_⟩;have hel:∀(H5:Hp)(t5:Int),Sit H5 hd en wd WA D t5 r->FrS (Ms hd en WA) H H5->t5<=tx+1->H5 pa=some (.lst (xs.map V.str))->xr8 (tBM K "list" zt5 (tVar 5) (zc5 (zn6 ym5 [] E0 (zc5 (tVar 0) (zc5 (tVar 1) (zc5 (tVar 2) tNil)))) tNil))
     ⟨fun σ Hx=>∃(kx sx:Option V)(tx:Int)(xs:List Str),σ=[some (.ref hd),some (.ref wd),some (.ref en),some (.str ab),some (.str dd),some (.ref pa),kx,sx]/\Sit Hx hd en wd WA D tx r/\FrS (Ms hd en WA) H Hx/\tx<=t+3*((i+1:Nat):Int)/\Hx pa=some (.lst (xs.map V.str))/\xs.length<=i+1,fun _ _=>False,fun _ _=>False,fun _ _=>False⟩ [some (.ref hd),some (.ref wd),some (.ref en),some (.str ab),some (.str dd),some (.ref pa),some (.str ws[i]),some (.ref Dl)] H5:=by
    intro H5 t5 S5 f5 ht5 hpa5;refine⟨_,rfl,.inl ⟨rfl,_,SqL.of hpa5⟩,_,rfl,_,rfl,_,rfl,hd,en,wd,WA,D,t5,r,rfl,S5,by lia,fun x H6 t6 S6 f6 ht6 _=>?_⟩;have hpa6:=f6 _ _ hpaM hpa5;have S7:=Sit.own (o:=.lst (xs.map V.str++[V.str x])) S S6 (f5.trans f6) hpa;exact⟨pa,_,_,rfl,rfl,hpa6,s1 (by rw[lqm];lia),_,_,t6,xs++[x],rfl,S7.1,S7.2,by lia,by rw[zb1,wr9];rfl,by rw[wr2,ws8];lia⟩
   cases ss with
   | nil=>exact hel _ tx S4 f4 (by lia) hpa4
   | cons y ys=>
    obtain⟨d,m,hh⟩:=S4.hand;refine⟨_,rfl,hd,d,m,tx,r,4,rfl,hh,by lia,by decide,by decide,fun x d' m' t5 x0 x1 c e=>⟨_,_,rfl,rfl,_,rfl,?_⟩⟩;have S5:=S4.setHand (r':=r) c;have f5:=f4.put' (a:=hd) (o:=hl d' m' t5 r) (by trivial);have hDh:Dl≠hd:=zj3 (ss:=y::ys) hD4 hh;have hph:pa≠hd:=fun z=>hpaM (by rw[z];simp)
    have hpa5:upd (upd H3 pe (.lst [])) hd (hl d' m' t5 r) pa=some (.lst (xs.map V.str)):=by rw[zb5 hph];exact hpa4
    refine ite2 (fun c=>?_) (fun c=>?_)
    ·obtain⟨d,m,hh⟩:=S5.hand;refine⟨_,rfl,.inl ⟨rfl,_,SqL.of hpa5⟩,_,rfl,_,rfl,hd,Dl,d,m,t5,r,_,rfl,hh,by lia,hDh,SqL.of (by rw[zb5 hDh];exact hD4),by simp,by rw[lqm];lia,fun x d' m' t' hx c e=>?_⟩;obtain⟨x,_,rfl⟩:=ws2.mp hx;have S7:=Sit.own (o:=.lst (xs.map V.str++[V.str x])) S (S5.setHand (r':=r) c) (f5.put' (a:=hd) (o:=hl d' m' t' r) (by trivial)) hpa;exact⟨pa,_,_,rfl,rfl,by rw[zb5 hph];exact hpa5,s1 (by rw[lqm];lia),_,_,t',xs++[x],rfl,S7.1,S7.2,by lia,by rw[zb1,wr9];rfl,by rw[wr2,ws8];lia⟩
    ·exact hel _ t5 S5 f5 e hpa5
 ·rintro σ Hx ⟨kx,sx,tx,xs,rfl,Sx,fr,htx,hpx,hxl⟩;rw[lqm]at htx hxl;refine⟨_,rfl,pa,_,rfl,.inl ⟨SqL.of hpx,fun l hl=>?_⟩⟩;exact q l xs _ tx zb1 (by lia) (Sx.fr0 (FrS.new hl)) (fr.trans (FrS.new hl)) (by lia)
abbrev nField:List Str:=["_law_hand_here","_law_world_here","_law_env","_law_x","_law_y","_law_field_here","_law_z"]
theorem yj6:zd1 nField ["_law_hand_here","_law_world_here","_law_env"] (zc2 xg6):=⟨rfl,rfl,rfl,by decide +kernel,rfl,by decide +kernel,by decide +kernel⟩
theorem xw5{k:Nat}(F:Fun K "_law_field" "_law_field" xg6 f fd)(T:Cal P w K mg base k "_law_take" ["_law_hand_here","_law_many"] zj0)(O:Cal P w K mg base k "_law_of" ["_law_hand_here","_law_some"] (spOf K))
  (V':Cal P w K mg base k "_law_variable" ["_law_hand_here","_law_world_here","_law_env"] ym5) (G:Cal P w K mg base k "_law_target" ["_law_hand_here","_law_world_here","_law_env"] yt7):
  FnOk P w K mg base CX0 (k+1) f fd ["_law_hand_here","_law_world_here","_law_env"] yt4:=by
 obtain⟨g,gd,GT,bT,kT,mT⟩:=T.ex;obtain⟨g2,gd2,GO,bO,kO,mO⟩:=O.ex;obtain⟨g3,gd3,GV,bV,kV',mV⟩:=V'.ex;obtain⟨g4,gd4,GG,bG,kG,mG⟩:=G.ex;refine F.ok yj6 (fun vs H Q E h=>?_) (fun cdv A outer s H vs Q E hr h=>?_)
 ·obtain⟨hd,en,wd,A,D,t,r,rfl,_⟩:=h;rfl
 obtain⟨hd,en,wd,WA,D,t,r,rfl,S,ht,q⟩:=h;have hu:=zn1 hr;refine⟨_,zb3 (ps_par (i:=3) (j:=4) rfl yj6.nd rfl rfl (by decide) rfl rfl (zb0 (zb8 GV hr rfl mV kV' bV .nil zc6 (zb0 (pv 0) (zb0 (pv 1) (zb0 (pv 2) zb2)))) (zb0 (zb8 GV hr rfl mV kV' bV .nil zc6 (zb0 (pv 0) (zb0 (pv 1) (zb0 (pv 2) zb2)))) zb2)) rfl)
  (zb3 (zc3 (i:=5) yj6.nd rfl (wt1 rfl) (zb8 GO hr rfl mO kO bO .nil zc6 (zb0 (pv 0) (zb0 (zc9 hu (pv 1) zd4 (fun _ _=>rfl)) zb2))))
  (zb3 (zh3 (zc4 zp3 (zb8 GT hr rfl mT kT bT .nil zc6 (zb0 (pv 0) (zb0 zb6 zb2))) zb6 (zd6 _))
   (zb3 (zn8 hu (zc9 hu (pv 1) zd4 (fun _ _=>rfl)) (pv 5) (zr8 hu (pv 2) (pv 4) ⟨rfl,rfl,rfl,rfl⟩) rfl)
    (zb7 (zd0 (zf0 (zb0 zd4 (zb0 (pv 3) (zb0 (pv 5) (zb0 (pv 4) zb2)))))))) zd5)
  (zb3 (zc3 (i:=6) yj6.nd rfl (wt1 rfl) (zb8 GG hr rfl mG kG bG .nil zc6 (zb0 (pv 0) (zb0 (pv 1) (zb0 (pv 2) zb2)))))
  (zb3 (zn8 hu (pv 2) (pv 6) (zr8 hu (zc9 hu (pv 1) zd4 (fun _ _=>rfl)) (pv 5) ⟨rfl,rfl,rfl,rfl⟩) rfl)
  (zb7 (zd0 (zf0 (zb0 zd4 (zb0 (pv 6) (zb0 (pv 4) (zb0 (pv 5) zb2))))))))))),?_⟩
 first | dsimp only[cxOf,Cx.nox] | skip
 have s1:∀{n:Nat},n<=1000->n<sizeLine:=fun h=>zc0 h;have hU:D.U.length=9:=by unfold WD.U;rw[wt3,wr2,S.ok.v4,S.ok.p4]
 have hf3:=S.ok.f3;refine⟨_,rfl,_,rfl,_,rfl,hd,en,wd,WA,D,t,r,rfl,S,by lia,fun x1 H1 t1 S1 f1 ht1 _=>?_⟩;refine⟨_,rfl,_,rfl,_,rfl,hd,en,wd,WA,D,t1,r,rfl,S1,by lia,fun x2 H2 t2 S2 f2 ht2 _=>⟨_,_,rfl,?_⟩⟩;obtain⟨d,m,hh⟩:=S2.hand;refine⟨_,rfl,_,rfl,wd,_,rfl,S2.w.g.2.2.2.2.2.2.2.1,hd,WA.fields,d,m,t2,r,_,rfl,hh,by lia,zj3 S2.w.fields.2 hh,SqL.of S2.w.fields.2,?_,by rw[lqm];lia,fun x d3 m3 t3 hx c3 e3=>?_⟩
 ·intro z;have:=wx5 List.length z;rw[lqm,vb9]at this;lia
 obtain⟨fx,hfx,rfl⟩:=ws2.mp hx;have S3:=S2.setHand (r':=r) c3;have fr3:=(f1.trans f2).put' (a:=hd) (o:=hl d3 m3 t3 r) (by trivial);obtain⟨d,m,hh⟩:=S3.hand;refine⟨_,rfl,hd,d,m,t3,r,2,rfl,hh,by lia,by decide,by decide,fun x d4 m4 t4 x0 x1 c4 e4=>⟨rfl,_,rfl,?_⟩⟩;have S4:=S3.setHand (r':=r) c4;have fr4:=fr3.put' (a:=hd) (o:=hl d4 m4 t4 r) (by trivial);obtain⟨kv,hen,hk⟩:=S4.env;obtain⟨kh,hhe,hkh⟩:=S4.held;refine ite2 (fun c=>?_) (fun c=>?_)
 ·refine⟨_,rfl,en,rfl,.inl ⟨_,.inl hen⟩,_,rfl,_,DGet.k (k:=(Sum.inr x2:Key)) hen,_,rfl,wd,_,rfl,S4.w.g.2.2.2.2.2.2.2.2.2.1,_,rfl,WA.held,_,rfl,DPut.k (k:=(Sum.inr fx:Key)) hhe (s1 (by have:=hkh.len;lia)),?_⟩;have S5:=S4.setHeld (hkh.put hfx (hk.get (Sum.inr x2)));have fr5:=fr4.put' (a:=WA.held) (o:=.dK (putK kh (Sum.inr fx) ((valV kv (Sum.inr x2)).getD .non))) (by trivial);refine⟨_,rfl,_,rfl,_,rfl,by show 4<=sizeLine;exact ws3 (s1 (by decide)),fun pr hpr=>?_⟩;exact q pr _ t4 ⟨"put",_,zb1,by decide +kernel,by decide +kernel,by decide +kernel,fun e=>absurd e (by decide +kernel)⟩ (S5.fr0 (FrS.new hpr)) (fr5.trans (FrS.new hpr)) (by lia)
 ·refine⟨_,rfl,_,rfl,_,rfl,hd,en,wd,WA,D,t4,r,rfl,S4,by lia,fun x5 H5 t5 hx5 S5 f5 ht5 _=>?_⟩;obtain⟨kv,hen,hk⟩:=S5.env;obtain⟨kh,hhe,hkh⟩:=S5.held;refine⟨_,rfl,wd,_,rfl,S5.w.g.2.2.2.2.2.2.2.2.2.1,WA.held,rfl,.inl ⟨_,.inl hhe⟩,_,rfl,_,DGet.k (k:=(Sum.inr fx:Key)) hhe,_,rfl,_,rfl,en,_,rfl,DPut.k (k:=(Sum.inr x5:Key)) hen (s1 (by have:=hk.len;lia)),?_⟩;have S6:=S5.setEnv (hk.put hx5 (hkh.get (Sum.inr fx)));have fr6:=(fr4.trans f5).put' (a:=en) (o:=.dK (putK kv (Sum.inr x5) ((valV kh (Sum.inr fx)).getD .non))) (by trivial);refine⟨_,rfl,_,rfl,_,rfl,by show 4<=sizeLine;exact ws3 (s1 (by decide)),fun pr hpr=>?_⟩;exact q pr _ t5 ⟨"take",_,zb1,by decide +kernel,by decide +kernel,by decide +kernel,fun e=>absurd e (by decide +kernel)⟩ (S6.fr0 (FrS.new hpr)) (fr6.trans (FrS.new hpr)) (by lia)
abbrev wg1:Stmt:=top 30
inductive wb7(vs:List V)(H:Hp)(Q:VK):Prop
 | mk(hd en wd:Addr)(A:WA)(D:WD)(t r lv:Int)(h1:vs=[.ref hd,.ref wd,.ref en,.int lv])(h2:Sit H hd en wd A D t r)(h3:t+18<1000000)(h4:∀(x:Addr)(H':Hp)(t':Int),Row1 (HsD D) H' x->Sit H' hd en wd A D t' r->FrS (Ms hd en A) H H'->t'<=t+18->Q (.ref x) H'):wb7  vs H Q
def ym8:Sp:=fun vs H Q _=>wb7  vs H Q
def Ws(D:WD)(H:Hp)(as:List Addr):Prop:=∀a∈as,∃o d,H a=some (.tup [.str o,.str d])/\o∈D.names/\d∈D.deeds/\HsD D o d
theorem Ws.mono{D:WD}{H H':Hp}{as:List Addr}(h:Ws D H as)(f:∀b xs,H b=some (.tup xs)->H' b=some (.tup xs)):Ws D H' as:=fun a ha=>by
 obtain⟨o,d,e,r⟩:=h a ha;exact⟨o,d,f _ _ e,r⟩
theorem Ws.app{D:WD}{H:Hp}{as bs:List Addr}(h:Ws D H as)(h':Ws D H bs):Ws D H (as++bs):=fun a ha=>(wt9.mp ha).elim (h a) (h' a)
theorem yj4{H:Hp}{p:Addr}{o:HO}{ys:List V}(hp:H p=some (.lst ys)):∀b xs,H b=some (.tup xs)->upd H p o b=some (.tup xs):=fun b xs h=>by
 rw[zb5 (fun z=>by rw[z,hp]at h;cases h)];exact h
theorem xr2(ds:List Str)(lo hi:Option Int):∃ds':List Str,cutV (ds.map V.str) lo hi=ds'.map V.str/\ds'.length<=ds.length/\∀x∈ds',x∈ds:=by
 unfold cutV;rw[←vr3,←vq6];refine⟨_,rfl,?_,fun x hx=>List.mem_of_mem_drop (vd2 hx)⟩;rw[wt4,vc7];lia
abbrev nCall:List Str:=["_law_hand_here","_law_world_here","_law_env","_law_level","_law_y","_law_kind","_law_some","_law_ways","_law_deed_here","_law_above","_law_args_here","_law_x"]
theorem zp2:zd1 nCall ["_law_hand_here","_law_world_here","_law_env","_law_level"] (zc2 wg1):=⟨rfl,rfl,rfl,by decide +kernel,rfl,by decide +kernel,by decide +kernel⟩
theorem wm7{k:Nat}(F:Fun K "_law_call" "_law_call" wg1 f fd)(T:Cal P w K mg base k "_law_take" ["_law_hand_here","_law_many"] zj0)(O:Cal P w K mg base k "_law_of" ["_law_hand_here","_law_some"] (spOf K))
  (V':Cal P w K mg base k "_law_variable" ["_law_hand_here","_law_world_here","_law_env"] ym5) (L:Cal P w K mg base k "_law_line" ["_law_world_here","_law_kind"] ym2) (G:Cal P w K mg base k "_law_target" ["_law_hand_here","_law_world_here","_law_env"] yt7)
  (HS:Cal P w K mg base k "_law_has" ["_law_world_here","_law_kind","_law_deed_here"] wj6) (MK:Cal P w K mg base k "_law_make" ["_law_hand_here","_law_world_here","_law_env"] yx8) (AR:Cal P w K mg base k "_law_args" ["_law_hand_here","_law_world_here","_law_env","_law_above","_law_deed_here"] xr4):
  FnOk P w K mg base CX0 (k+1) f fd ["_law_hand_here","_law_world_here","_law_env","_law_level"] ym8:=by
 obtain⟨g,gd,GT,bT,kT,mT⟩:=T.ex;obtain⟨g2,gd2,GO,bO,kO,mO⟩:=O.ex;obtain⟨g3,gd3,GV,bV,kV',mV⟩:=V'.ex;obtain⟨g4,gd4,GL,bL,kL,mL⟩:=L.ex;obtain⟨g5,gd5,GG,bG,kG,mG⟩:=G.ex;obtain⟨g6,gd6,GH,bH,kH,mH⟩:=HS.ex;obtain⟨g7,gd7,GM,bM,kM,mM⟩:=MK.ex;obtain⟨g8,gd8,GA,bA,kA,mA⟩:=AR.ex;refine F.ok zp2 (fun vs H Q E h=>?_) (fun cdv A outer s H vs Q E hr h=>?_)
 ·obtain⟨hd,en,wd,A,D,t,r,lv,rfl,_⟩:=h;rfl
 obtain⟨hd,en,wd,WA,D,t,r,lv,rfl,S,ht,q⟩:=h;have hu:=zn1 hr;have nd2:(["_law_name","_law_elder"]:List Str).Nodup:=by decide +kernel
 have nd3:(["_law_one","_law_deed_here","_law_world_here"]:List Str).Nodup:=by decide +kernel
 refine⟨_,zb3 (zc3 (i:=4) zp2.nd rfl (wt1 rfl) (zb8 GV hr rfl mV kV' bV .nil zc6 (zb0 (pv 0) (zb0 (pv 1) (zb0 (pv 2) zb2)))))
  (zb3 (zc3 (i:=5) zp2.nd rfl (wt1 rfl) (zr8 hu (pv 2) (pv 4) ⟨rfl,rfl,rfl,rfl⟩))
  (zb3 (zh3 (zs5 (xh5 (pv 5))) (zb7 (zc3 (i:=5) zp2.nd rfl (wt1 rfl) (zb8 GO hr rfl mO kO bO .nil zc6 (zb0 (pv 0) (zb0 (zh4 (N':=["_law_name","_law_elder"]) (src:=[none,none]) rfl ⟨rfl,by decide +kernel,by decide +kernel,rfl,rfl,rfl⟩
   (zf7 (zc9 hu (pv 1) zd4 (fun _ _=>rfl))) (g:=gTup K 2 (zk6 (zd9 0) (zk6 (zd9 1) gNil))) (fun _ _ _ _=>zh8 (n:=2) rfl (zc1 (zb9 (i:=0) nd2 rfl (wt1 rfl) (wz3 rfl)) (zc1 (zb9 (i:=1) nd2 rfl (wt1 rfl) (wz3 rfl)) zg2)))
   (fun _ _ _ _=>zg5) (fun _ _ _ _=>pv 0)) zb2))))) zd5)
  (zb3 (zc3 (i:=6) zp2.nd rfl (wt1 rfl) (zk3 zt7 (zc9 hu (pv 1) zd4 (fun _ _=>rfl)) (zm6 (zf4 zn0 (pv 3) zb6)) zm8))
  (zb3 (zh3 (zc4 zp3 (zb8 GT hr rfl mT kT bT .nil zc6 (zb0 (pv 0) (zb0 zb6 zb2))) zb6 (zd6 _)) (zb7 (zc3 (i:=6) zp2.nd rfl (wt1 rfl) (zc9 hu (pv 1) zd4 (fun _ _=>rfl)))) zd5)
  (zb3 (zc3 (i:=7) zp2.nd rfl (wt1 rfl) (zd7 zb2))
  (zb3 (zf9 wv0 rfl (zf7 (pv 6)) (zb9 (i:=8) zp2.nd rfl (wz3 rfl))
   (zb7 (zg1 (zm9 wv2 vp5 vp6 zz7 (pv 7) (zb0 (zh4 (N':=["_law_one","_law_deed_here","_law_world_here"]) (src:=[none,some 8,some 1]) rfl ⟨rfl,by decide +kernel,by decide +kernel,rfl,rfl,rfl⟩
    (zf7 (zb8 GL hr rfl mL kL bL .nil zc6 (zb0 (pv 1) (zb0 (pv 5) zb2)))) (g:=zd9 0) (fun _ _ _ _=>zb9 (i:=0) nd3 rfl (wt1 rfl) (wz3 rfl))
    (fun _ _ _ _=>zm7 (yg1 (zb8 GH hr rfl mH kH bH .nil zc6 (zb0 (pv 2) (zb0 (pv 0) (zb0 (pv 1) zb2)))))) (fun _ _ _ _=>zf0 (zb0 (pv 0) (zb0 (pv 1) zb2)))) zb2)))))
  (zb3 (zh3 (zc4 (yx1 (vg4 hu)) (pv 7) (zd7 zb2) (zd6 _)) (zb7 (zd0 (zb8 GM hr rfl mM kM bM .nil zc6 (zb0 (pv 0) (zb0 (pv 1) (zb0 (pv 2) zb2)))))) zd5)
  (zb3 (zr1 (zb8 GO hr rfl mO kO bO .nil zc6 (zb0 (pv 0) (zb0 (pv 7) zb2))) (zh8 (n:=2) rfl (zc1 (zb9 (i:=9) zp2.nd rfl (wt1 rfl)) (zc1 (zb9 (i:=8) zp2.nd rfl (wz3 rfl)) zg2))))
  (zb3 (zc3 (i:=10) zp2.nd rfl (wt1 rfl) (zb8 GA hr rfl mA kA bA .nil zc6 (zb0 (pv 0) (zb0 (pv 1) (zb0 (pv 2) (zb0 (pv 9) (zb0 (pv 8) zb2)))))))
  (zb3 (zc3 (i:=11) zp2.nd rfl (wt1 rfl) (zb8 GG hr rfl mG kG bG .nil zc6 (zb0 (pv 0) (zb0 (pv 1) (zb0 (pv 2) zb2)))))
  (zb3 (zn8 hu (pv 2) (pv 11) (zr8 hu (zc9 hu (pv 1) zd4 (fun _ _=>rfl)) (pv 8) ⟨rfl,rfl,rfl,rfl⟩) rfl)
  (zb7 (zd0 (zf0 (zb0 zd4 (zb0 (pv 11) (zb0 (pv 4) (zb0 (pv 9) (zb0 (pv 8) (zb0 (pv 10) zb2)))))))))))))))))))),?_⟩
 first | dsimp only[cxOf,Cx.nox] | skip
 have s1:∀{n:Nat},n<=1000->n<sizeLine:=fun h=>zc0 h;have hU:D.U.length=9:=by unfold WD.U;rw[wt3,wr2,S.ok.v4,S.ok.p4]
 have h12:=S.ok.l12;have h6:=S.ok.d6;refine⟨_,rfl,_,rfl,_,rfl,hd,en,wd,WA,D,t,r,rfl,S,by lia,fun y1 H1 t1 S1 f1 ht1 _=>?_⟩;obtain⟨kv,hen,hk⟩:=S1.env;refine⟨_,rfl,en,rfl,.inl ⟨_,.inl hen⟩,_,rfl,_,DGet.k (k:=(Sum.inr y1:Key)) hen,?_⟩;have hkd:=hk.get (Sum.inr y1);generalize (valV kv (Sum.inr y1)).getD .non=vk at hkd;have st3:∀(nx:St->Hp->Prop),(∀(n:Str)(H2:Hp)(t2:Int),n∈D.names->Sit H2 hd en wd WA D t2 r->FrS (Ms hd en WA) H H2->t2<=t+3->nx [some (.ref hd),some (.ref wd),some (.ref en),some (.int lv),some (.str y1),some (.str n),none,none,none,none,none,none] H2)->
   tIfS (tB (tIsN (tVar 5))) (tAsg (zn6 (spOf K) [] E0 (zc5 (tVar 0) (zc5 (xq2 (wk6 K (yt6 (tVar 1) (tC (.str "tree")))) [none,none] (gTup K 2 (zk6 (zd9 0) (zk6 (zd9 1) gNil))) tAll (tVar 0)) tNil))) (zd9 5)) yv3 ⟨nx,Q,fun _ _=>False,fun _ _=>False⟩ [some (.ref hd),some (.ref wd),some (.ref en),some (.int lv),some (.str y1),some vk,none,none,none,none,none,none] H1:=by
  intro nx hnx;refine⟨_,rfl,_,rfl,?_⟩;rcases hkd with rfl | ⟨n,hn,rfl⟩
  ·show if (decide (V.non=V.non))=true then _ else _
   rw[ww4 (by trivial)];obtain⟨ts,t1',t2',t3'⟩:=S1.w.tree;refine⟨_,rfl,_,rfl,wd,_,rfl,S1.w.g.1,WA.tree,rfl,⟨_,SqL.of t1'.2⟩,fun Dn hDn=>?_⟩;refine zt1 (tr:=D.tr) t1'.2 t2' (fun j t x a b=>(t3' j t x a b).2) hDn (by lia) fun H2 f2 hn2=>?_
   have S2:=S1.fr0 f2;obtain⟨d,m,hh⟩:=S2.hand;refine⟨hd,Dn,d,m,t1,r,_,rfl,hh,by lia,zj3 hn2 hh,SqL.of hn2,?_,by rw[lqm,lqm];lia,fun x d3 m3 t3 hx c3 e3=>?_⟩
   ·intro z;have:=wx5 List.length z;rw[lqm,lqm,vb9]at this;exact S.ok.l1 (vf9.mp this)
   ·obtain⟨n,hn,rfl⟩:=ws2.mp hx;exact hnx n _ t3 hn (S2.setHand c3) ((f1.trans (f2.mono (by trivial))).put' (by trivial)) (by lia)
  ·show if (decide (V.str n=V.non))=true then _ else _
   rw[wv5 (by trivial)];exact hnx n H1 t1 hn S1 f1 (by lia)
 refine st3 _ fun n H2 t2 hn S2 f2 ht2=>?_;refine⟨_,rfl,wd,_,rfl,S2.w.g.2.2.1,_,rfl,lv,1,rfl,rfl,_,rfl,WA.deeds,_,rfl,SqL.of S2.w.deeds.2,fun ps hps=>?_⟩;obtain⟨ds,ed,edl,edm⟩:=xr2 D.deeds (some (lv+1)) none;rw[ed];have S3:=S2.fr0 (FrS.new (S:=[]) (o:=.lst (ds.map V.str)) hps);have f3:FrS (Ms hd en WA) H (upd H2 ps (.lst (ds.map V.str))):=f2.trans (FrS.new hps);have hps3:Stt (Ms hd en WA) (upd H2 ps (.lst (ds.map V.str))) ps (.lst (ds.map V.str)):=⟨S2.notin hps,zb1⟩;generalize upd H2 ps (.lst (ds.map V.str))=H3 at S3 f3 hps3;have st5:∀(nx:St->Hp->Prop),(∀(pz:Addr)(zs:List Str)(H4:Hp)(t4:Int),Stt (Ms hd en WA) H4 pz (.lst (zs.map V.str))->zs.length<=6->(∀x∈zs,x∈D.deeds)->Sit H4 hd en wd WA D t4 r->FrS (Ms hd en WA) H H4->t4<=t+4->nx [some (.ref hd),some (.ref wd),some (.ref en),some (.int lv),some (.str y1),some (.str n),some (.ref pz),none,none,none,none,none] H4)->
   tIfS (zn4 (tOp rEq (zn6 zj0 [] E0 (zc5 (tVar 0) (zc5 (tC (.int 8)) tNil))) (tC (.int 0)))) (tAsg (yt6 (tVar 1) (tC (.str "deeds"))) (zd9 6)) yv3 ⟨nx,Q,fun _ _=>False,fun _ _=>False⟩ [some (.ref hd),some (.ref wd),some (.ref en),some (.int lv),some (.str y1),some (.str n),some (.ref ps),none,none,none,none,none] H3:=by
  intro nx hnx;obtain⟨d,m,hh⟩:=S3.hand;refine⟨_,rfl,hd,d,m,t2,r,8,rfl,hh,by lia,by decide,by decide,fun x d4 m4 t4 x0 x1 c4 e4=>⟨rfl,_,rfl,?_⟩⟩;have S4:=S3.setHand (r':=r) c4;have f4:=f3.put' (a:=hd) (o:=hl d4 m4 t4 r) (by trivial);refine ite2 (fun c=>?_) (fun c=>?_)
  ·exact⟨_,rfl,wd,_,rfl,S4.w.g.2.2.1,hnx WA.deeds D.deeds _ t4 S4.w.deeds h6 (fun x hx=>hx) S4 f4 (by lia)⟩
  ·exact hnx ps ds _ t4 (hps3.keep (FrS.chg (by trivial))) (by lia) edm S4 f4 (by lia)
 refine st5 _ fun pz zs H4 t4 hz hz6 hzm S4 f4 ht4=>?_;refine⟨wt6 _,fun pw hpw=>?_⟩;have S5:=S4.fr0 (FrS.new (S:=[]) (o:=.lst []) hpw);have hpwM:pw∉Ms hd en WA:=S4.notin hpw;have hpzw:pz≠pw:=zb4 hz.2 hpw;obtain⟨l,hup,hl12,hlm⟩:=wg3 S.ok hn;refine⟨_,rfl,pz,rfl,⟨_,SqL.of (by rw[zb5 hpzw];exact hz.2)⟩,?_⟩;refine zm4 (xs:=zs.map V.str) (fun i σ Hx=>∃(dx:Option V)(as:List Addr),σ=[some (.ref hd),some (.ref wd),some (.ref en),some (.int lv),some (.str y1),some (.str n),some (.ref pz),some (.ref pw),dx,none,none,none]/\Sit Hx hd en wd WA D t4 r/\FrS (Ms hd en WA) H4 Hx/\Hx pw=some (.lst (as.map V.ref))/\Ws D Hx as/\as.length<=12*i) ⟨_,[],rfl,S5,FrS.new hpw,zb1,(fun a ha=>nomatch ha),by simp⟩ ?_ ?_ ?_
 ·rintro i σ Hx hi ⟨_,_,_,_,fr,_⟩;exact SqL.of (hz.keep fr).2
 ·rintro i x σ Hx hx ⟨dx,as,rfl,Sx,fr,hpx,hws,hasl⟩;obtain⟨hi,_⟩:=wr1.mp hx;rw[lqm]at hi;rw[wr3,wq9 hi]at hx;cases hx;have hdd:zs[i]∈D.deeds:=hzm _ (ww5 hi);refine⟨_,rfl,.inl ⟨rfl,_,SqL.of hpx⟩,_,rfl,_,rfl,wd,_,WA,D,n,l,rfl,Sx.w,S.ok,hup,fun la Hy fy hla hly=>⟨la,rfl,⟨_,SqL.of hly⟩,fun Dl hDl=>?_⟩⟩;have Sy:=Sx.fr0 fy;have hpy:=fy _ _ (by trivial) hpx;have hwsy:Ws D Hy as:=hws.mono fun b xs h=>fy _ _ (by trivial) h
  refine zh0 (xs:=l.map V.str) (fun i' σ Hz=>(∃x,σ=[x,some (.str zs[i]),some (.ref wd)])/\FrS [] Hy Hz/\∃bs:List Addr,bs.length<=i'/\Hz Dl=some (.lst (bs.map V.ref))/\Ws D Hz bs) ⟨⟨_,rfl⟩,(FrS.refl).put hDl,[],by simp,zb1,fun a ha=>nomatch ha⟩ ?_ ?_ ?_
  ·rintro i' σ Hz hi ⟨_,fz,_⟩;exact SqL.of (fz _ _ (by trivial) hly)
  ·rintro i' x σ Hz hx ⟨⟨x0,rfl⟩,fz,bs,hbl,hDz,hwz⟩;obtain⟨hi',_⟩:=wr1.mp hx;rw[lqm]at hi';rw[wr3,wq9 hi']at hx;cases hx;have hon:l[i']∈D.names:=hlm _ (ww5 hi');refine⟨_,rfl,_,rfl,_,rfl,wd,_,WA,D,l[i'],zs[i],rfl,(Sy.fr0 fz).w,S.ok,hon,hdd,fun b Hv fv hbs=>⟨_,rfl,?_⟩⟩;have hDv:=fv _ _ (by trivial) hDz;have hwv:Ws D Hv bs:=hwz.mono fun b xs h=>fv _ _ (by trivial) h
   refine ite2 (fun c=>?_) (fun c=>?_)
   ·refine⟨_,rfl,_,rfl,by show 2<=sizeLine;exact ws3 (s1 (by decide)),fun tp htp=>?_⟩;have hDt:Dl≠tp:=zb4 hDv htp;have hD6:upd Hv tp (.tup [V.str l[i'],V.str zs[i]]) Dl=some (.lst (bs.map V.ref)):=by rw[zb5 hDt];exact hDv
    refine⟨_,hD6,by rw[lqm];exact s1 (by lia),⟨_,rfl⟩,((fz.trans fv).trans (FrS.new htp)).put hDl,bs++[tp],?_,?_,?_⟩
    ·rw[wr2,ws8];lia
    ·rw[zb1,wr9];rfl
    ·refine Ws.mono (H:=upd Hv tp (.tup [V.str l[i'],V.str zs[i]])) (Ws.app (hwv.mono fun b xs h=>?_) fun a ha=>?_) (yj4 hD6)
     ·rw[zb5 (zb4 h htp)];exact h
     ·rw[wv1.mp ha];exact⟨_,_,zb1,hon,hdd,hbs c⟩
   ·exact⟨⟨_,rfl⟩,fz.trans fv,bs,by lia,hDv,hwv⟩
  ·rintro σ Hz ⟨_,fz,bs,hbl,hDz,hwz⟩;rw[lqm]at hbl;have hpz:=fz _ _ (by trivial) hpy;have Sz:=Sy.fr0 fz;have hwsz:Ws D Hz as:=hwsy.mono fun b xs h=>fz _ _ (by trivial) h
   have S7:=Sit.own (o:=.lst (as.map V.ref++bs.map V.ref)) S4 Sz (fr.trans ((fy.trans fz).mono (by trivial))) hpw;refine⟨pw,Dl,_,_,rfl,rfl,hpz,hDz,by rw[lqm,lqm];exact ws3 (s1 (by lia)),_,as++bs,rfl,S7.1,S7.2,by rw[zb1,wr9],(Ws.app hwsz hwz).mono (yj4 hpz),by rw[wr2];lia⟩
 rintro σ H6 ⟨dx,as,rfl,S6,f6,hp6,hw6,hasl⟩;rw[lqm]at hasl;have f06:=f4.trans f6;refine⟨_,rfl,wt6 _,fun pe hpe=>?_⟩;have S7:=S6.fr0 (FrS.new (S:=[]) (o:=.lst []) hpe);have hpp:pw≠pe:=zb4 hp6 hpe;have f07:FrS (Ms hd en WA) H (upd H6 pe (.lst [])):=f06.trans (FrS.new hpe);have hp7:upd H6 pe (.lst []) pw=some (.lst (as.map V.ref)):=by rw[zb5 hpp];exact hp6
 have hw7:Ws D (upd H6 pe (.lst [])) as:=hw6.mono fun b xs h=>by rw[zb5 (zb4 h hpe)];exact h
 refine⟨pw,pe,_,rfl,rfl,hpp,SqL.of hp7,SqL.of zb1,_,rfl,?_⟩;generalize upd H6 pe (.lst [])=H7 at S7 f07 hp7 hw7;cases as with
 | nil=>
  refine⟨_,rfl,_,rfl,_,rfl,hd,en,wd,WA,D,t4,r,rfl,S7,by lia,fun x H8 t8 p8 S8 f8 ht8=>q x H8 t8 (.inl p8) S8 (f07.trans f8) (by lia)⟩
 | cons a0 as'=>
  obtain⟨d,m,hh⟩:=S7.hand;refine⟨_,rfl,_,rfl,hd,pw,d,m,t4,r,_,rfl,hh,by lia,fun z=>hpwM (by rw[z];simp),SqL.of hp7,by simp,by rw[lqm];lia,fun x d8 m8 t8 hx c8 e8=>?_⟩;obtain⟨tp,htp,rfl⟩:=ws2.mp hx;obtain⟨on,dn,e1,e2,e3,e4⟩:=hw7 tp htp;have S8:=S7.setHand (r':=r) c8;have f8:=f07.put' (a:=hd) (o:=hl d8 m8 t8 r) (by trivial);have htd:tp≠hd:=fun z=>by have:=hh.1;rw[←z,e1]at this;cases this
  refine⟨tp,_,rfl,SqT.of (by rw[zb5 htd];exact e1),rfl,_,_,rfl,_,_,rfl,rfl,?_⟩;refine⟨_,rfl,_,rfl,_,rfl,_,rfl,_,rfl,hd,en,wd,WA,D,t8,r,on,dn,rfl,S8,by lia,e2,e3,fun x9 ss9 H9 t9 hg9 hl9 S9 f9 ht9=>?_⟩;refine⟨_,rfl,_,rfl,_,rfl,hd,en,wd,WA,D,t9,r,rfl,S9,by lia,fun xa Ha ta hxa Sa fa hta _=>?_⟩;obtain⟨kv,hen,hk⟩:=Sa.env;obtain⟨kt,hto,hkt⟩:=Sa.told;refine⟨_,rfl,wd,_,rfl,Sa.w.g.2.2.2.2.2.2.2.2.1,WA.told,rfl,.inl ⟨_,.inl hto⟩,_,rfl,_,DGet.k (k:=(Sum.inr dn:Key)) hto,_,rfl,_,rfl,en,_,rfl,DPut.k (k:=(Sum.inr xa:Key)) hen (s1 (by have:=hk.len;lia)),?_⟩;have Sb:=Sa.setEnv (hk.put hxa (hkt.get (Sum.inr dn)));have fb:=((f8.trans f9).trans fa).put' (a:=en) (o:=.dK (putK kv (Sum.inr xa) ((valV kt (Sum.inr dn)).getD .non))) (by trivial);refine⟨_,rfl,_,rfl,_,rfl,_,rfl,_,rfl,by show 6<=sizeLine;exact ws3 (s1 (by decide)),fun pr hpr=>?_⟩;have tp9:Tup H9 (upd (upd Ha en (.dK (putK kv (Sum.inr xa) ((valV kt (Sum.inr dn)).getD .non)))) pr (.tup [V.str "call",V.str xa,V.str y1,V.str on,V.str dn,V.ref x9])):=((S9.tup fa).trans (Sa.tup (FrS.chg (.tail _ (.head _))))).trans (Tup.new hpr);exact q pr _ ta (.inr ⟨xa,y1,on,dn,x9,ss9,zb1,tp9 _ _ hg9,hl9,e4⟩) (Sb.fr0 (FrS.new hpr)) (fb.trans (FrS.new hpr)) (by lia)
abbrev sRow:Stmt:=top 32
abbrev xv3:Stmt:=top 33
abbrev pRow:List Str:=["_law_hand_here","_law_world_here","_law_env","_law_level","_law_deep"]
abbrev yd5:List Str:=["_law_hand_here","_law_world_here","_law_env","_law_level","_law_deep","_law_most"]
inductive SpRow(n:Nat)(vs:List V)(H:Hp)(Q:VK):Prop
 | mk(hd en wd:Addr)(A:WA)(D:WD)(t r lv:Int)(dp:Nat)(h1:vs=[.ref hd,.ref wd,.ref en,.int lv,.int (dp:Int)])(h2:dp<=n)(h3:Sit H hd en wd A D t r)(h4:0<=r)(h5:t+25*r+24<1000000)(h6:∀(x:Addr)(fs:List Addr)(H':Hp)(t' r':Int),Fl (HsD D) H' n [x] fs->(fs.length:Int)+r'<=r+1->Sit H' hd en wd A D t' r'->FrS (Ms hd en A) H H'->0<=r'->r'<=r->t'+25*r'<=t+25*r+24->Q (.ref x) H'):SpRow n vs H Q
def wm9(n:Nat):Sp:=fun vs H Q _=>SpRow n vs H Q
inductive wb9(n:Nat)(vs:List V)(H:Hp)(Q:VK):Prop
 | mk(hd en wd:Addr)(A:WA)(D:WD)(t r lv mo:Int)(dp:Nat)(h1:vs=[.ref hd,.ref wd,.ref en,.int lv,.int (dp:Int),.int mo])(h2:dp<=n)(h3:0<=mo)(h4:mo<=100)(h5:Sit H hd en wd A D t r)(h6:0<=r)(h7:t+25*r+1<1000000)(h8:∀(x:Addr)(rs fs:List Addr)(H':Hp)(t' r':Int),H' x=some (.tup (rs.map V.ref))->Fl (HsD D) H' n rs fs->(fs.length:Int)+r'<=r->Sit H' hd en wd A D t' r'->FrS (Ms hd en A) H H'->0<=r'->r'<=r->t'+25*r'<=t+25*r+1->Q (.ref x) H'):wb9 n vs H Q
def yb1(n:Nat):Sp:=fun vs H Q _=>wb9 n vs H Q
def yd0:Nat->Sp
 | 0=>fun _ _ _ _=>False
 | n+1=>yb1 n
abbrev nRow:List Str:=["_law_hand_here","_law_world_here","_law_env","_law_level","_law_deep","_law_way","_law_y","_law_x","_law_lots"]
theorem xp2:zd1 nRow pRow (zc2 sRow):=⟨rfl,rfl,rfl,by decide +kernel,rfl,by decide +kernel,by decide +kernel⟩
set_option maxHeartbeats 4000000 in
theorem ok_row{k n:Nat}(F:Fun K "_law_row" "_law_row" sRow f fd)(T:Cal P w K mg base k "_law_take" ["_law_hand_here","_law_many"] zj0)(O:Cal P w K mg base k "_law_of" ["_law_hand_here","_law_some"] (spOf K))
  (V':Cal P w K mg base k "_law_variable" ["_law_hand_here","_law_world_here","_law_env"] ym5) (G:Cal P w K mg base k "_law_target" ["_law_hand_here","_law_world_here","_law_env"] yt7)
  (MK:Cal P w K mg base k "_law_make" ["_law_hand_here","_law_world_here","_law_env"] yx8) (FI:Cal P w K mg base k "_law_field" ["_law_hand_here","_law_world_here","_law_env"] yt4) (CA:Cal P w K mg base k "_law_call" ["_law_hand_here","_law_world_here","_law_env","_law_level"] ym8)
  (R:Cal P w K mg base k "_law_rows" yd5 (yd0 n)) (mr:mg "range"=none) (ml:mg "len"=none) (mtu:mg "tuple"=none):
  FnOk P w K mg base CX0 (k+1) f fd pRow (wm9 n):=by
 obtain⟨g,gd,GT,bT,kT,mT⟩:=T.ex;obtain⟨g2,gd2,GO,bO,kO,mO⟩:=O.ex;obtain⟨g3,gd3,GV,bV,kV',mV⟩:=V'.ex;obtain⟨g5,gd5,GG,bG,kG,mG⟩:=G.ex;obtain⟨g6,gd6,GF,bF,kF,mF⟩:=FI.ex;obtain⟨g7,gd7,GM,bM,kM,mM⟩:=MK.ex;obtain⟨g8,gd8,GC,bC,kC,mC⟩:=CA.ex;obtain⟨g9,gd9,GR,bR,kR,mR⟩:=R.ex;refine F.ok xp2 (fun vs H Q E h=>?_) (fun cdv A outer s H vs Q E hr h=>?_)
 ·obtain⟨hd,en,wd,A,D,t,r,lv,dp,rfl,_⟩:=h;rfl
 obtain⟨hd,en,wd,WA,D,t,r,lv,dp,rfl,hdp,S,hr0,ht,q⟩:=h;have hu:=zn1 hr;have nd6:(["_law_k","_law_hand_here","_law_world_here","_law_env","_law_level","_law_deep"]:List Str).Nodup:=by decide +kernel
 refine⟨_,zb3 (zc3 (i:=5) xp2.nd rfl (wt1 rfl) (zb8 GT hr rfl mT kT bT .nil zc6 (zb0 (pv 0) (zb0 zb6 zb2))))
  (zb3 (zh3 (zc4 xc7 (pv 5) zb6 (zd6 _)) (zb7 (zd0 (zb8 GM hr rfl mM kM bM .nil zc6 (zb0 (pv 0) (zb0 (pv 1) (zb0 (pv 2) zb2)))))) zd5)
  (zb3 (zh3 (zc4 zp3 (pv 5) zb6 (zd6 _))
   (zb3 (zc3 (i:=6) xp2.nd rfl (wt1 rfl) (zb8 GV hr rfl mV kV' bV .nil zc6 (zb0 (pv 0) (zb0 (pv 1) (zb0 (pv 2) zb2)))))
   (zb3 (zc3 (i:=7) xp2.nd rfl (wt1 rfl) (zb8 GG hr rfl mG kG bG .nil zc6 (zb0 (pv 0) (zb0 (pv 1) (zb0 (pv 2) zb2)))))
   (zb3 (zn8 hu (pv 2) (pv 7) (zr8 hu (pv 2) (pv 6) ⟨rfl,rfl,rfl,rfl⟩) rfl)
   (zb7 (zd0 (zf0 (zb0 zd4 (zb0 (pv 7) (zb0 (pv 6) zb2))))))))) zd5)
  (zb3 (zh3 (zc4 xc7 (pv 5) zb6 (zd6 _)) (zb7 (zd0 (zb8 GF hr rfl mF kF bF .nil zc6 (zb0 (pv 0) (zb0 (pv 1) (zb0 (pv 2) zb2)))))) zd5)
  (zb3 (zh3 (PW.pt (zk4 (zc4 zp3 (pv 5) zb6 (zd6 _)) (zk0 (zc4 (zx1 (vg4 hu)) (zc9 hu (pv 1) zd4 (fun _ _=>rfl)) (zd7 zb2) (zd6 _)))))
   (zb7 (zd0 (zf0 (zb0 zd4 (zb0 (zb8 GO hr rfl mO kO bO .nil zc6 (zb0 (pv 0) (zb0 (zc9 hu (pv 1) zd4 (fun _ _=>rfl)) zb2))) zb2))))) zd5)
  (zb3 (zh3 (PW.pt (xq7 (zc4 zp3 (pv 5) zb6 (zd6 _)) (yn1 (zc4 zp3 (pv 5) zb6 (zd6 _)))))
   (zb7 (zd0 (zf0 (zb0 zd4 (zb0 (zb8 GO hr rfl mO kO bO .nil zc6 (zb0 (pv 0) (zb0 (zc9 hu (pv 1) zd4 (fun _ _=>rfl)) zb2))) zb2))))) zd5)
  (zb3 (zh3 (PW.pt (zk4 (zc4 xc7 (pv 5) zb6 (zd6 _)) (zk4 (zc4 yh6 (pv 4) zb6 (zd6 _)) (zk0 (zc4 yh6 (eI (pv 0) zb6) zb6 (zd6 _))))))
   (zb3 (zh1 (i:=8) (N':=["_law_k","_law_hand_here","_law_world_here","_law_env","_law_level","_law_deep"]) (src:=[none,some 0,some 1,some 2,some 3,some 4]) rfl xp2.nd rfl rfl ⟨rfl,by decide +kernel,by decide +kernel,rfl,rfl,rfl⟩
    (zn3 rfl mr (zb0 (zf4 zv3 zb6 (pv 5)) zb2)) (g:=zd9 0) (fun _ _ _ _=>zb9 (i:=0) nd6 rfl (wt1 rfl) (wz3 rfl)) (fun _ _ _ _=>zg5)
    (fun _ _ _ _=>zb8 GR hr rfl mR kR bR .nil zc6 (zb0 (pv 1) (zb0 (pv 2) (zb0 (pv 3) (zb0 (pv 4) (zb0 (zf4 zv3 (pv 5) zb6) (zb0 zb6 zb2))))))))
   (zb7 (zd0 (zf4 wp1 (zf0 (zb0 (eI (zd7 (zb0 zd4 (zb0 zd4 zb2))) (zf4 zv3 (zf2 zg3 rfl ml vb1 (zb0 (pv 8) zb2)) zb6)) zb2)) (zd2 zd3 rfl mtu (by decide +kernel) (zb0 (pv 8) zb2)))))) zd5)
  (zb7 (zd0 (zb8 GC hr rfl mC kC bC .nil zc6 (zb0 (pv 0) (zb0 (pv 1) (zb0 (pv 2) (zb0 (pv 3) zb2))))))))))))),?_⟩
 first | dsimp only[cxOf,Cx.nox] | skip
 have s1:∀{n:Nat},n<=1000->n<sizeLine:=fun h=>zc0 h;have hU:D.U.length=9:=by unfold WD.U;rw[wt3,wr2,S.ok.v4,S.ok.p4]
 have hf3:=S.ok.f3;have hll:=S.ok.lateLen;obtain⟨d,m,hh⟩:=S.hand;refine⟨_,rfl,hd,d,m,t,r,14,rfl,hh,by lia,by decide,by decide,fun x d1 m1 t1 x0 x1 c1 e1=>?_⟩;have S1:=S.setHand (r':=r) c1;have f1:FrS (Ms hd en WA) H (upd H hd (hl d1 m1 t1 r)):=FrS.chg (by trivial);have hh1:upd H hd (hl d1 m1 t1 r) hd=some (hl d1 m1 t1 r):=zb1;generalize upd H hd (hl d1 m1 t1 r)=H1 at S1 f1 hh1;refine⟨_,rfl,_,_,rfl,rfl,_,rfl,?_⟩;refine ite2 (fun c=>?_) (fun c=>?_)
 ·exact⟨_,rfl,_,rfl,_,rfl,hd,en,wd,WA,D,t1,r,rfl,S1,by lia,fun x H2 t2 p2 S2 f2 ht2=>q x [x] H2 t2 r (.one (.inl p2) .nil) (by show(1:Int)+_<=_;lia) S2 (f1.trans f2) hr0 (by lia) (by lia)⟩
 have n3:¬x<3:=fun z=>c (wt8 z);refine⟨_,rfl,rfl,_,rfl,?_⟩;refine ite2 (fun c=>?_) (fun c=>?_)
 ·refine⟨_,rfl,_,rfl,_,rfl,hd,en,wd,WA,D,t1,r,rfl,S1,by lia,fun y2 H2 t2 S2 f2 ht2 _=>?_⟩;refine⟨_,rfl,_,rfl,_,rfl,hd,en,wd,WA,D,t2,r,rfl,S2,by lia,fun x3 H3 t3 hx3 S3 f3 ht3 _=>?_⟩;obtain⟨kv,hen,hk⟩:=S3.env;refine⟨_,rfl,en,rfl,.inl ⟨_,.inl hen⟩,_,rfl,_,DGet.k (k:=(Sum.inr y2:Key)) hen,_,rfl,_,rfl,en,_,rfl,DPut.k (k:=(Sum.inr x3:Key)) hen (s1 (by have:=hk.len;lia)),?_⟩;have S4:=S3.setEnv (hk.put hx3 (hk.get (Sum.inr y2)));have f4:=((f1.trans f2).trans f3).put' (a:=en) (o:=.dK (putK kv (Sum.inr x3) ((valV kv (Sum.inr y2)).getD .non))) (by trivial);refine⟨_,rfl,_,rfl,by show 3<=sizeLine;exact ws3 (s1 (by decide)),fun pr hpr=>?_⟩;exact q pr [pr] _ t3 r (.one (.inl ⟨"copy",_,zb1,by decide +kernel,by decide +kernel,by decide +kernel,fun e=>absurd e (by decide +kernel)⟩) .nil) (by show(1:Int)+_<=_;lia) (S4.fr0 (FrS.new hpr)) (f4.trans (FrS.new hpr)) hr0 (by lia) (by lia)
 have n4:x≠3:=fun z=>c (wt8 (by rw[z]))
 refine⟨_,rfl,_,_,rfl,rfl,_,rfl,?_⟩;refine ite2 (fun c=>?_) (fun c=>?_)
 ·exact⟨_,rfl,_,rfl,_,rfl,hd,en,wd,WA,D,t1,r,rfl,S1,by lia,fun x H2 t2 p2 S2 f2 ht2=>q x [x] H2 t2 r (.one (.inl p2) .nil) (by show(1:Int)+_<=_;lia) S2 (f1.trans f2) hr0 (by lia) (by lia)⟩
 have n6:¬x<6:=fun z=>c (wt8 z);have rest:∀(H2:Hp),Sit H2 hd en wd WA D t1 r->FrS (Ms hd en WA) H H2->H2 hd=some (hl d1 m1 t1 r)->
   tSeq (tIfS (tOr (zn4 (tOp rEq (tVar 5) (tC (.int 6)))) (zn4 (tOp rEq (tVar 5) (tC (.int 7))))) (tRet (tTup (zc5 (tC (.str "say")) (zc5 (zn6 (spOf K) [] E0 (zc5 (tVar 0) (zc5 (yt6 (tVar 1) (tC (.str "fields"))) tNil))) tNil)))) yv3)
   (tSeq (tIfS (tAnd (zn4 (tOp (rI0 fun i j=>.bl (decide (i<j))) (tVar 5) (tC (.int 10)))) (tAnd (zn4 (tOp (rI0 fun i j=>.bl (decide (j<i))) (tVar 4) (tC (.int 0)))) (zn4 (tOp (rI0 fun i j=>.bl (decide (j<i))) (tOp (rIxL K) (tVar 0) (tC (.int 3))) (tC (.int 2))))))
    (tSeq (tAsg (xq2 (iRng1 (zc5 (tOp (rI0 fun i j=>.int (i-j)) (tC (.int 10)) (tVar 5)) tNil)) [none,some 0,some 1,some 2,some 3,some 4] (zd9 0) tAll (zn6 (yd0 n) [] E0 (zc5 (tVar 1) (zc5 (tVar 2) (zc5 (tVar 3) (zc5 (tVar 4) (zc5 (tOp (rI0 fun i j=>.int (i-j)) (tVar 5) (tC (.int 1))) (zc5 (tC (.int 3)) tNil)))))))) (zd9 8))
     (tRet (tOp (rCatT K) (tTup (zc5 (tOp (rIxL K) (tLst (zc5 (tC (.str "again")) (zc5 (tC (.str "either")) tNil))) (tOp (rI0 fun i j=>.int (i-j)) (tCB (fun xs H Q=>∃p ys,xs=[.ref p]/\(SqL K H p ys∨SqT K H p ys)/\Q (.int ys.length) H) (zc5 (tVar 8) tNil)) (tC (.int 1)))) tNil))
      (tCB (fun xs H Q=>∃p ys,xs=[.ref p]/\((SqL K H p ys/\∀l,H l=none->Q (.ref l) (upd H l (.tup ys)))∨(SqT K H p ys/\Q (.ref p) H))) (zc5 (tVar 8) tNil))))) yv3)
   (tRet (zn6 ym8 [] E0 (zc5 (tVar 0) (zc5 (tVar 1) (zc5 (tVar 2) (zc5 (tVar 3) tNil)))))))
   ⟨fun _ H=>Q .non H,Q,fun _ _=>False,fun _ _=>False⟩ [some (.ref hd),some (.ref wd),some (.ref en),some (.int lv),some (.int (dp:Int)),some (.int x),none,none,none] H2:=by
  intro H2 S2 f2 hh2;have say:tRet (tTup (zc5 (tC (.str "say")) (zc5 (zn6 (spOf K) [] E0 (zc5 (tVar 0) (zc5 (yt6 (tVar 1) (tC (.str "fields"))) tNil))) tNil))) ⟨fun _ H=>Q .non H,Q,fun _ _=>False,fun _ _=>False⟩ [some (.ref hd),some (.ref wd),some (.ref en),some (.int lv),some (.int (dp:Int)),some (.int x),none,none,none] H2:=by
   obtain⟨d,m,hh⟩:=S2.hand;refine⟨_,rfl,_,rfl,wd,_,rfl,S2.w.g.2.2.2.2.2.2.2.1,hd,WA.fields,d,m,t1,r,_,rfl,hh,by lia,zj3 S2.w.fields.2 hh,SqL.of S2.w.fields.2,?_,by rw[lqm];lia,fun x d3 m3 t3 hx c3 e3=>?_⟩
   ·intro z;have:=wx5 List.length z;rw[lqm,vb9]at this;lia
   refine⟨by show 2<=sizeLine;exact ws3 (s1 (by decide)),fun pr hpr=>?_⟩;exact q pr [pr] _ t3 r (.one (.inl ⟨"say",_,zb1,by decide +kernel,by decide +kernel,by decide +kernel,fun e=>absurd e (by decide +kernel)⟩) .nil) (by show(1:Int)+_<=_;lia) ((S2.setHand c3).fr0 (FrS.new hpr)) ((f2.put' (by trivial)).trans (FrS.new hpr)) hr0 (by lia) (by lia)
  have cal:tRet (zn6 ym8 [] E0 (zc5 (tVar 0) (zc5 (tVar 1) (zc5 (tVar 2) (zc5 (tVar 3) tNil))))) ⟨fun _ H=>Q .non H,Q,fun _ _=>False,fun _ _=>False⟩ [some (.ref hd),some (.ref wd),some (.ref en),some (.int lv),some (.int (dp:Int)),some (.int x),none,none,none] H2:=
   ⟨_,rfl,_,rfl,_,rfl,_,rfl,hd,en,wd,WA,D,t1,r,lv,rfl,S2,by lia,fun x H3 t3 p3 S3 f3 ht3=>q x [x] H3 t3 r (.one p3 .nil) (by show(1:Int)+_<=_;lia) S3 (f2.trans f3) hr0 (by lia) (by lia)⟩
  refine⟨_,rfl,rfl,_,rfl,?_⟩;refine ite2 (fun c=>?_) (fun c=>?_)
  ·exact say
  have nn6:x≠6:=fun z=>c (wt8 (by rw[z]))
  refine⟨_,rfl,rfl,_,rfl,?_⟩;refine ite2 (fun c=>?_) (fun c=>?_)
  ·exact say
  have nn7:x≠7:=fun z=>c (wt8 (by rw[z]))
  refine⟨_,rfl,_,_,rfl,rfl,_,rfl,?_⟩;refine ite2 (fun c=>?_) (fun c=>cal);have n10:x<10:=ws0 c;refine⟨_,rfl,_,_,rfl,rfl,_,rfl,?_⟩;refine ite2 (fun c=>?_) (fun c=>cal);have ndp:(0:Int)<(dp:Int):=ws0 c;refine⟨_,rfl,hd,_,_,_,rfl,rfl,SqL.of hh2,at3,_,_,rfl,rfl,_,rfl,?_⟩;refine ite2 (fun c=>?_) (fun c=>cal);have nr:(2:Int)<r:=ws0 c;obtain⟨n',rfl⟩:∃n',n=n'+1:=⟨n-1,by lia⟩;refine⟨_,rfl,_,_,rfl,rfl,_,rfl,by lia,by lia,fun Dl hDl=>?_⟩;have hDM:Dl∉Ms hd en WA:=S2.notin hDl;refine yb9 (lo:=0) (n:=(10-x).toNat) (fun i σ Hx=>∃(kx:Option V)(tx rx:Int)(ls fs:List Addr),σ=[kx,some (.ref hd),some (.ref wd),some (.ref en),some (.int lv),some (.int (dp:Int))]/\Sit Hx hd en wd WA D tx rx/\FrS (Ms hd en WA) H2 Hx/\0<=rx/\rx<=r/\tx+25*rx<=t1+25*r+i/\Hx Dl=some (.lst (ls.map V.ref))/\ls.length=i/\Lots (HsD D) Hx n' ls fs/\(fs.length:Int)+rx<=r)
   ⟨_,t1,r,[],[],rfl,S2.fr0 (FrS.new hDl),FrS.new hDl,hr0,by lia,by lia,zb1,rfl,.nil,by show(0:Int)+r<=r;lia⟩ ?_ ?_
  ·rintro i σ Hx hi ⟨kx,tx,rx,ls,fs,rfl,Sx,fx,hx0,hx1,hx2,hDx,hxl,hlo,hfl⟩;refine⟨_,rfl,_,rfl,_,rfl,_,rfl,_,rfl,_,_,rfl,rfl,hd,en,wd,WA,D,tx,rx,lv,3,dp-1,?_,by lia,by decide,by decide,Sx,hx0,by lia,fun v rsv fsv Hy ty ry hvy hfv hlv Sy fy hy0 hy1 hy2=>?_⟩
   ·have:((dp-1:Nat):Int)=(dp:Int)-1:=by lia
    rw[this];rfl
   ·have hDy:=fy _ _ hDM hDx;have S7:=Sit.own (o:=.lst (ls.map V.ref++[V.ref v])) S2 Sy (fx.trans fy) hDl;have tpl:Tup Hy (upd Hy Dl (.lst (ls.map V.ref++[V.ref v]))):=Tup.lst hDy;exact⟨_,hDy,s1 (by rw[lqm];lia),_,ty,ry,ls++[v],fs++fsv,rfl,S7.1,S7.2,hy0,by lia,by lia,by rw[zb1,wr9];rfl,by rw[wr2,ws8];lia,(hlo.keep ((Sx.tup fy).trans tpl)).snoc (tpl _ _ hvy) (hfv.keep tpl),by rw[wr2];lia⟩
  ·rintro σ Hx ⟨kx,tx,rx,ls,fs,rfl,Sx,fx,hx0,hx1,hx2,hDx,hxl,hlo,hfl⟩;have hj:ls.length=1∨ls.length=2:=by lia
   refine⟨by show 2<=sizeLine;exact ws3 (s1 (by decide)),fun pl hpl=>?_⟩;have hDp:Dl≠pl:=zb4 hDx hpl;have hat:∃v:Str,atI [V.str "again",V.str "either"] ((((ls.map V.ref).length:Nat):Int)-1)=some (.str v)/\(ls.length=1/\v="again"∨ls.length=2/\v="either"):=by
    rw[lqm];rcases hj with h | h
    ·exact⟨"again",by rw[h];rfl,.inl ⟨h,rfl⟩⟩
    ·exact⟨"either",by rw[h];rfl,.inr ⟨h,rfl⟩⟩
   obtain⟨v,hv,hvw⟩:=hat;refine⟨_,rfl,Dl,_,rfl,.inl (SqL.of (by rw[zb5 hDp];exact hDx)),_,_,rfl,rfl,pl,_,_,_,rfl,rfl,SqL.of zb1,hv,by show 1<=sizeLine;exact ws3 (s1 (by decide)),fun pt hpt=>?_⟩;have hDx2:upd Hx pl (.lst [V.str "again",V.str "either"]) Dl=some (.lst (ls.map V.ref)):=by rw[zb5 hDp];exact hDx
   have hDt:Dl≠pt:=zb4 hDx2 hpt;refine⟨_,rfl,Dl,_,rfl,.inl ⟨SqL.of (by rw[zb5 hDt];exact hDx2),fun pu hpu=>?_⟩⟩;have htu:pt≠pu:=fun z=>by rw[←z,zb1]at hpu;cases hpu
   refine⟨pt,pu,[.str v],ls.map V.ref,rfl,rfl,SqT.of (by rw[zb5 htu];exact zb1),SqT.of zb1,by simp,by rw[lqm];show 1+ls.length<=sizeLine;exact ws3 (s1 (by lia)),fun z=>?_,fun _ pz hpz=>?_⟩
   ·have:=wx5 List.length z;rw[lqm,vb9]at this;lia
   ·have ff:FrS [] Hx _:=(((FrS.new (S:=[]) hpl).trans (FrS.new hpt)).trans (FrS.new hpu)).trans (FrS.new (o:=.tup ([V.str v]++ls.map V.ref)) hpz);exact q pz (pz::fs) _ tx rx ((hlo.keep (Tup.of0 ff)).row zb1 hvw) (by rw[wt3];lia) (Sx.fr0 ff) (f2.trans (fx.trans (ff.mono (by trivial)))) hx0 hx1 (by lia)
 refine⟨_,rfl,rfl,_,rfl,?_⟩;refine ite2 (fun c=>?_) (fun c=>rest H1 S1 f1 hh1);refine⟨_,rfl,wd,_,rfl,S1.w.g.2.1,wt6 _,fun pe hpe=>?_⟩;have S2:=S1.fr0 (FrS.new (S:=[]) (o:=.lst []) hpe);have hlp:WA.late≠pe:=zb4 S1.w.late.2 hpe;refine⟨WA.late,pe,_,rfl,rfl,hlp,SqL.of S2.w.late.2,SqL.of zb1,_,rfl,?_⟩;have f2:FrS (Ms hd en WA) H (upd H1 pe (.lst [])):=f1.trans (FrS.new hpe);have hh2:upd H1 pe (.lst []) hd=some (hl d1 m1 t1 r):=by rw[zb5 (zb4 hh1 hpe)];exact hh1
 generalize upd H1 pe (.lst [])=H2 at S2 f2 hh2;cases hla:D.late with
 | nil=>exact rest H2 S2 f2 hh2
 | cons y ys=>
  have hlt:=S2.w.late.2;rw[hla]at hlt;have hll':=hll;rw[hla]at hll';obtain⟨d,m,hh⟩:=S2.hand;refine⟨_,rfl,_,rfl,wd,_,rfl,S2.w.g.2.1,hd,WA.late,d,m,t1,r,_,rfl,hh,by lia,zj3 hlt hh,SqL.of hlt,by simp,by rw[lqm];lia,fun x d3 m3 t3 hx c3 e3=>?_⟩;refine⟨by show 2<=sizeLine;exact ws3 (s1 (by decide)),fun pr hpr=>?_⟩;exact q pr [pr] _ t3 r (.one (.inl ⟨"bring",_,zb1,by decide +kernel,by decide +kernel,by decide +kernel,fun e=>absurd e (by decide +kernel)⟩) .nil) (by show(1:Int)+_<=_;lia) ((S2.setHand c3).fr0 (FrS.new hpr)) ((f2.put' (by trivial)).trans (FrS.new hpr)) hr0 (by lia) (by lia)
abbrev nRows:List Str:=["_law_hand_here","_law_world_here","_law_env","_law_level","_law_deep","_law_most","_law_rows_here","_law_k"]
theorem yv9:zd1 nRows yd5 (zc2 xv3):=⟨rfl,rfl,rfl,by decide +kernel,rfl,by decide +kernel,by decide +kernel⟩
theorem xh9{k n:Nat}(F:Fun K "_law_rows" "_law_rows" xv3 f fd)(T:Cal P w K mg base k "_law_take" ["_law_hand_here","_law_many"] zj0)(R:Cal P w K mg base k "_law_row" pRow (wm9 n))(mr:mg "range"=none)(mtu:mg "tuple"=none):
  FnOk P w K mg base CX0 (k+1) f fd yd5 (yb1 n):=by
 obtain⟨g,gd,GT,bT,kT,mT⟩:=T.ex;obtain⟨g2,gd2,GR,bR,kR,mR⟩:=R.ex;refine F.ok yv9 (fun vs H Q E h=>?_) (fun cdv A outer s H vs Q E hr h=>?_)
 ·obtain⟨hd,en,wd,A,D,t,r,lv,mo,dp,rfl,_⟩:=h;rfl
 obtain⟨hd,en,wd,WA,D,t,r,lv,mo,dp,rfl,hdp,hm0,hm1,S,hr0,ht,q⟩:=h;have hu:=zn1 hr;refine⟨_,zb3 (zc3 (i:=6) yv9.nd rfl (wt1 rfl) (zd7 zb2))
  (zb3 (zf9 wv0 rfl (zn3 rfl mr (zb0 (zb8 GT hr rfl mT kT bT .nil zc6 (zb0 (pv 0) (zb0 (zf4 zn0 (pv 5) zb6) zb2))) zb2)) (zb9 (i:=7) yv9.nd rfl (wt1 rfl))
   (zb7 (zh3 (zc4 yh6 (eI (pv 0) zb6) zb6 (zd6 _))
    (zb3 (zr1 (zf4 zv3 (eI (pv 0) zb6) zb6) (yf4 (pv 0) zb6 zq0))
    (zb7 (zg1 (zm9 wv2 wv6 wv7 zf5 (pv 6) (zb0 (zb8 GR hr rfl mR kR bR .nil zc6 (zb0 (pv 0) (zb0 (pv 1) (zb0 (pv 2) (zb0 (pv 3) (zb0 (pv 4) zb2)))))) zb2))))) zd5)))
  (zb7 (zd0 (zd2 zd3 rfl mtu (by decide +kernel) (zb0 (pv 6) zb2))))),?_⟩
 first | dsimp only[cxOf,Cx.nox] | skip
 have s1:∀{n:Nat},n<=1000->n<sizeLine:=fun h=>zc0 h;refine⟨wt6 _,fun pr hpr=>?_⟩;have S1:=S.fr0 (FrS.new (S:=[]) (o:=.lst []) hpr);have hpM:pr∉Ms hd en WA:=S.notin hpr;obtain⟨d,m,hh⟩:=S1.hand;refine⟨_,rfl,_,rfl,_,_,rfl,rfl,hd,d,m,t,r,_,rfl,hh,by lia,by lia,by lia,fun x d1 m1 t1 x0 x1 c1 e1=>?_⟩;have S2:=S1.setHand (r':=r) c1;have hph:pr≠hd:=fun z=>hpM (by rw[z];simp)
 refine⟨_,rfl,by lia,by lia,?_⟩;refine zr4 (lo:=0) (n:=x.toNat) (fun i σ Hx=>∃(kx:Option V)(tx rx:Int)(rs fs:List Addr),σ=[some (.ref hd),some (.ref wd),some (.ref en),some (.int lv),some (.int (dp:Int)),some (.int mo),some (.ref pr),kx]/\Sit Hx hd en wd WA D tx rx/\FrS (Ms hd en WA) H Hx/\0<=rx/\rx<=r/\tx+25*rx<=t+25*r+1/\Hx pr=some (.lst (rs.map V.ref))/\rs.length<=i/\Fl (HsD D) Hx n rs fs/\(fs.length:Int)+rx<=r)
  ⟨_,t1,r,[],[],rfl,S2,((FrS.new hpr).put' (by trivial)),hr0,by lia,by lia,by rw[zb5 hph];exact zb1,by simp,.nil,by show(0:Int)+r<=r;lia⟩ ?_ ?_
 ·rintro i σ Hx hi ⟨kx,tx,rx,rs,fs,rfl,Sx,fx,hx0,hx1,hx2,hpx,hxl,hfl,hfn⟩;obtain⟨d,m,hH,ok⟩:=Sx.hand;refine⟨_,rfl,hd,_,_,_,rfl,rfl,SqL.of hH,at3,_,_,rfl,rfl,_,rfl,?_⟩;refine ite2 (fun c=>?_) (fun c=>?_)
  ·have c':0<rx:=ws0 c;refine⟨_,rfl,hd,_,_,_,rfl,rfl,SqL.of hH,at3,_,_,rfl,rfl,?_⟩;refine⟨_,rfl,hd,_,3,3,rfl,rfl,hH,rfl,?_⟩;have S3:=Sx.setHand (r':=rx-1) ok;have f3:=fx.put' (a:=hd) (o:=hl d m tx (rx-1)) (by trivial);have hp3:upd Hx hd (hl d m tx (rx-1)) pr=some (.lst (rs.map V.ref)):=by rw[zb5 hph];exact hpx
   refine⟨_,rfl,.inl ⟨rfl,_,SqL.of hp3⟩,_,rfl,_,rfl,_,rfl,_,rfl,_,rfl,hd,en,wd,WA,D,tx,rx-1,lv,dp,rfl,hdp,S3,by lia,by lia,fun v fv H4 t4 r4 hfv hlv S4 f4 h0 h1 h2=>?_⟩;have hp4:=f4 _ _ hpM hp3;have S7:=Sit.own (o:=.lst (rs.map V.ref++[V.ref v])) S S4 (f3.trans f4) hpr;have tpl:Tup H4 (upd H4 pr (.lst (rs.map V.ref++[V.ref v]))):=Tup.lst hp4;have tp3:Tup Hx H4:=(Sx.tup (FrS.chg (.head _))).trans (S3.tup f4);exact⟨pr,_,_,rfl,rfl,hp4,s1 (by rw[lqm];lia),_,t4,r4,rs++[v],fs++fv,rfl,S7.1,S7.2,h0,by lia,by lia,by rw[zb1,wr9];rfl,by rw[wr2,ws8];lia,(hfl.keep (tp3.trans tpl)).app (hfv.keep tpl),by rw[wr2];lia⟩
  ·exact⟨_,tx,rx,rs,fs,rfl,Sx,fx,hx0,hx1,hx2,hpx,by lia,hfl,hfn⟩
 ·rintro σ Hx ⟨kx,tx,rx,rs,fs,rfl,Sx,fx,hx0,hx1,hx2,hpx,hxl,hfl,hfn⟩;refine⟨_,rfl,pr,_,rfl,.inl ⟨SqL.of hpx,fun l hl=>?_⟩⟩;exact q l rs fs _ tx rx zb1 (hfl.keep (Tup.new hl)) hfn (Sx.fr0 (FrS.new hl)) (fx.trans (FrS.new hl)) hx0 hx1 hx2
abbrev M0(hd:Addr)(A:WA):List Addr:=[hd,A.told,A.held]
structure Sit0(H:Hp)(hd wd:Addr)(A:WA)(D:WD)(t r:Int):Prop where
 hand:∃d m,Hand H hd d m t r
 told:∃kv,H A.told=some (.dK kv)/\DOk D.deeds D.names kv
 held:∃kv,H A.held=some (.dK kv)/\DOk D.fields D.names kv
 w:Wld (M0 hd A) H wd A D
 nd:(M0 hd A).Nodup
 ok:WOk D
section
variable{H H':Hp}{hd en wd:Addr}{A:WA}{D:WD}{t r t' r':Int}
theorem Sit0.have_(S:Sit0 H hd wd A D t r):∀b∈M0 hd A,∃o,H b=some o:=by
 obtain⟨⟨d,m,h1,h1'⟩,⟨k2,e2,e2'⟩,⟨k3,e3,e3'⟩,w,nd,wok⟩:=S;intro b hb;simp only[M0,ws5,wr0,vb0]at hb;rcases hb with rfl | rfl | rfl
 ·exact⟨_,h1⟩
 ·exact⟨_,e2⟩
 ·exact⟨_,e3⟩
theorem Sit0.notin(S:Sit0 H hd wd A D t r){p:Addr}(hp:H p=none):p∉M0 hd A:=fun z=>by
 obtain⟨o,ho⟩:=S.have_ p z;rw[hp]at ho;cases ho
theorem Sit0.ne(S:Sit0 H hd wd A D t r):hd≠A.told/\hd≠A.held/\A.told≠A.held:=by
 have:=S.nd;simp only[M0,wx9,ws5,wr0,vb0,not_or]at this;exact⟨this.1.1,this.1.2,this.2.1⟩
theorem Sit0.fr0(S:Sit0 H hd wd A D t r)(f:FrS [] H H'):Sit0 H' hd wd A D t r:=by
 obtain⟨⟨d,m,h1,h1'⟩,⟨k2,e2,e2'⟩,⟨k3,e3,e3'⟩,w,nd,ok⟩:=S;exact⟨⟨d,m,f _ _ (by trivial) h1,h1'⟩,⟨k2,f _ _ (by trivial) e2,e2'⟩,⟨k3,f _ _ (by trivial) e3,e3'⟩,w.keep (f.mono (by trivial)),nd,ok⟩
theorem Sit0.setHand(S:Sit0 H hd wd A D t r){d' m' t' r':Int}(ok:zw0 d' m' t'):Sit0 (upd H hd (hl d' m' t' r')) hd wd A D t' r':=by
 obtain⟨n2,n3,n6⟩:=S.ne;obtain⟨⟨d,m,h1⟩,⟨k2,e2,e2'⟩,⟨k3,e3,e3'⟩,w,nd,wok⟩:=S;exact⟨⟨d',m',Hand.at ok⟩,⟨k2,by rw[zb5 n2.symm];exact e2,e2'⟩,⟨k3,by rw[zb5 n3.symm];exact e3,e3'⟩,w.keep (FrS.chg (by trivial)),nd,wok⟩
theorem Sit0.own{H6:Hp}{t6 r6:Int}{pa:Addr}{o:HO}(S:Sit0 H hd wd A D t r)(S6:Sit0 H6 hd wd A D t6 r6)(f:FrS (M0 hd A) H H6)(hpa:H pa=none):Sit0 (upd H6 pa o) hd wd A D t6 r6/\FrS (M0 hd A) H (upd H6 pa o):=by
 have hpaM:pa∉M0 hd A:=S.notin hpa;have u:∀b∈M0 hd A,upd H6 pa o b=H6 b:=fun b hb=>zb5 (fun z=>hpaM (by rw[←z];exact hb))
 have fr:FrS (M0 hd A) H (upd H6 pa o):=f.put hpa;obtain⟨⟨d,m,h1,h1'⟩,⟨k2,e2,e2'⟩,⟨k3,e3,e3'⟩,w,nd,ok⟩:=S6;exact⟨⟨⟨d,m,(u _ (by trivial)).trans h1,h1'⟩,⟨k2,(u _ (by trivial)).trans e2,e2'⟩,⟨k3,(u _ (by trivial)).trans e3,e3'⟩,S.w.keep fr,nd,ok⟩,fr⟩
theorem Sit0.open(S:Sit0 H hd wd A D t r){kv:List (Key×V)}(he:H en=none)(hk:DOk D.U D.names kv):Sit (upd H en (.dK kv)) hd en wd A D t r:=by
 have hn:=S.notin he;obtain⟨n2,n3,n6⟩:=S.ne;have fr:FrS [] H (upd H en (.dK kv)):=FrS.new he;have S2:=S.fr0 fr;refine⟨S2.hand,⟨kv,zb1,hk⟩,S2.told,S2.held,S.w.map fun a o h=>⟨fun z=>?_,fr _ _ (by trivial) h.2⟩,?_,S.ok⟩
 ·simp only[Ms,ws5,wr0,vb0]at z;rcases z with z | z | z | z
  ·exact h.1 (by rw[z];simp)
  ·exact zb4 h.2 he z
  ·exact h.1 (by rw[z];simp)
  ·exact h.1 (by rw[z];simp)
 ·simp only[M0,ws5,wr0,vb0,not_or]at hn;simp only[Ms,wx9,ws5,wr0,vb0,not_or];exact⟨⟨vb3 hn.1,n2,n3⟩,⟨hn.2.1,hn.2.2⟩,n6,not_false,vd8⟩
theorem Sit.close(S:Sit H hd en wd A D t r):Sit0 H hd wd A D t r:=by
 obtain⟨n1,n2,n3,n4,n5,n6⟩:=S.ne;refine⟨S.hand,S.told,S.held,S.w.map fun a o h=>h.sub (by simp +contextual),?_,S.ok⟩;simp only[M0,wx9,ws5,wr0,vb0,not_or];exact⟨⟨n2,n3⟩,n6,not_false,vd8⟩
theorem FrS.close{H1:Hp}{o:HO}(he:H en=none)(f:FrS (Ms hd en A) (upd H en o) H1):FrS (M0 hd A) H H1:=fun b u n e=>by
 have hb:b≠en:=zb4 e he;refine f b u (fun z=>?_) (by rw[zb5 hb];exact e);simp only[Ms,ws5,wr0,vb0]at z;rcases z with z | z | z | z
 ·exact n (by rw[z];simp)
 ·exact hb z
 ·exact n (by rw[z];simp)
 ·exact n (by rw[z];simp)
theorem DOk.merge{U N:List Str}:∀(more:List (Key×V)){kvs:List (Key×V)},DOk U N kvs->(∀kv∈more,∃x∈U,kv.1=Sum.inr x/\(kv.2=.non∨∃n∈N,kv.2=.str n))->DOk U N (zf6 kvs more)
 | [],kvs,h,_=>h
 | a::l,kvs,h,hm=>by
  obtain⟨x,hx,e,hv⟩:=hm a (vf3 ..);show DOk U N (zf6 (putK kvs a.1 a.2) l);refine DOk.merge l ?_ fun kv hk=>hm kv (ww6 _ hk);rw[e];exact h.put hx hv
end
theorem Sit0.tup{H H':Hp}{hd wd:Addr}{A:WA}{D:WD}{t r:Int}(S:Sit0 H hd wd A D t r)(f:FrS (M0 hd A) H H'):Tup H H':=by
 obtain⟨⟨d,m,h1,h1'⟩,⟨k2,e2,e2'⟩,⟨k3,e3,e3'⟩,w,nd,wok⟩:=S;refine FrS.tup f fun b hb xs=>?_;simp only[M0,ws5,wr0,vb0]at hb;rcases hb with rfl | rfl | rfl
 ·rw[h1];intro z;cases z
 ·rw[e2];intro z;cases z
 ·rw[e3];intro z;cases z
abbrev wh2:Stmt:=top 34
inductive xz8(vs:List V)(H:Hp)(Q:VK):Prop
 | mk(hd wd:Addr)(A:WA)(D:WD)(t r:Int)(kd:Str)(lv:Nat)(h1:vs=[.ref hd,.ref wd,.str kd,.int (lv:Int)])(h2:kd∈D.names)(h3:lv<D.deeds.length)(h4:Sit0 H hd wd A D t r)(h5:0<=r)(h6:t+25*r+20<1000000)(h7:∀(x:Addr)(dn:Str)(pv gv:V)(l:Addr)(rs fs:List Addr)(H':Hp)(t' r':Int),D.deeds[lv]?=some dn->H' x=some (.tup [.str dn,pv,.ref l,gv])->H' l=some (.tup (rs.map V.ref))->Fl (HsD D) H' 4 rs fs->(fs.length:Int)+r'<=r->Sit0 H' hd wd A D t' r'->FrS (M0 hd A) H H'->0<=r'->r'<=r->t'+25*r'<=t+25*r+15->Q (.ref x) H'):xz8  vs H Q
def yw5:Sp:=fun vs H Q _=>xz8  vs H Q
abbrev nDeed:List Str:=["_law_hand_here","_law_world_here","_law_kind","_law_level","_law_deed_here","_law_pool","_law_wanted","_law_params","_law_env","_law_rows_here","_law_gives"]
abbrev wh5:List Str:=["_law_hand_here","_law_world_here","_law_kind","_law_level"]
theorem zv2:zd1 nDeed wh5 (zc2 wh2):=⟨rfl,rfl,rfl,by decide +kernel,rfl,by decide +kernel,by decide +kernel⟩
set_option maxHeartbeats 4000000 in
theorem wp3{k:Nat}(F:Fun K "_law_deed" "_law_deed" wh2 f fd)(T:Cal P w K mg base k "_law_take" ["_law_hand_here","_law_many"] zj0)(O:Cal P w K mg base k "_law_of" ["_law_hand_here","_law_some"] (spOf K))
  (V':Cal P w K mg base k "_law_variable" ["_law_hand_here","_law_world_here","_law_env"] ym5) (R:Cal P w K mg base k "_law_rows" yd5 (yb1 4)) (ml:mg "len"=none) (mli:mg "list"=none) (mz:mg "zip"=none) (mdi:mg "dict"=none) (mtu:mg "tuple"=none):
  FnOk P w K mg base CX0 (k+1) f fd wh5 yw5:=by
 obtain⟨g,gd,GT,bT,kT,mT⟩:=T.ex;obtain⟨g2,gd2,GO,bO,kO,mO⟩:=O.ex;obtain⟨g3,gd3,GV,bV,kV',mV⟩:=V'.ex;obtain⟨g4,gd4,GR,bR,kR,mR⟩:=R.ex;refine F.ok zv2 (fun vs H Q E h=>?_) (fun cdv A outer s H vs Q E hr h=>?_)
 ·obtain⟨hd,wd,A,D,t,r,kd,lv,rfl,_⟩:=h;rfl
 obtain⟨hd,wd,WA,D,t,r,kd,lv,rfl,hkd,hlv,S,hr0,ht,q⟩:=h;have hu:=zn1 hr;have nd3:(["_law_want","_law_pool","_law_hand_here"]:List Str).Nodup:=by decide +kernel
 refine⟨_,zb3 (zc3 (i:=4) zv2.nd rfl (wt1 rfl) (eI (zc9 hu (pv 1) zd4 (fun _ _=>rfl)) (pv 3)))
  (zb3 (zc3 (i:=5) zv2.nd rfl (wz3 rfl) (zf4 yf7 (zc9 hu (pv 1) zd4 (fun _ _=>rfl)) (zk3 zt7 (zc9 hu (pv 1) zd4 (fun _ _=>rfl)) zm8 (zm6 zb6))))
  (zb3 (zc3 (i:=6) zv2.nd rfl (wt1 rfl) (zc9 hu (zc9 hu (pv 1) zd4 (fun _ _=>rfl)) (zf0 (zb0 (zc9 hu (zc9 hu (pv 1) zd4 (fun _ _=>rfl)) (pv 2) (fun _ _=>rfl)) (zb0 (pv 4) zb2))) (fun _ _=>rfl)))
  (zb3 (zh1 (i:=7) (N':=["_law_want","_law_pool","_law_hand_here"]) (src:=[none,some 5,some 0]) rfl zv2.nd rfl rfl ⟨rfl,by decide +kernel,by decide +kernel,rfl,rfl,rfl⟩
   (zf7 (pv 6)) (g:=zd9 0) (fun _ _ _ _=>zb9 (i:=0) nd3 rfl (wt1 rfl) (wz3 rfl)) (fun _ _ _ _=>zg5)
   (te:=tBM K "list" wd5 (tVar 1) (zc5 (zn6 zj0 [] E0 (zc5 (tVar 2) (zc5 (tCB (fun xs H Q=>∃p ys,xs=[.ref p]/\(SqL K H p ys∨SqT K H p ys)/\Q (.int ys.length) H) (zc5 (tVar 1) tNil)) tNil))) tNil))
   (fun _ _ _ _=>zm9 wv2 PySem.F.slot_list_pop PySem.F.type_list_pop xx5 (pv 1) (zb0 (zb8 GT hr rfl mT kT bT .nil zc6 (zb0 (pv 2) (zb0 (zf2 zg3 rfl ml vb1 (zb0 (pv 1) zb2)) zb2))) zb2)))
  (zb3 (zc3 (i:=8) zv2.nd rfl (wt1 rfl) (zd2 (zh6 rfl) rfl mdi (by decide +kernel) (zb0 (zf4 yf7 (zd7 (zb0 (zf0 (zb0 zd4 (zb0 (pv 2) zb2))) zb2)) (xb7 rfl rfl mli rfl mz (zb0 (pv 7) (zb0 (pv 6) zb2)))) zb2)))
  (zb3 (zc3 (i:=9) zv2.nd rfl (wt1 rfl) (zb8 GR hr rfl mR kR bR .nil zc6 (zb0 (pv 0) (zb0 (pv 1) (zb0 (pv 8) (zb0 (pv 3) (zb0 (zb8 GT hr rfl mT kT bT .nil zc6 (zb0 (pv 0) (zb0 zb6 zb2)))
   (zb0 (zb8 GO hr rfl mO kO bO .nil zc6 (zb0 (pv 0) (zb0 (zd7 (zb0 zb6 (zb0 zb6 (zb0 zb6 (zb0 zb6 (zb0 zb6 zb2)))))) zb2))) zb2))))))))
  (zb3 (zc3 (i:=10) zv2.nd rfl (wt1 rfl) (zb8 GO hr rfl mO kO bO .nil zc6 (zb0 (pv 0) (zb0 (zd7 (zb0 yq3 (zb0 (zb8 GV hr rfl mV kV' bV .nil zc6 (zb0 (pv 0) (zb0 (pv 1) (zb0 (pv 8) zb2)))) (zb0 (zb8 GV hr rfl mV kV' bV .nil zc6 (zb0 (pv 0) (zb0 (pv 1) (zb0 (pv 8) zb2)))) zb2)))) zb2))))
  (zb3 (zn8 hu (zc9 hu (pv 1) zd4 (fun _ _=>rfl)) (pv 4) (xv0 hu (pv 8) (pv 10) ⟨rfl,rfl,rfl,rfl⟩) rfl)
  (zb7 (zd0 (zf0 (zb0 (pv 4) (zb0 (zd2 zd3 rfl mtu (by decide +kernel) (zb0 (pv 7) zb2)) (zb0 (pv 9) (zb0 (pv 10) zb2)))))))))))))),?_⟩
 first | dsimp only[cxOf,Cx.nox] | skip
 have s1:∀{n:Nat},n<=1000->n<sizeLine:=fun h=>zc0 h;have h6:=S.ok.d6;have hU:D.U.length=9:=by unfold WD.U;rw[wt3,wr2,S.ok.v4,S.ok.p4]
 have hdn:D.deeds[lv]∈D.deeds:=ww5 hlv;have hat:atI (D.deeds.map V.str) (lv:Int)=some (.str D.deeds[lv]):=zq3 (by rw[wr3,wq9 hlv];rfl);refine⟨_,rfl,wd,_,rfl,S.w.g.2.2.1,_,rfl,WA.deeds,_,_,_,rfl,rfl,SqL.of S.w.deeds.2,hat,?_⟩;have hdq:D.deeds[lv]?=some D.deeds[lv]:=wq9 hlv;generalize D.deeds[lv]=dn at hdn hdq;refine⟨_,rfl,wd,_,rfl,S.w.g.2.2.2.2.2.2.1,_,rfl,wd,_,rfl,S.w.g.2.2.2.2.2.1,_,rfl,WA.vars,_,rfl,SqL.of S.w.vars.2,fun pv' hpv=>?_⟩;obtain⟨ds,ed,edl,edm⟩:=xr2 D.vars none (some 2);rw[ed];rw[S.ok.v4]at edl;have S1:=S.fr0 (FrS.new (S:=[]) (o:=.lst (ds.map V.str)) hpv);have f1:FrS (M0 hd WA) H (upd H pv' (.lst (ds.map V.str))):=FrS.new hpv;refine⟨WA.params,pv',_,_,rfl,rfl,S1.w.params.2,zb1,by rw[lqm,lqm,S.ok.p4];exact ws3 (s1 (by lia)),fun pl hpl=>?_⟩;generalize upd H pv' (.lst (ds.map V.str))=H1 at S1 f1 hpl;rw[←wr9];have S2:=S1.fr0 (FrS.new (S:=[]) (o:=.lst ((D.params++ds).map V.str)) hpl);have f2:FrS (M0 hd WA) H1 (upd H1 pl (.lst ((D.params++ds).map V.str))):=FrS.new hpl;have hpl2:upd H1 pl (.lst ((D.params++ds).map V.str)) pl=some (.lst ((D.params++ds).map V.str)):=zb1;generalize upd H1 pl (.lst ((D.params++ds).map V.str))=H2 at S2 f2 hpl2;have hpsl:(D.params++ds).length=4+ds.length:=by rw[wr2,S.ok.p4]
 have hpsU:∀x∈D.params++ds,x∈D.U:=fun x hx=>by
  unfold WD.U;rcases wt9.mp hx with h | h
  ·simp[h]
  ·simp[edm x h]
 generalize D.params++ds=ps at hpl2 hpsl hpsU;obtain⟨rt,wp,ws,e1,e2,e3,e4,e5⟩:=S.w.wl kd hkd dn hdn;refine⟨_,rfl,wd,_,rfl,S2.w.g.2.2.2.1,_,rfl,wd,_,rfl,S2.w.g.2.2.2.2.2.2.2.2.2.2,_,rfl,WA.roots,_,rfl,.inl ⟨_,Sum.inr kd,.inl S2.w.roots.2,rfl,e1.symm⟩,_,rfl,by show 2<=sizeLine;exact ws3 (s1 (by decide)),fun pk hpk=>?_⟩;have S3:=S2.fr0 (FrS.new (S:=[]) (o:=.tup [V.str rt,V.str dn]) hpk);have f3:FrS (M0 hd WA) H1 (upd H2 pk (.tup [V.str rt,V.str dn])):=f2.trans (FrS.new hpk);have hpl3:upd H2 pk (.tup [V.str rt,V.str dn]) pl=some (.lst (ps.map V.str)):=by rw[zb5 (zb4 hpl2 hpk)];exact hpl2
 refine⟨WA.wants,.ref wp,rfl,.inr ⟨_,[Sum.inr rt,Sum.inr dn],pk,.inl S3.w.wants.2,rfl,zb1,e2.symm⟩,?_⟩;generalize upd H2 pk (.tup [V.str rt,V.str dn])=H3 at S3 f3 hpl3;have w3:=e3.keep (f1.trans f3);have hplM:pl∉M0 hd WA:=S1.notin hpl;refine⟨_,rfl,wp,rfl,⟨_,SqL.of w3.2⟩,fun Dl hDl=>?_⟩;have hDM:Dl∉M0 hd WA:=S3.notin hDl;have hD1:H1 Dl=none:=f3.old S3.have_ hDl;have hlD:pl≠Dl:=zb4 hpl3 hDl;refine zh0 (xs:=ws.map V.str) (fun i σ Hx=>∃(kx:Option V)(tx:Int)(ps' qs:List Str),σ=[kx,some (.ref pl),some (.ref hd)]/\Sit0 Hx hd wd WA D tx r/\FrS (M0 hd WA) H1 Hx/\tx<=t+i/\Hx pl=some (.lst (ps'.map V.str))/\ps'.length+i=ps.length/\(∀x∈ps',x∈D.U)/\Hx Dl=some (.lst (qs.map V.str))/\qs.length=i/\∀x∈qs,x∈D.U)
  ⟨_,t,ps,[],rfl,S3.fr0 (FrS.new hDl),f3.trans (FrS.new hDl),by lia,by rw[zb5 hlD];exact hpl3,by lia,hpsU,zb1,rfl,by simp⟩ ?_ ?_ ?_
 ·rintro i σ Hx hi ⟨_,_,_,_,_,_,fx,_⟩;exact SqL.of (e3.keep (f1.trans fx)).2
 ·rintro i x σ Hx hx ⟨kx,tx,ps',qs,rfl,Sx,fx,htx,hpx,hpl',hpU,hDx,hql,hqU⟩;obtain⟨hi,_⟩:=wr1.mp hx;rw[lqm]at hi;obtain⟨d,m,hh⟩:=Sx.hand;have hpd:pl≠hd:=fun z=>hplM (by rw[z];simp)
  refine⟨_,rfl,.inl ⟨rfl,_,SqL.of hpx⟩,_,rfl,_,rfl,pl,_,rfl,.inl (SqL.of hpx),hd,d,m,tx,r,_,rfl,hh,by lia,by rw[lqm];lia,by rw[lqm];lia,fun y d' m' ty y0 y1 c e=>?_⟩;rw[lqm]at y1;have Sy:=Sx.setHand (r':=r) c;have fy:=fx.put' (a:=hd) (o:=hl d' m' ty r) (by trivial);have hpy:upd Hx hd (hl d' m' ty r) pl=some (.lst (ps'.map V.str)):=by rw[zb5 hpd];exact hpx
  have hDy:upd Hx hd (hl d' m' ty r) Dl=some (.lst (qs.map V.str)):=by rw[zb5 (fun z=>hDM (by rw[z];simp))];exact hDx
  generalize upd Hx hd (hl d' m' ty r)=Hy at Sy fy hpy hDy;have hyk:y.toNat<ps'.length:=by lia
  have hsi:seqIndex? y (ps'.map V.str).length=some y.toNat:=by
   unfold seqIndex?;rw[lqm];have g1:¬y<0:=by lia
   simp only[g1,vg9];rw[ww4 (by simp;lia)]
  refine⟨pl,_,y,y.toNat,.str ps'[y.toNat],rfl,rfl,hpy,by lia,by lia,hsi,by rw[wr3,wq9 hyk];rfl,?_⟩;have eer:(ps'.map V.str).eraseIdx y.toNat=(ps'.eraseIdx y.toNat).map V.str:=by rw[List.eraseIdx_eq_take_drop_succ,List.eraseIdx_eq_take_drop_succ,wr9,vq6,vr3]
  rw[eer];have S7:=Sit0.own (o:=.lst ((ps'.eraseIdx y.toNat).map V.str)) S1 Sy fy hpl;have hD7:upd Hy pl (.lst ((ps'.eraseIdx y.toNat).map V.str)) Dl=some (.lst (qs.map V.str)):=by rw[zb5 hlD.symm];exact hDy
  have S8:=Sit0.own (o:=.lst (qs.map V.str++[V.str ps'[y.toNat]])) S1 S7.1 S7.2 hD1;refine⟨_,hD7,by rw[lqm];exact s1 (by lia),_,ty,ps'.eraseIdx y.toNat,qs++[ps'[y.toNat]],rfl,S8.1,S8.2,by lia,by rw[zb5 hlD];exact zb1,?_,fun x hx=>hpU x (List.mem_of_mem_eraseIdx hx),by rw[zb1,wr9];rfl,by rw[wr2,hql];rfl,fun x hx=>?_⟩
  ·rw[List.length_eraseIdx_of_lt hyk];lia
  ·rcases wt9.mp hx with h | h
   ·exact hqU x h
   ·rw[wv1.mp h];exact hpU _ (ww5 hyk)
 rintro σ H4 ⟨kx,t4,ps',qs,rfl,S4,f4,ht4,hp4,_,_,hD4,hql,hqU⟩;rw[lqm]at ht4 hql;have f04:FrS (M0 hd WA) H H4:=f1.trans f4;have w4:=e3.keep f04;refine⟨_,rfl,by show 2<=sizeLine;exact ws3 (s1 (by decide)),fun pt hpt=>⟨by show 1<=sizeLine;exact ws3 (s1 (by decide)),fun po hpo=>?_⟩⟩;have f5:FrS [] H4 (upd (upd H4 pt (.tup [V.str "own",V.str kd])) po (.lst [V.ref pt])):=(FrS.new hpt).trans (FrS.new hpo);have hpo5:upd (upd H4 pt (.tup [V.str "own",V.str kd])) po (.lst [V.ref pt]) po=some (.lst [V.ref pt]):=zb1;have hpt5:upd (upd H4 pt (.tup [V.str "own",V.str kd])) po (.lst [V.ref pt]) pt=some (.tup [V.str "own",V.str kd]):=by rw[zb5 (zb4 (o:=.tup [V.str "own",V.str kd]) zb1 hpo)];exact zb1
 generalize upd (upd H4 pt (.tup [V.str "own",V.str kd])) po (.lst [V.ref pt])=H5 at f5 hpo5 hpt5;refine⟨_,rfl,_,rfl,Dl,wp,qs.map V.str,ws.map V.str,rfl,SqL.of (f5 _ _ (by trivial) hD4),SqL.of (f5 _ _ (by trivial) w4.2),by rw[lqm,lqm];exact hql,fun zl ts H6 fz hzl hz6 htl hzp=>?_⟩;have f6:FrS [] H4 H6:=f5.trans fun b o _ e=>fz b o e;rw[lqm]at htl;refine⟨po,zl,_,_,rfl,rfl,fz _ _ hpo5,hz6,by rw[lqm];show 1+ts.length<=sizeLine;exact ws3 (s1 (by lia)),fun pc hpc=>?_⟩;have f7:FrS [] H4 (upd H6 pc (.lst ([V.ref pt]++ts.map V.ref))):=f6.trans (FrS.new hpc);have S7:=S4.fr0 f7;refine⟨pc,pt::ts,(Sum.inr "own",.str kd)::(qs.zip ws).map (fun p=>((Sum.inr p.1:Key),V.str p.2)),rfl,SqL.of zb1,?_,?_,fun j t' kv ht' hkv=>?_,fun en hen=>?_⟩
 ·rw[wt3,wt3,lqm,vm5];lia
 ·rw[wt3,lqm,vm5];exact s1 (by lia)
 ·cases j with
  | zero=>
   have a1:pt=t':=by simpa using ht'
   have a2:((Sum.inr "own":Key),V.str kd)=kv:=by simpa using hkv
   subst a1 a2;exact SqT.of (by rw[zb5 (zb4 (fz _ _ hpt5) hpc)];exact fz _ _ hpt5)
  | succ j=>
   have a1:ts[j]?=some t':=by simpa using ht'
   have a2:((qs.zip ws).map (fun p=>((Sum.inr p.1:Key),V.str p.2)))[j]?=some kv:=by simpa using hkv
   obtain⟨x,y,g1,g2,g3⟩:=hzp j t' a1;rw[wr3]at g1 g2 a2;obtain⟨x',hx',rfl⟩:=wr6.mp g1;obtain⟨y',hy',rfl⟩:=wr6.mp g2;obtain⟨p,hp,rfl⟩:=wr6.mp a2;rw[vh8]at hp;obtain⟨z1,z2⟩:=hp;rw[hx']at z1;rw[hy']at z2;cases z1;cases z2;exact SqT.of (by rw[zb5 (zb4 g3 hpc)];exact g3)
 have hDe:Dl≠en:=zb4 (f7 _ _ (by trivial) hD4) hen;have hkv:DOk D.U D.names (zf6 [] ((Sum.inr "own",.str kd)::(qs.zip ws).map (fun p=>((Sum.inr p.1:Key),V.str p.2)))):=by
  refine DOk.merge _ DOk.nil fun kv hkv=>?_;rcases ws5.mp hkv with rfl | h
  ·exact⟨"own",by unfold WD.U;simp,rfl,.inr ⟨kd,hkd,rfl⟩⟩
  ·obtain⟨p,hp,rfl⟩:=ws2.mp h;have:=vk9 hp;exact⟨p.1,hqU _ this.1,rfl,.inr ⟨p.2,e5 _ this.2,rfl⟩⟩
 have S8:=S7.open hen hkv;have hD8:Stt (Ms hd en WA) (upd (upd H6 pc (.lst ([V.ref pt]++ts.map V.ref))) en (.dK (zf6 [] ((Sum.inr "own",.str kd)::(qs.zip ws).map (fun p=>((Sum.inr p.1:Key),V.str p.2)))))) Dl (.lst (qs.map V.str)):=by
  refine⟨fun z=>?_,by rw[zb5 hDe];exact f7 _ _ (by trivial) hD4⟩;simp only[Ms,ws5,wr0,vb0]at z;simp only[M0,ws5,wr0,vb0,not_or]at hDM;rcases z with z | z | z | z
  ·exact hDM.1 z
  ·exact hDe z
  ·exact hDM.2.1 z
  ·exact hDM.2.2 z
 have fcl:∀Hf:Hp,FrS (Ms hd en WA) (upd (upd H6 pc (.lst ([V.ref pt]++ts.map V.ref))) en (.dK (zf6 [] ((Sum.inr "own",.str kd)::(qs.zip ws).map (fun p=>((Sum.inr p.1:Key),V.str p.2)))))) Hf->FrS (M0 hd WA) H Hf:=fun Hf ff=>(f04.trans (f7.mono (by trivial))).trans (FrS.close hen ff)
 generalize upd (upd H6 pc (.lst ([V.ref pt]++ts.map V.ref))) en (.dK (zf6 [] ((Sum.inr "own",.str kd)::(qs.zip ws).map (fun p=>((Sum.inr p.1:Key),V.str p.2)))))=H8 at S8 hD8 fcl;obtain⟨d,m,hh⟩:=S8.hand;refine⟨_,rfl,_,rfl,_,rfl,_,rfl,_,rfl,hd,d,m,t4,r,3,rfl,hh,by lia,by decide,by decide,fun x d9 m9 t9 x0 x1 c9 e9=>?_⟩;obtain⟨dp,rfl⟩:∃dp:Nat,x=(dp:Int):=⟨x.toNat,by lia⟩;have S9:=S8.setHand (r':=r) c9;have f9:FrS (Ms hd en WA) H8 (upd H8 hd (hl d9 m9 t9 r)):=FrS.chg (by trivial);refine⟨_,rfl,by show 5<=sizeLine;exact ws3 (s1 (by decide)),fun pi hpi=>?_⟩;have Sa:=S9.fr0 (FrS.new (S:=[]) (o:=.lst [V.int 1,V.int 2,V.int 3,V.int 4,V.int 6]) hpi);have fa:=f9.trans (FrS.new (o:=.lst [V.int 1,V.int 2,V.int 3,V.int 4,V.int 6]) hpi);have hpid:pi≠hd:=fun z=>S9.notin hpi (by rw[z];simp)
 obtain⟨d,m,hh⟩:=Sa.hand;refine⟨hd,pi,d,m,t9,r,_,rfl,hh,by lia,hpid,SqL.of zb1,by simp,by show 5<1000;decide,fun y db mb tb hy cb eb=>?_⟩;obtain⟨mo,rfl,mo0,mo1⟩:∃mo:Int,y=.int mo/\0<=mo/\mo<=100:=by
  simp only[ws5,wr0,vb0]at hy;rcases hy with rfl | rfl | rfl | rfl | rfl
  ·exact⟨1,rfl,by decide,by decide⟩
  ·exact⟨2,rfl,by decide,by decide⟩
  ·exact⟨3,rfl,by decide,by decide⟩
  ·exact⟨4,rfl,by decide,by decide⟩
  ·exact⟨6,rfl,by decide,by decide⟩
 have Sb:=Sa.setHand (r':=r) cb;have fb:=fa.put' (a:=hd) (o:=hl db mb tb r) (by trivial);refine⟨hd,en,wd,WA,D,tb,r,(lv:Int),mo,dp,rfl,by lia,mo0,mo1,Sb,hr0,by lia,fun rv rsv fsv Hc tc rc hrv hfv hlv Sc fc hc0 hc1 hc2=>?_⟩;have fc':=fb.trans fc;refine⟨_,rfl,_,rfl,_,rfl,_,rfl,hd,en,wd,WA,D,tc,rc,rfl,Sc,by lia,fun x1 Hd td Sd fd' htd _=>?_⟩;refine⟨_,rfl,_,rfl,_,rfl,hd,en,wd,WA,D,td,rc,rfl,Sd,by lia,fun x2 He te Se fe hte _=>?_⟩;have fe':=(fc'.trans fd').trans fe;refine⟨by show 3<=sizeLine;exact ws3 (s1 (by decide)),fun pg hpg=>?_⟩;have Sf:=Se.fr0 (FrS.new (S:=[]) (o:=.lst [V.non,V.str x1,V.str x2]) hpg);have ff:=fe'.trans (FrS.new (o:=.lst [V.non,V.str x1,V.str x2]) hpg);have hpgd:pg≠hd:=fun z=>Se.notin hpg (by rw[z];simp)
 obtain⟨d,m,hh⟩:=Sf.hand;refine⟨hd,pg,d,m,te,rc,_,rfl,hh,by lia,hpgd,SqL.of zb1,by simp,by show 3<1000;decide,fun gv dg mg' tg hgv cg eg=>?_⟩;have Sg:=Sf.setHand (r':=rc) cg;have fg:=ff.put' (a:=hd) (o:=hl dg mg' tg rc) (by trivial);obtain⟨kv,henv,hk⟩:=Sg.env;obtain⟨kt,hto,hkt⟩:=Sg.told;obtain⟨ov,hask,hov⟩:∃ov:Option V,DAsk (upd (upd He pg (.lst [V.non,V.str x1,V.str x2])) hd (hl dg mg' tg rc)) en gv ov/\(ov.getD .non=.non∨∃n∈D.names,ov.getD .non=.str n):=by
  simp only[ws5,wr0,vb0]at hgv;rcases hgv with rfl | rfl | rfl
  ·exact⟨none,⟨kv,.inl henv,.inl ⟨rfl,rfl⟩⟩,.inl rfl⟩
  ·exact⟨_,⟨kv,.inl henv,.inr ⟨Sum.inr x1,rfl,rfl⟩⟩,hk.get _⟩
  ·exact⟨_,⟨kv,.inl henv,.inr ⟨Sum.inr x2,rfl,rfl⟩⟩,hk.get _⟩
 refine⟨_,rfl,en,rfl,.inl ⟨_,.inl henv⟩,_,rfl,ov,hask,_,rfl,wd,_,rfl,Sg.w.g.2.2.2.2.2.2.2.2.1,_,rfl,WA.told,_,rfl,DPut.k (k:=(Sum.inr dn:Key)) hto (s1 (by have:=hkt.len;lia)),?_⟩;have Sh:=Sg.setTold (hkt.put hdn hov);have fh:=fg.put' (a:=WA.told) (o:=.dK (putK kt (Sum.inr dn) (ov.getD .non))) (by trivial);have hDh:=hD8.keep fh;refine⟨_,rfl,_,rfl,Dl,_,rfl,.inl ⟨SqL.of hDh.2,fun pq hpq=>?_⟩⟩;refine⟨_,rfl,_,rfl,by show 4<=sizeLine;exact ws3 (s1 (by decide)),fun pr hpr=>?_⟩;have fk:FrS (Ms hd en WA) Hc (upd (upd (upd He pg (.lst [V.non,V.str x1,V.str x2])) hd (hl dg mg' tg rc)) WA.told (.dK (putK kt (Sum.inr dn) (ov.getD .non)))):=(((fd'.trans fe).trans (FrS.new hpg)).put' (.head _)).put' (.tail _ (.tail _ (.head _)));have tpk:=(Sc.tup fk).trans ((Tup.new hpq).trans (Tup.new (o:=.tup [V.str dn,V.ref pq,V.ref rv,gv]) hpr));exact q pr dn _ gv rv rsv fsv _ tg rc hdq zb1 (tpk _ _ hrv) (hfv.keep tpk) hlv ((Sh.fr0 (FrS.new hpq)).fr0 (FrS.new hpr)).close (fcl _ ((fh.trans (FrS.new hpq)).trans (FrS.new hpr))) hc0 hc1 (by lia)
theorem xx8{K:PySem.W.Frag}{a:Addr}{xs:List V}{g:TG}{tb:TS}{D:Ends}{σ:St}{H:Hp}(Pv:Nat->St->Hp->Prop)(h0:Pv 0 σ H)(hl:∀i σ H,i<=xs.length->Pv i σ H->SqL K H a xs)
  (hs:∀i x p σ H,xs[i]?=some x->Pv i σ H->H p=none->g (.ref p) σ (upd H p (.tup [.int (i:Nat),x])) fun σ2 H2=>tb {D with nx:=Pv (i+1),ct:=Pv (i+1),bk:=D.nx} σ2 H2) (hd:∀σ H,Pv xs.length σ H->D.nx σ H):
  ∃W:Nat->Nat->St->Hp->Prop,(∃m,W 0 m σ H)/\∀i m σ H,W i m σ H->
   ((Ite K a).stop i H/\D.nx σ H)∨((Ite K a).go i H/\∃N:St->Hp->Prop,(∀σ' H',N σ' H'->∃m',m'<m/\W (i+1) m' σ' H')/\∀x H',(Ite K a).yld i H x H'->g x σ H' fun σ2 H2=>tb {D with nx:=N,ct:=N,bk:=D.nx} σ2 H2):=by
 refine⟨fun i m σ H=>m=xs.length-i/\i<=xs.length/\Pv i σ H,⟨xs.length,by simp,wt6 _,h0⟩,?_⟩;rintro i m σ H ⟨rfl,hi,p⟩;have q:=hl i σ H hi p
 by_cases hlt:i<xs.length
 ·refine .inr ⟨⟨xs,xs[i],q,by simp[hlt]⟩,Pv (i+1),fun σ' H' p'=>⟨xs.length-(i+1),by lia,rfl,hlt,p'⟩,fun x H' y=>?_⟩;obtain⟨p2,y2,hp2,rfl,rfl,yy⟩:=y;exact hs i y2 p2 σ _ (yy xs q) p hp2
 ·have e:i=xs.length:=by lia
  subst e;exact .inl ⟨⟨xs,q,wr5 _⟩,hd σ H p⟩
inductive xb9(H:Hp)(hd pn pt pl:Addr)(n:Nat)(way t r:Int)(ws:List Str)(i:Nat)(σ:St)(Hx:Hp):Prop
 | mk(kx nx ex:Option V)(dx mx tx:Int)(tr:Tr)(ts:List Addr)(late:List Str)(h1:σ=[some (.ref hd),some (.int (n:Int)),some (.ref pn),some (.int way),some (.ref pt),some (.ref pl),kx,nx,ex])
   (h2:FrS [hd] H Hx) (h3:Hand Hx hd dx mx tx r) (h4:tx<=t+12+3*(i:Int)) (h5:Hx pn=some (.lst (ws.map V.str))) (h6:Hx pt=some (.lst (ts.map V.ref))) (h7:Hx pl=some (.lst (late.map V.str))) (h8:ts.length=i) (h9:tr.map (·.1)=ws.take i) (h10:TrOk tr)
   (h11:∀(j:Nat) t x,ts[j]?=some t->tr[j]?=some x->Hx t=some (.tup [.str x.1,eldV x.2])) (h12:late.length<=i) (h13:∀x∈late,∃j,1<=j/\j<i/\ws[j]?=some x):xb9 H hd pn pt pl n way t r ws i σ Hx
abbrev wj8:Stmt:=top 22
inductive wc3(vs:List V)(H:Hp)(Q:VK):Prop
 | mk(hd:Addr)(d m t r:Int)(h1:vs=[.ref hd])(h2:Hand H hd d m t r)(h3:t+100<1000000)(h4:∀(a tp lp:Addr)(ts:List Addr)(tr:Tr)(late:List Str)(d' m' t':Int)(H':Hp),FrS [hd] H H'->Hand H' hd d' m' t' r->t'<=t+60->H' a=some (.tup [.ref tp,.ref lp])->H tp=none->H lp=none->H' tp=some (.lst (ts.map V.ref))->ts.length=tr.length->(∀(j:Nat) t x,ts[j]?=some t->tr[j]?=some x->H' t=some (.tup [.str x.1,eldV x.2]))->TrOk tr->tr≠[]->tr.length<=12->H' lp=some (.lst (late.map V.str))->(∀x∈late,x∈tr.map (·.1))->late.length<=12->(∃x∈tr.map (·.1),x∉late)->Q (.ref a) H'):wc3  vs H Q
def xq6:Sp:=fun vs H Q _=>wc3  vs H Q
abbrev nTree:List Str:=["_law_hand_here","_law_many","_law_names","_law_way","_law_tree_here","_law_late","_law_k","_law_name","_law_elder"]
theorem zp6:zd1 nTree ["_law_hand_here"] (zc2 wj8):=⟨rfl,rfl,rfl,by decide +kernel,rfl,by decide +kernel,by decide +kernel⟩
set_option maxHeartbeats 4000000 in
theorem wh6{k:Nat}(F:Fun K "_law_tree" "_law_tree" wj8 f fd)(T:Cal P w K mg base k "_law_take" ["_law_hand_here","_law_many"] zj0)(O:Cal P w K mg base k "_law_of" ["_law_hand_here","_law_some"] (spOf K))
  (W:Cal P w K mg base k "_law_words" ["_law_hand_here","_law_many"] yh7) (ml:mg "len"=none) (me:mg "enumerate"=none):FnOk P w K mg base CX0 (k+1) f fd ["_law_hand_here"] xq6:=by
 obtain⟨g,gd,GT,bT,kT,mT⟩:=T.ex;obtain⟨g2,gd2,GO,bO,kO,mO⟩:=O.ex;obtain⟨g3,gd3,GW,bW,kW,mW⟩:=W.ex;refine F.ok zp6 (fun vs H Q E h=>?_) (fun cdv A outer s H vs Q E hr h=>?_)
 ·obtain⟨hd,d,m,t,r,rfl,_⟩:=h;rfl
 obtain⟨hd,d,m,t,r,rfl,hh,ht,q⟩:=h;have hu:=zn1 hr;refine⟨_,zb3 (zc3 (i:=1) zp6.nd rfl (wt1 rfl) (zb8 GO hr rfl mO kO bO .nil zc6 (zb0 (pv 0) (zb0 (zd7 (zf3 (zf3 (zf3 (zf3 (zf3 (zf3 (zf3 (zf3 zb2))))))))) zb2))))
  (zb3 (zc3 (i:=2) zp6.nd rfl (wt1 rfl) (zb8 GW hr rfl mW kW bW .nil zc6 (zb0 (pv 0) (zb0 (pv 1) zb2))))
  (zb3 (zc3 (i:=3) zp6.nd rfl (wt1 rfl) (zb8 GT hr rfl mT kT bT .nil zc6 (zb0 (pv 0) (zb0 zb6 zb2))))
  (zb3 (zc3 (i:=4) zp6.nd rfl (wt1 rfl) (zd7 zb2))
  (zb3 (zc3 (i:=5) zp6.nd rfl (wt1 rfl) (zd7 zb2))
  (zb3 (zf9 wv0 rfl (xj5 rfl me (zb0 (pv 2) zb2)) (zh8 (n:=2) rfl (zc1 (zb9 (i:=6) zp6.nd rfl (wt1 rfl)) (zc1 (zb9 (i:=7) zp6.nd rfl (wt1 rfl)) zg2)))
   (zb3 (zc3 (i:=8) zp6.nd rfl (wt1 rfl) yq3)
   (zb3 (zh3 (PW.pt (zk4 (zc4 yh6 (pv 6) zb6 (zd6 _)) (zk0 (zc4 yh6 (zb8 GT hr rfl mT kT bT .nil zc6 (zb0 (pv 0) (zb0 zb6 zb2))) zb6 (zd6 _)))))
    (zb7 (zc3 (i:=8) zp6.nd rfl (wt1 rfl) (eI (pv 2) (eI (zd7 (zb0 (zf4 zv3 (pv 6) zb6) (zb0 zb6 (zb0 (zf4 zz8 (zf4 zv3 (pv 6) zb6) zb6) (zb0 (zb8 GT hr rfl mT kT bT .nil zc6 (zb0 (pv 0) (zb0 (pv 6) zb2))) zb2))))) (pv 3))))) zd5)
   (zb3 (zh3 (PW.pt (zk4 (zc4 zg6 (pv 8) (pv 5) rfl) (zk0 (zc4 zp3 (zf2 zg3 rfl ml vb1 (zb0 (pv 5) zb2)) zb6 (zd6 _))))) (zb7 (zc3 (i:=8) zp6.nd rfl (wt1 rfl) yq3)) zd5)
   (zb3 (zh3 (PW.pt (xq7 (zc4 zg6 (pv 8) (pv 5) rfl) (yn1 (PW.pt (zk4 (zc4 xc7 (zf2 zg3 rfl ml vb1 (zb0 (pv 5) zb2)) zb6 (zd6 _)) (zk4 (zc4 yh6 (pv 6) zb6 (zd6 _)) (zk0 (zc4 zp3 (zb8 GT hr rfl mT kT bT .nil zc6 (zb0 (pv 0) (zb0 zb6 zb2))) zb6 (zd6 _)))))))))
    (zb7 (zg1 (zm9 wv2 wv6 wv7 zf5 (pv 5) (zb0 (pv 7) zb2)))) zd5)
   (zb7 (zg1 (zm9 wv2 wv6 wv7 zf5 (pv 4) (zb0 (zf0 (zb0 (pv 7) (zb0 (pv 8) zb2))) zb2)))))))))
  (zb7 (zd0 (zf0 (zb0 (pv 4) (zb0 (pv 5) zb2)))))))))),?_⟩
 first | dsimp only[cxOf,Cx.nox] | skip
 have s1:∀{n:Nat},n<=1000->n<sizeLine:=fun h=>zc0 h;refine⟨_,rfl,by show 8<=sizeLine;exact ws3 (s1 (by decide)),fun p0 hp0=>?_⟩;have h0d:p0≠hd:=fun z=>by rw[z,hh.1]at hp0;cases hp0
 have hh0:Hand (upd H p0 (.lst [V.int 1,V.int 2,V.int 3,V.int 4,V.int 5,V.int 6,V.int 8,V.int 12])) hd d m t r:=hh.new hp0;have f0:FrS [hd] H (upd H p0 (.lst [V.int 1,V.int 2,V.int 3,V.int 4,V.int 5,V.int 6,V.int 8,V.int 12])):=FrS.new hp0;have hq0:upd H p0 (.lst [V.int 1,V.int 2,V.int 3,V.int 4,V.int 5,V.int 6,V.int 8,V.int 12]) p0=some (.lst [V.int 1,V.int 2,V.int 3,V.int 4,V.int 5,V.int 6,V.int 8,V.int 12]):=zb1;generalize upd H p0 (.lst [V.int 1,V.int 2,V.int 3,V.int 4,V.int 5,V.int 6,V.int 8,V.int 12])=H0 at hh0 f0 hq0;refine⟨hd,p0,d,m,t,r,_,rfl,hh0,by lia,h0d,SqL.of hq0,by simp,by show 8<1000;decide,fun x d1 m1 t1 hx c1 e1=>?_⟩;obtain⟨n,rfl,n1,n12⟩:∃n:Nat,x=.int (n:Int)/\1<=n/\n<=12:=by
  simp only[ws5,wr0,vb0]at hx;rcases hx with rfl | rfl | rfl | rfl | rfl | rfl | rfl | rfl
  ·exact⟨1,rfl,by decide,by decide⟩
  ·exact⟨2,rfl,by decide,by decide⟩
  ·exact⟨3,rfl,by decide,by decide⟩
  ·exact⟨4,rfl,by decide,by decide⟩
  ·exact⟨5,rfl,by decide,by decide⟩
  ·exact⟨6,rfl,by decide,by decide⟩
  ·exact⟨8,rfl,by decide,by decide⟩
  ·exact⟨12,rfl,by decide,by decide⟩
 have f1:FrS [hd] H (upd H0 hd (hl d1 m1 t1 r)):=f0.put' (by trivial);have hh1:Hand (upd H0 hd (hl d1 m1 t1 r)) hd d1 m1 t1 r:=Hand.at c1;generalize upd H0 hd (hl d1 m1 t1 r)=H1 at f1 hh1;refine⟨_,rfl,_,rfl,hd,d1,m1,t1,r,n,rfl,hh1,by lia,n12,fun pn ws d2 m2 t2 H2 f2 hh2 ht2 hpn hpn2 hwl hwn=>?_⟩;have f02:=f1.trans f2;refine⟨_,rfl,hd,d2,m2,t2,r,4,rfl,hh2,by lia,by decide,by decide,fun way d3 m3 t3 w0 w1 c3 e3=>?_⟩;have f03:FrS [hd] H (upd H2 hd (hl d3 m3 t3 r)):=f02.put' (by trivial);have hh3:Hand (upd H2 hd (hl d3 m3 t3 r)) hd d3 m3 t3 r:=Hand.at c3;have hpn3:upd H2 hd (hl d3 m3 t3 r) pn=some (.lst (ws.map V.str)):=by rw[zb5 (zj3 hpn2 hh2)];exact hpn2
 generalize upd H2 hd (hl d3 m3 t3 r)=H3 at f03 hh3 hpn3;refine⟨wt6 _,fun pt hpt=>?_⟩;have hh4:=hh3.new (o:=.lst []) hpt;have f04:FrS [hd] H (upd H3 pt (.lst [])):=f03.trans (FrS.new hpt);have hpn4:upd H3 pt (.lst []) pn=some (.lst (ws.map V.str)):=by rw[zb5 (zb4 hpn3 hpt)];exact hpn3
 have hpt4:upd H3 pt (.lst []) pt=some (.lst []):=zb1;have hptH:H pt=none:=zv8 f03 hh3 hpt;have hpnt:pn≠pt:=zb4 hpn3 hpt;generalize upd H3 pt (.lst [])=H4 at hh4 f04 hpn4 hpt4;refine⟨wt6 _,fun pl hpl=>?_⟩;have hh5:=hh4.new (o:=.lst []) hpl;have f05:FrS [hd] H (upd H4 pl (.lst [])):=f04.trans (FrS.new hpl);have hpn5:upd H4 pl (.lst []) pn=some (.lst (ws.map V.str)):=by rw[zb5 (zb4 hpn4 hpl)];exact hpn4
 have hpt5:upd H4 pl (.lst []) pt=some (.lst []):=by rw[zb5 (zb4 hpt4 hpl)];exact hpt4
 have hpl5:upd H4 pl (.lst []) pl=some (.lst []):=zb1;have hplH:H pl=none:=zv8 f04 hh4 hpl;have hpnl:pn≠pl:=zb4 hpn4 hpl;have hptl:pt≠pl:=zb4 hpt4 hpl;generalize upd H4 pl (.lst [])=H5 at hh5 f05 hpn5 hpt5 hpl5;have hpnd:pn≠hd:=zj3 hpn5 hh5;have hptd:pt≠hd:=fun z=>by rw[z,hh.1]at hptH;cases hptH
 have hpld:pl≠hd:=fun z=>by rw[z,hh.1]at hplH;cases hplH
 refine⟨_,rfl,pn,_,rfl,SqL.of hpn5,?_⟩;refine xx8 (xs:=ws.map V.str) (xb9 H hd pn pt pl n way t r ws)
  ⟨_,_,_,d3,m3,t3,[],[],[],rfl,f05,hh5,by lia,hpn5,hpt5,hpl5,rfl,rfl,TrOk.nil,(fun j t x h=>by simp at h),by simp,by simp⟩ ?_ ?_ ?_
 ·rintro i σ Hx hi ⟨_,_,_,_,_,_,_,_,_,_,_,_,_,hpnx,_⟩;exact SqL.of hpnx
 ·rintro i x p σ Hx hx ⟨kx,nx,ex,dx,mx,tx,tr,ts,late,rfl,fx,hhx,htx,hpnx,hptx,hplx,htl,htr,hok,htt,hll,hlm⟩ hp;obtain⟨hi,_⟩:=wr1.mp hx;rw[lqm]at hi;rw[wr3,wq9 hi]at hx;cases hx;have hwi:ws[i]?=some ws[i]:=wq9 hi;refine⟨p,_,rfl,SqT.of zb1,rfl,_,_,rfl,_,_,rfl,rfl,?_⟩;have keep:∀b o,Hx b=some o->upd Hx p (.tup [V.int (i:Nat),V.str ws[i]]) b=some o:=fun b o e=>by rw[zb5 (zb4 e hp)];exact e
  have fx1:FrS [hd] H (upd Hx p (.tup [V.int (i:Nat),V.str ws[i]])):=fx.trans (FrS.new hp);have hhx1:Hand (upd Hx p (.tup [V.int (i:Nat),V.str ws[i]])) hd dx mx tx r:=hhx.new hp;have htt1:∀(j:Nat) t x,ts[j]?=some t->tr[j]?=some x->upd Hx p (.tup [V.int (i:Nat),V.str ws[i]]) t=some (.tup [.str x.1,eldV x.2]):=fun j t x a b=>keep _ _ (htt j t x a b);have hpn1:=keep _ _ hpnx;have hpt1:=keep _ _ hptx;have hpl1:=keep _ _ hplx;generalize upd Hx p (.tup [V.int (i:Nat),V.str ws[i]])=Hy at fx1 hhx1 htt1 hpn1 hpt1 hpl1;have fin:∀(e:Option Str)(late':List Str)(Hz:Hp)(dz mz tz:Int),(∀x,e=some x->x∈ws.take i)->FrS [hd] H Hz->Hand Hz hd dz mz tz r->tz<=t+12+3*((i+1:Nat):Int)->Hz pn=some (.lst (ws.map V.str))->Hz pt=some (.lst (ts.map V.ref))->Hz pl=some (.lst (late'.map V.str))->
    (∀(j:Nat) t x,ts[j]?=some t->tr[j]?=some x->Hz t=some (.tup [.str x.1,eldV x.2]))->late'.length<=i+1->(∀x∈late',∃j,1<=j/\j<i+1/\ws[j]?=some x)->
    xr8 (tBM K "list" zt5 (tVar 4) (zc5 (tTup (zc5 (tVar 7) (zc5 (tVar 8) tNil))) tNil))
    ⟨xb9 H hd pn pt pl n way t r ws (i+1),fun _ _=>False,fun _ _=>False,fun _ _=>False⟩
    [some (.ref hd),some (.int (n:Int)),some (.ref pn),some (.int way),some (.ref pt),some (.ref pl),some (.int (i:Nat)),some (.str ws[i]),some (eldV e)] Hz:=by
   intro e late' Hz dz mz tz he fz hhz htz hpnz hptz hplz httz hlz hlmz;refine⟨_,rfl,.inl ⟨rfl,_,SqL.of hptz⟩,_,rfl,_,rfl,by show 2<=sizeLine;exact ws3 (s1 (by decide)),fun pp hpp=>?_⟩;have hpt':upd Hz pp (.tup [V.str ws[i],eldV e]) pt=some (.lst (ts.map V.ref)):=by rw[zb5 (zb4 hptz hpp)];exact hptz
   have hppt:pp≠pt:=fun z=>by rw[z,hptz]at hpp;cases hpp
   have hn:ws[i]∉tr.map (·.1):=by
    rw[htr];intro hm;obtain⟨j,hj,ej⟩:=vc0 hm;rw[wt4]at hj;rw[List.getElem_take]at ej;have:=(vn5 hwn).mp ej;lia
   refine⟨pt,_,_,rfl,rfl,hpt',by rw[lqm];exact s1 (by lia),_,_,_,dz,mz,tz,tr++[(ws[i],e)],ts++[pp],late',rfl,(fz.trans (FrS.new hpp)).put hptH,?_,htz,?_,?_,?_,?_,?_,?_,?_,hlz,hlmz⟩
   ·exact⟨by rw[zb5 hptd.symm,zb5 (zb4 hhz.1 hpp)];exact hhz.1,hhz.2⟩
   ·rw[zb5 hpnt,zb5 (zb4 hpnz hpp)];exact hpnz
   ·rw[zb1,wr9];rfl
   ·rw[zb5 hptl.symm,zb5 (zb4 hplz hpp)];exact hplz
   ·rw[wr2,htl];rfl
   ·rw[wr9,htr,ws7,hwi];rfl
   ·exact hok.snoc hn fun x hx=>by rw[htr];exact he x hx
   ·intro j t' x ht' hx;have htrl:tr.length=ts.length:=by
     have:=wx5 List.length htr;rw[lqm,wt4]at this;lia
    by_cases hj:j<ts.length
    ·rw[wz1 hj]at ht';rw[wz1 (by lia)]at hx;have h3:=httz j t' x ht' hx;have h4:upd Hz pp (.tup [V.str ws[i],eldV e]) t'=some (.tup [.str x.1,eldV x.2]):=by rw[zb5 (zb4 h3 hpp)];exact h3
     rw[zb5 (fun z=>by rw[z,hpt']at h4;cases h4)];exact h4
    ·rw[wz8 (by lia)]at ht';rw[wz8 (by lia),htrl]at hx;have h0:j-ts.length=0:=by
      cases hz:j-ts.length with
      | zero=>rfl
      | succ k=>rw[hz]at ht';simp at ht'
     rw[h0]at ht' hx;simp only[vk2,vr0]at ht' hx;subst ht' hx;rw[zb5 hppt];exact zb1
  have mid:∀(e:Option Str)(Hz:Hp)(dz mz tz:Int),(∀x,e=some x->x∈ws.take i)->(i=0->e=none)->FrS [hd] H Hz->Hand Hz hd dz mz tz r->tz<=t+14+3*(i:Int)->Hz pn=some (.lst (ws.map V.str))->Hz pt=some (.lst (ts.map V.ref))->Hz pl=some (.lst (late.map V.str))->
    (∀(j:Nat) t x,ts[j]?=some t->tr[j]?=some x->Hz t=some (.tup [.str x.1,eldV x.2]))->
    tSeq (tIfS (tOr (zn4 (tOp (rIn K false) (tVar 8) (tVar 5))) (tAnd (zn4 (tOp (rI0 fun i j=>.bl (decide (i<j))) (tCB (fun xs H Q=>∃p ys,xs=[.ref p]/\(SqL K H p ys∨SqT K H p ys)/\Q (.int ys.length) H) (zc5 (tVar 5) tNil)) (tC (.int 6)))) (tAnd (zn4 (tOp (rI0 fun i j=>.bl (decide (j<i))) (tVar 6) (tC (.int 0)))) (zn4 (tOp rEq (zn6 zj0 [] E0 (zc5 (tVar 0) (zc5 (tC (.int 4)) tNil))) (tC (.int 0)))))))
     (xr8 (tBM K "list" zt5 (tVar 5) (zc5 (tVar 7) tNil))) yv3)
    (xr8 (tBM K "list" zt5 (tVar 4) (zc5 (tTup (zc5 (tVar 7) (zc5 (tVar 8) tNil))) tNil)))
    ⟨xb9 H hd pn pt pl n way t r ws (i+1),fun _ _=>False,fun _ _=>False,fun _ _=>False⟩
    [some (.ref hd),some (.int (n:Int)),some (.ref pn),some (.int way),some (.ref pt),some (.ref pl),some (.int (i:Nat)),some (.str ws[i]),some (eldV e)] Hz:=by
   intro e Hz dz mz tz he he0 fz hhz htz hpnz hptz hplz httz;have fl:zz6 (eldV e)=true:=by cases e <;> rfl
   have app:1<=i->∀(Hv:Hp)(dv mv tv:Int),FrS [hd] H Hv->Hand Hv hd dv mv tv r->tv<=t+15+3*(i:Int)->Hv pn=some (.lst (ws.map V.str))->Hv pt=some (.lst (ts.map V.ref))->Hv pl=some (.lst (late.map V.str))->
     (∀(j:Nat) t x,ts[j]?=some t->tr[j]?=some x->Hv t=some (.tup [.str x.1,eldV x.2]))->_:=fun h1 Hv dv mv tv fv hhv htv hpnv hptv hplv httv=>
    fin e (late++[ws[i]]) (upd Hv pl (.lst (late.map V.str++[V.str ws[i]]))) dv mv tv he (fv.put hplH) ⟨by rw[zb5 hpld.symm];exact hhv.1,hhv.2⟩ (by lia) (by rw[zb5 hpnl];exact hpnv) (by rw[zb5 hptl];exact hptv) (by rw[zb1,wr9];rfl)
     (fun j t x a b=>by have h3:=httv j t x a b;rw[zb5 (fun z=>by rw[z,hplv]at h3;cases h3)];exact h3) (by rw[wr2,ws8];lia)
     (fun x hx=>by
      rcases wt9.mp hx with h | h
      ·obtain⟨j,j1,j2,j3⟩:=hlm x h;exact⟨j,j1,by lia,j3⟩
      ·rw[wv1.mp h];exact⟨i,h1,by lia,hwi⟩)
   have noa:∀(Hv:Hp)(dv mv tv:Int),FrS [hd] H Hv->Hand Hv hd dv mv tv r->tv<=t+15+3*(i:Int)->Hv pn=some (.lst (ws.map V.str))->Hv pt=some (.lst (ts.map V.ref))->Hv pl=some (.lst (late.map V.str))->
     (∀(j:Nat) t x,ts[j]?=some t->tr[j]?=some x->Hv t=some (.tup [.str x.1,eldV x.2]))->_:=fun Hv dv mv tv fv hhv htv hpnv hptv hplv httv=>
    fin e late Hv dv mv tv he fv hhv (by lia) hpnv hptv hplv httv (by lia) (fun x hx=>by
      obtain⟨j,j1,j2,j3⟩:=hlm x hx;exact⟨j,j1,by lia,j3⟩)
   refine⟨_,rfl,_,rfl,pl,_,rfl,.inl (SqL.of hplz),fl,zf8 _,_,rfl,?_⟩;refine ite2 (fun c=>?_) (fun c=>?_)
   ·have h1:1<=i:=by
     rcases Nat.eq_zero_or_pos i with h | h
     ·exfalso;rw[he0 h]at c;have:late=[]:=vf9.mp (by lia);rw[this]at c;cases c
     ·exact h
    exact⟨_,rfl,.inl ⟨rfl,_,SqL.of hplz⟩,_,rfl,pl,_,_,rfl,rfl,hplz,by rw[lqm];exact s1 (by lia),app h1 Hz dz mz tz fz hhz (by lia) hpnz hptz hplz httz⟩
   ·refine⟨_,rfl,pl,_,rfl,.inl (SqL.of hplz),_,_,rfl,rfl,_,rfl,?_⟩;refine ite2 (fun c2=>?_) (fun c2=>noa Hz dz mz tz fz hhz (by lia) hpnz hptz hplz httz);refine⟨_,rfl,_,_,rfl,rfl,_,rfl,?_⟩;refine ite2 (fun c3=>?_) (fun c3=>noa Hz dz mz tz fz hhz (by lia) hpnz hptz hplz httz);have h1:(0:Int)<(i:Int):=ws0 c3;refine⟨_,rfl,hd,dz,mz,tz,r,4,rfl,hhz,by lia,by decide,by decide,fun y dv mv tv y0 y1 cv ev=>⟨rfl,_,rfl,?_⟩⟩;have hhv:Hand (upd Hz hd (hl dv mv tv r)) hd dv mv tv r:=Hand.at cv;have fv:FrS [hd] H (upd Hz hd (hl dv mv tv r)):=fz.put' (by trivial);have hpnv:upd Hz hd (hl dv mv tv r) pn=some (.lst (ws.map V.str)):=by rw[zb5 hpnd];exact hpnz
    have hptv:upd Hz hd (hl dv mv tv r) pt=some (.lst (ts.map V.ref)):=by rw[zb5 hptd];exact hptz
    have hplv:upd Hz hd (hl dv mv tv r) pl=some (.lst (late.map V.str)):=by rw[zb5 hpld];exact hplz
    have httv:∀(j:Nat) t x,ts[j]?=some t->tr[j]?=some x->upd Hz hd (hl dv mv tv r) t=some (.tup [.str x.1,eldV x.2]):=fun j t x a b=>by
     have h3:=httz j t x a b;rw[zb5 (fun z=>by rw[z,hhz.1]at h3;cases h3)];exact h3
    refine ite2 (fun c4=>?_) (fun c4=>noa _ dv mv tv fv hhv (by lia) hpnv hptv hplv httv);exact⟨_,rfl,.inl ⟨rfl,_,SqL.of hplv⟩,_,rfl,pl,_,_,rfl,rfl,hplv,by rw[lqm];exact s1 (by lia),app (by lia) _ dv mv tv fv hhv (by lia) hpnv hptv hplv httv⟩
  have mid2:∀(e:Option Str)(Hz:Hp)(dz mz tz:Int),(∀x,e=some x->x∈ws.take i)->(i=0->e=none)->FrS [hd] H Hz->Hand Hz hd dz mz tz r->tz<=t+14+3*(i:Int)->Hz pn=some (.lst (ws.map V.str))->Hz pt=some (.lst (ts.map V.ref))->Hz pl=some (.lst (late.map V.str))->
    (∀(j:Nat) t x,ts[j]?=some t->tr[j]?=some x->Hz t=some (.tup [.str x.1,eldV x.2]))->∀R:TS,(∀e':Option Str,(∀x,e'=some x->x∈ws.take i)->(i=0->e'=none)->R ⟨xb9 H hd pn pt pl n way t r ws (i+1),fun _ _=>False,fun _ _=>False,fun _ _=>False⟩ [some (.ref hd),some (.int (n:Int)),some (.ref pn),some (.int way),some (.ref pt),some (.ref pl),some (.int (i:Nat)),some (.str ws[i]),some (eldV e')] Hz)->
    tSeq (tIfS (tAnd (zn4 (tOp (rIn K false) (tVar 8) (tVar 5))) (zn4 (tOp rEq (tCB (fun xs H Q=>∃p ys,xs=[.ref p]/\(SqL K H p ys∨SqT K H p ys)/\Q (.int ys.length) H) (zc5 (tVar 5) tNil)) (tC (.int 6))))) (tAsg (tC .non) (zd9 8)) yv3) R
    ⟨xb9 H hd pn pt pl n way t r ws (i+1),fun _ _=>False,fun _ _=>False,fun _ _=>False⟩
    [some (.ref hd),some (.int (n:Int)),some (.ref pn),some (.int way),some (.ref pt),some (.ref pl),some (.int (i:Nat)),some (.str ws[i]),some (eldV e)] Hz:=by
   intro e Hz dz mz tz he he0 fz hhz htz hpnz hptz hplz httz R hR;have fl:zz6 (eldV e)=true:=by cases e <;> rfl
   refine⟨_,rfl,_,rfl,pl,_,rfl,.inl (SqL.of hplz),fl,zf8 _,_,rfl,?_⟩;refine ite2 (fun c=>?_) (fun c=>hR e he he0);refine⟨_,rfl,pl,_,rfl,.inl (SqL.of hplz),rfl,_,rfl,?_⟩;refine ite2 (fun c=>?_) (fun c=>hR e he he0);exact hR none (fun x hx=>nomatch hx) (fun _=>rfl)
  refine⟨_,rfl,_,_,rfl,rfl,_,rfl,?_⟩;refine ite2 (fun c=>?_) (fun c=>?_)
  rotate_left
  ·exact mid2 none Hy dx mx tx (fun x hx=>nomatch hx) (fun _=>rfl) fx1 hhx1 (by lia) hpn1 hpt1 hpl1 htt1 _ fun e' he' he0'=>mid e' Hy dx mx tx he' he0' fx1 hhx1 (by lia) hpn1 hpt1 hpl1 htt1
  have hi1:(0:Int)<(i:Int):=ws0 c;refine⟨_,rfl,hd,dx,mx,tx,r,6,rfl,hhx1,by lia,by decide,by decide,fun y dv mv tv y0 y1 cv ev=>⟨_,_,rfl,rfl,_,rfl,?_⟩⟩;have hhv:Hand (upd Hy hd (hl dv mv tv r)) hd dv mv tv r:=Hand.at cv;have fv:FrS [hd] H (upd Hy hd (hl dv mv tv r)):=fx1.put' (by trivial);have hpnv:upd Hy hd (hl dv mv tv r) pn=some (.lst (ws.map V.str)):=by rw[zb5 hpnd];exact hpn1
  have hptv:upd Hy hd (hl dv mv tv r) pt=some (.lst (ts.map V.ref)):=by rw[zb5 hptd];exact hpt1
  have hplv:upd Hy hd (hl dv mv tv r) pl=some (.lst (late.map V.str)):=by rw[zb5 hpld];exact hpl1
  have httv:∀(j:Nat) t x,ts[j]?=some t->tr[j]?=some x->upd Hy hd (hl dv mv tv r) t=some (.tup [.str x.1,eldV x.2]):=fun j t x a b=>by
   have h3:=htt1 j t x a b;rw[zb5 (fun z=>by rw[z,hhx1.1]at h3;cases h3)];exact h3
  generalize upd Hy hd (hl dv mv tv r)=Hv at hhv fv hpnv hptv hplv httv;refine ite2 (fun c=>?_) (fun c=>?_)
  rotate_left
  ·exact mid2 none Hv dv mv tv (fun x hx=>nomatch hx) (fun _=>rfl) fv hhv (by lia) hpnv hptv hplv httv _ fun e' he' he0'=>mid e' Hv dv mv tv he' he0' fv hhv (by lia) hpnv hptv hplv httv
  refine⟨_,rfl,_,rfl,_,_,rfl,rfl,_,rfl,_,_,rfl,rfl,_,_,rfl,rfl,⟨by decide,by decide⟩,_,rfl,_,rfl,hd,dv,mv,tv,r,_,rfl,hhv,by lia,by lia,by lia,fun z du mu tu z0 z1 cu eu=>⟨by show 4<=sizeLine;exact ws3 (s1 (by decide)),fun p4 hp4=>?_⟩⟩;have hhu0:Hand (upd Hv hd (hl du mu tu r)) hd du mu tu r:=Hand.at cu;have fu0:FrS [hd] H (upd Hv hd (hl du mu tu r)):=fv.put' (by trivial);have kp:∀b o,b≠hd->Hv b=some o->upd (upd Hv hd (hl du mu tu r)) p4 (.lst [V.int ((i:Int)-1),V.int 0,V.int (((i:Int)-1) / 2),V.int z]) b=some o:=fun b o n e=>by
   have h1:upd Hv hd (hl du mu tu r) b=some o:=by rw[zb5 n];exact e
   rw[zb5 (zb4 h1 hp4)];exact h1
  have hhu:=hhu0.new (o:=.lst [V.int ((i:Int)-1),V.int 0,V.int (((i:Int)-1) / 2),V.int z]) hp4;have fu:FrS [hd] H (upd (upd Hv hd (hl du mu tu r)) p4 (.lst [V.int ((i:Int)-1),V.int 0,V.int (((i:Int)-1) / 2),V.int z])):=fu0.trans (FrS.new hp4);have hp5:upd (upd Hv hd (hl du mu tu r)) p4 (.lst [V.int ((i:Int)-1),V.int 0,V.int (((i:Int)-1) / 2),V.int z]) p4=some (.lst [V.int ((i:Int)-1),V.int 0,V.int (((i:Int)-1) / 2),V.int z]):=zb1;have hpnu:=kp _ _ hpnd hpnv;have hptu:=kp _ _ hptd hptv;have hplu:=kp _ _ hpld hplv;have httu:∀(j:Nat) t x,ts[j]?=some t->tr[j]?=some x->upd (upd Hv hd (hl du mu tu r)) p4 (.lst [V.int ((i:Int)-1),V.int 0,V.int (((i:Int)-1) / 2),V.int z]) t=some (.tup [.str x.1,eldV x.2]):=fun j t x a b=>by
   have h3:=httv j t x a b;exact kp _ _ (fun w=>by rw[w,hhv.1]at h3;cases h3) h3
  generalize upd (upd Hv hd (hl du mu tu r)) p4 (.lst [V.int ((i:Int)-1),V.int 0,V.int (((i:Int)-1) / 2),V.int z])=Hu at hhu fu hp5 hpnu hptu hplu httu;obtain⟨ix,hix,ix0,ix1⟩:∃ix:Nat,atI [V.int ((i:Int)-1),V.int 0,V.int (((i:Int)-1) / 2),V.int z] way=some (.int (ix:Int))/\0<=ix/\ix<i:=by
   have hc:way=0∨way=1∨way=2∨way=3:=by lia
   rcases hc with rfl | rfl | rfl | rfl
   ·exact⟨i-1,by rw[at0];congr 2;lia,by lia,by lia⟩
   ·exact⟨0,by rw[at1];rfl,by lia,by lia⟩
   ·exact⟨(((i:Int)-1) / 2).toNat,by rw[at2];congr 2;lia,by lia,by lia⟩
   ·exact⟨z.toNat,by rw[at3];congr 2;lia,by lia,by lia⟩
  have hwx:atI (ws.map V.str) (ix:Int)=some (.str (ws[ix]'(by lia))):=zq3 (by rw[wr3,wq9 (by lia)];rfl);refine⟨_,rfl,p4,_,_,_,rfl,rfl,SqL.of hp5,hix,pn,_,_,_,rfl,rfl,SqL.of hpnu,hwx,?_⟩;have hme:∀x,some (ws[ix]'(by lia))=some x->x∈ws.take i:=fun x hx=>by
   cases hx;have:(ws.take i)[ix]?=some (ws[ix]'(by lia)):=by rw[List.getElem?_take_of_lt ix1];exact wq9 (by lia)
   exact ws4 this
  exact mid2 (some (ws[ix]'(by lia))) Hu du mu tu hme (fun h=>by lia) fu hhu (by lia) hpnu hptu hplu httu _ fun e' he' he0'=>mid e' Hu du mu tu he' he0' fu hhu (by lia) hpnu hptu hplu httu
 ·rintro σ Hx ⟨kx,nx,ex,dx,mx,tx,tr,ts,late,rfl,fx,hhx,htx,hpnx,hptx,hplx,htl,htr,hok,htt,hll,hlm⟩;rw[lqm]at htx htl htr hll hlm;rw[wr8 (wr5 _)]at htr;have hlen:tr.length=ws.length:=by rw[←htr,lqm]
  refine⟨_,rfl,_,rfl,by show 2<=sizeLine;exact ws3 (s1 (by decide)),fun pa hpa=>?_⟩;have kp:∀b o,Hx b=some o->upd Hx pa (.tup [V.ref pt,V.ref pl]) b=some o:=fun b o e=>by rw[zb5 (zb4 e hpa)];exact e
  refine q pa pt pl ts tr late dx mx tx _ (fx.trans (FrS.new hpa)) (hhx.new hpa) (by lia) zb1 hptH hplH (kp _ _ hptx) (by lia) (fun j t x a b=>kp _ _ (htt j t x a b)) hok ?_ (by lia) (kp _ _ hplx) ?_ (by lia) ?_
  ·intro z;rw[z]at hlen;simp at hlen;lia
  ·intro x hx;obtain⟨j,_,_,j3⟩:=hlm x hx;rw[htr];exact ws4 j3
  ·have h0:0<ws.length:=by lia
   refine⟨ws[0],by rw[htr];exact ww5 h0,fun hm=>?_⟩;obtain⟨j,j1,j2,j3⟩:=hlm _ hm;obtain⟨j4,j5⟩:=wr1.mp j3;have:=(vn5 hwn).mp j5;lia
inductive VF where
 | var (x:Str)
 | cut (x:Str) (lo hi:Option Int)
 | dict0
deriving DecidableEq
def yc3:Option Expr->Option (Option Int)
 | none=>some none
 | some (.Constant (.int i) _ _)=>some (some i)
 | _=>none
def yk6:Expr->Option VF
 | .Name x _=>some (.var x)
 | .Subscript (.Name x _) (.Slice lo hi none _) _=>match yc3 lo,yc3 hi with
  | some a,some b=>some (.cut x a b)
  | _,_=>none
 | .Dict [] [] _=>some .dict0
 | _=>none
def zq7:List (Option Expr)->List Expr->Option (List (Str×VF))
 | [],[]=>some []
 | some (.Constant (.str x) _ _)::ks,v::vs=>match yk6 v,zq7 ks vs with
  | some f,some r=>some ((x,f)::r)
  | _,_=>none
 | _,_=>none
def yv5:Expr->Option (List (Str×VF))
 | .Dict ks vs _=>zq7 ks vs
 | _=>none
def xb2:List Stmt->Expr
 | [.Return (some v) _]=>v
 | _::r=>xb2 r
 | []=>.Constant .none 0 ⟨0,0,0,0⟩
def wf3:List Stmt->Expr->List Stmt
 | [.Return (some _) p],v=>[.Return (some v) p]
 | a::r,v=>a::wf3 r v
 | [],_=>[]
section
variable{X:Cx}
structure VarAt(X:Cx)(i:Nat)(x:Str):Prop where
 n:X.N[i]?=some x
 v:Vis X.env.scope x
 d:(x == ("__debug__":Str))=false
 c:(x == ("__classdict__":Str))=false
def tOpt:Option Int->TO
 | none=>xm9
 | some i=>tPart (tC (.int i))
theorem xs2{e:Option Expr}{o:Option Int}(h:yc3 e=some o):PO X e (tOpt o):=by
 cases e with
 | none=>cases h;exact zm8
 | some e=>
  cases e with
  | Constant c j pos=>
   cases c with
   | int i=>cases h;exact zm6 zb6
   | _=>cases h
  | _=>cases h
inductive FTE(X:Cx):VF->TE->Prop
 | var {i:Nat} {x:Str} (h:VarAt X i x):FTE X (.var x) (tVar i)
 | cut {i:Nat} {x:Str} {lo hi:Option Int} (h:VarAt X i x):FTE X (.cut x lo hi) (tSl (rSlL X.K) (tVar i) (tOpt lo) (tOpt hi))
 | dict0:FTE X .dict0 wd3
theorem wp2{e:Expr}{f:VF}{t:TE}(h:yk6 e=some f)(ht:FTE X f t):PE X e t:=by
 cases e with
 | Name x p=>
  cases h;cases ht with
  | var h=>exact xp5 h.n h.v h.d h.c
 | Subscript a b pos=>
  cases a with
  | Name x p=>
   cases b with
   | Slice lo hi st p2=>
    cases st with
    | some z=>cases h
    | none=>
     have h:(match yc3 lo,yc3 hi with | some a,some b=>some (VF.cut x a b) | _,_=>none)=some f:=h;cases h1:yc3 lo with
     | none=>rw[h1]at h;cases h
     | some a=>
      cases h2:yc3 hi with
      | none=>rw[h1,h2]at h;cases h
      | some b=>
       rw[h1,h2]at h;cases h;cases ht with
       | cut q=>exact zk3 zt7 (xp5 q.n q.v q.d q.c) (xs2 h1) (xs2 h2)
   | _=>cases h
  | _=>cases h
 | Dict ks vs pos=>
  cases ks with
  | nil=>
   cases vs with
   | nil=>
    cases h;cases ht;exact zp9
   | cons _ _=>cases h
  | cons _ _=>cases h
 | _=>cases h
inductive FTs(X:Cx):List (Str×VF)->List (TE×TE)->Prop
 | nil:FTs X [] []
 | cons {x:Str} {f:VF} {t:TE} {fs:List (Str×VF)} {ts:List (TE×TE)} (h:FTE X f t) (r:FTs X fs ts):FTs X ((x,f)::fs) ((tC (.str x),t)::ts)
theorem xb0{pos:Pos}:∀(ks:List (Option Expr))(vs:List Expr)(fs:List (Str×VF))(ts:List (TE×TE)),zq7 ks vs=some fs->FTs X fs ts->PPs X pos ks vs ts/\ks.all (·.isSome)=true/\ks.length=vs.length/\ks.length=fs.length
 | [],[],fs,ts,h,q=>by
  cases h;cases q;exact⟨xf7,rfl,rfl,rfl⟩
 | [],_::_,fs,ts,h,q=>by cases h
 | none::_,_,fs,ts,h,q=>by
  cases h
 | some k::ks,[],fs,ts,h,q=>by
  cases k with
  | Constant c j p=>cases c <;> cases h
  | _=>cases h
 | some k::ks,v::vs,fs,ts,h,q=>by
  cases k with
  | Constant c j p=>
   cases c with
   | str x=>
    have h:(match yk6 v,zq7 ks vs with | some f,some r=>some ((x,f)::r) | _,_=>none)=some fs:=h;cases h1:yk6 v with
    | none=>rw[h1]at h;cases h
    | some f=>
     cases h2:zq7 ks vs with
     | none=>rw[h1,h2]at h;cases h
     | some r=>
      rw[h1,h2]at h;cases h;cases q with
      | cons ht hr=>
       obtain⟨a,b,c,d⟩:=xb0 ks vs r _ h2 hr;exact⟨yw6 zd4 (wp2 h1 ht) a,by rw[List.all_cons,b];rfl,by rw[wt3,wt3,c],by rw[wt3,wt3,d]⟩
   | _=>cases h
  | _=>cases h
theorem ys5{e:Expr}{fs:List (Str×VF)}{ts:List (TE×TE)}(h:yv5 e=some fs)(q:FTs X fs ts)(h0:fs≠[])(h15:fs.length<=15):PE X e (tDisp ts):=by
 cases e with
 | Dict ks vs pos=>
  obtain⟨a,b,c,d⟩:=xb0 (pos:=pos) ks vs fs ts h q;refine wg9 a b c (fun z=>h0 ?_) (by lia);rw[z]at d;exact vf9.mp d.symm
 | _=>cases h
end
theorem xw6{κ:Type}[DecidableEq κ]{kvs:List (κ×V)}{k:κ}{v:V}(h:valV kvs k=some v):(k,v)∈kvs:=by
 unfold valV at h;obtain⟨p,hp,e⟩:=wr6.mp h;have h1:=vh9 hp;have h3:=List.find?_some hp;have h2:p.1=k:=ws0 h3;rw[←h2,←e];exact h1
theorem xh0{κ:Type}[DecidableEq κ]:∀{kvs:List (κ×V)}{i:Nat}{k:κ}{v:V},(kvs.map (·.1)).Nodup->kvs[i]?=some (k,v)->valV kvs k=some v
 | [],i,k,v,_,h=>by simp at h
 | a::l,0,k,v,_,h=>by
  have:a=(k,v):=by simpa using h
  rw[this];exact zj1 rfl
 | a::l,i+1,k,v,nd,h=>by
  have h':l[i]?=some (k,v):=by simpa using h
  rw[ww3,wx9]at nd;rw[zj2 (fun e=>nd.1 (by rw[e];exact ws2.mpr ⟨_,ws4 h',rfl⟩))];exact xh0 nd.2 h'
theorem yh0:∀(more kvs:List (Key×V)),((kvs++more).map (·.1)).Nodup->zf6 kvs more=kvs++more
 | [],kvs,_=>by rw[wx1];rfl
 | a::l,kvs,nd=>by
  have hv:valV kvs a.1=none:=by
   cases e:valV kvs a.1 with
   | none=>rfl
   | some v=>
    have h1:=yj7 e;rw[wr9,ww3]at nd;have:=(List.nodup_append.mp nd).2.2 a.1 h1 a.1 (vf3 ..);exact absurd rfl this
  show zf6 (putK kvs a.1 a.2) l=_;rw[zw4 _ hv,yh0 l (kvs++[(a.1,a.2)]) (by rw[wt7];exact nd),wt7];rfl
theorem yg0:∀(more kvs:List (Key×V)),(∀k,k∈(zf6 kvs more).map (·.1)↔k∈kvs.map (·.1)∨k∈more.map (·.1))
 | [],kvs,k=>by simp[zf6]
 | a::l,kvs,k=>by
  show k∈(zf6 (putK kvs a.1 a.2) l).map (·.1)↔_;rw[yg0 l (putK kvs a.1 a.2) k,ww3,ws5];rcases yb6 kvs a.1 a.2 with ⟨e,h⟩ | ⟨e,h⟩
  ·rw[e]
   constructor
   ·rintro(h1 | h1)
    ·exact .inl h1
    ·exact .inr (.inr h1)
   ·rintro(h1 | h1 | h1)
    ·exact .inl h1
    ·rw[h1];exact .inl h
    ·exact .inr h1
  ·rw[e,wt9,wv1]
   constructor
   ·rintro((h1 | h1) | h1)
    ·exact .inl h1
    ·exact .inr (.inl h1)
    ·exact .inr (.inr h1)
   ·rintro(h1 | h1 | h1)
    ·exact .inl (.inl h1)
    ·exact .inl (.inr h1)
    ·exact .inr h1
theorem xm0(rs:List Str)(v:V):∃qs:List Str,(zf6 [] (rs.map fun r=>((Sum.inr r:Key),v))).map (fun kv=>kV kv.1)=qs.map V.str/\qs.length<=rs.length/\∀r∈rs,r∈qs:=by
 have hk:=yg0 (rs.map fun r=>((Sum.inr r:Key),v)) [];have key:∀l:List (Key×V),(∀k∈l.map (·.1),∃x,k=Sum.inr x)->∃qs:List Str,l.map (fun kv=>kV kv.1)=qs.map V.str/\qs.length=l.length/\∀x,(Sum.inr x:Key)∈l.map (·.1)->x∈qs:=by
  intro l
  induction l with
  | nil=>intro _;exact⟨[],rfl,rfl,by simp⟩
  | cons a l ih=>
   intro h;obtain⟨qs,e,el,em⟩:=ih fun k hk=>h k (ww6 _ hk);obtain⟨x,ex⟩:=h a.1 (by simp);refine⟨x::qs,by rw[ww3,ww3,e,ex];rfl,by simp[el],fun y hy=>?_⟩;rw[ww3,ws5]at hy;rcases hy with hy | hy
   ·rw[ex]at hy;rw[vk8 hy];exact vf3 ..
   ·exact ww6 _ (em y hy)
 obtain⟨qs,e,el,em⟩:=key (zf6 [] (rs.map fun r=>((Sum.inr r:Key),v))) fun k h=>by
  rcases(hk k).mp h with h | h
  ·simp at h
  ·rw[vc8]at h;obtain⟨x,_,ex⟩:=ws2.mp h;exact⟨x,ex.symm⟩
 refine⟨qs,e,?_,fun r hr=>em r ((hk _).mpr (.inr ?_))⟩
 ·have:=zh7 (rs.map fun r=>((Sum.inr r:Key),v)) [];rw[lqm,vb9]at this;lia
 ·rw[vc8];exact ws2.mpr ⟨r,hr,rfl⟩
def WantsOk(M:List Addr)(H:Hp)(N:List Str)(wk:List (List Key×V))(dn:Str->Str->Prop):Prop:=∀r d,dn r d->∃(p:Addr)(ws:List Str),valV wk [Sum.inr r,Sum.inr d]=some (.ref p)/\Stt M H p (.lst (ws.map V.str))/\ws.length<=4/\∀x∈ws,x∈N
theorem WantsOk.keep{M:List Addr}{H H':Hp}{N:List Str}{wk:List (List Key×V)}{dn:Str->Str->Prop}(h:WantsOk M H N wk dn)(f:FrS M H H'):WantsOk M H' N wk dn:=fun r d q=>by
 obtain⟨p,ws,a,b,c⟩:=h r d q;exact⟨p,ws,a,b.keep f,c⟩
theorem WantsOk.put{M:List Addr}{H:Hp}{N:List Str}{wk:List (List Key×V)}{dn:Str->Str->Prop}{r d:Str}{p:Addr}{ws:List Str}(h:WantsOk M H N wk dn)(hp:Stt M H p (.lst (ws.map V.str)))(hl:ws.length<=4)(hm:∀x∈ws,x∈N):
  WantsOk M H N (putK wk [Sum.inr r,Sum.inr d] (.ref p)) (fun a b=>dn a b∨(a=r/\b=d)):=fun a b q=>by
 by_cases e:([Sum.inr a,Sum.inr b]:List Key)=[Sum.inr r,Sum.inr d]
 ·exact⟨p,ws,by rw[zm5,ww4 e],hp,hl,hm⟩
 ·rcases q with q | ⟨rfl,rfl⟩
  ·obtain⟨p',ws',a1,b1,c1⟩:=h a b q;exact⟨p',ws',by rw[zm5,wv5 e];exact a1,b1,c1⟩
  ·exact absurd rfl e
theorem WantsOk.mono{M:List Addr}{H:Hp}{N:List Str}{wk:List (List Key×V)}{dn dn':Str->Str->Prop}(h:WantsOk M H N wk dn)(f:∀r d,dn' r d->dn r d):WantsOk M H N wk dn':=fun r d q=>h r d (f r d q)
def OwnOk(M:List Addr)(H:Hp)(N:List Str)(ok:List (Key×V))(dn:Str->Prop):Prop:=∀d,dn d->∃(p:Addr)(os:List Str),valV ok (Sum.inr d)=some (.ref p)/\Stt M H p (.lst (os.map V.str))/\(∀x∈os,x∈N)/\os.length<=13
theorem OwnOk.keep{M:List Addr}{H H':Hp}{N:List Str}{ok:List (Key×V)}{dn:Str->Prop}(h:OwnOk M H N ok dn)(f:FrS M H H'):OwnOk M H' N ok dn:=fun d q=>by
 obtain⟨p,os,a,b,c⟩:=h d q;exact⟨p,os,a,b.keep f,c⟩
theorem OwnOk.put{M:List Addr}{H:Hp}{N:List Str}{ok:List (Key×V)}{dn:Str->Prop}{d:Str}{p:Addr}{os:List Str}(h:OwnOk M H N ok dn)(hp:Stt M H p (.lst (os.map V.str)))(hm:∀x∈os,x∈N)(hl:os.length<=13):
  OwnOk M H N (putK ok (Sum.inr d) (.ref p)) (fun a=>dn a∨a=d):=fun a q=>by
 by_cases e:(Sum.inr a:Key)=Sum.inr d
 ·exact⟨p,os,by rw[zm5,ww4 e],hp,hm,hl⟩
 ·rcases q with q | rfl
  ·obtain⟨p',os',a1,b1,c1⟩:=h a q;exact⟨p',os',by rw[zm5,wv5 e];exact a1,b1,c1⟩
  ·exact absurd rfl e
theorem OwnOk.mono'{M:List Addr}{H:Hp}{N:List Str}{ok:List (Key×V)}{dn dn':Str->Prop}(h:OwnOk M H N ok dn)(f:∀d,dn' d->dn d):OwnOk M H N ok dn':=fun d q=>h d (f d q)
def RootsOk(tr:Tr)(i:Nat)(rk:List (Key×V)):Prop:=rk.map (·.1)=(tr.take i).map (fun z=>(Sum.inr z.1:Key))/\∃rs:List Str,rk.map (·.2)=rs.map V.str
theorem RootsOk.step{tr:Tr}{i:Nat}{rk:List (Key×V)}{n r:Str}{e:Option Str}(ok:TrOk tr)(h:RootsOk tr i rk)(hi:tr[i]?=some (n,e)):RootsOk tr (i+1) (putK rk (Sum.inr n) (.str r))/\(putK rk (Sum.inr n) (.str r)).length=i+1∨i > tr.length:=by
 left
 have hn:n∉(tr.take i).map (·.1):=fun hm=>by
  obtain⟨z,hz,ez⟩:=ws2.mp hm;obtain⟨j,hj,ej⟩:=vc0 hz;rw[wt4]at hj;have e1:tr[j]?=some (n,z.2):=by rw[wq9 (by lia),←ez,←ej,List.getElem_take]
  have:=ok.one hi e1;lia
 have hv:valV rk (Sum.inr n)=none:=by
  cases q:valV rk (Sum.inr n)with
  | none=>rfl
  | some v=>
   have:=yj7 q;rw[h.1]at this;obtain⟨z,hz,ez⟩:=ws2.mp this;exact absurd (ws2.mpr ⟨z,hz,vk8 ez⟩) hn
 obtain⟨rs,ers⟩:=h.2;have hlt:i<tr.length:=(wr1.mp hi).1;rw[zw4 _ hv];refine⟨⟨?_,rs++[r],?_⟩,?_⟩
 ·rw[wr9,h.1,ws7,hi,wr9];rfl
 ·rw[wr9,ers,wr9];rfl
 ·have:=wx5 List.length h.1;rw[lqm,lqm,wt4]at this;rw[wr2,ws8];lia
theorem RootsOk.val{tr:Tr}{i:Nat}{rk:List (Key×V)}(h:RootsOk tr i rk){k:Key}{v:V}(hv:valV rk k=some v):∃r,v=.str r/\V.str r∈rk.map (·.2):=by
 have hm:=xw6 hv;obtain⟨rs,e⟩:=h.2;have:v∈rk.map (·.2):=ws2.mpr ⟨_,hm,rfl⟩;have h2:=this;rw[e]at this;obtain⟨r,_,er⟩:=ws2.mp this;exact⟨r,er.symm,by rw[er];exact h2⟩
theorem wq0(xs:List V){a b:Nat}(h:b<=xs.length)(hab:a<=b):cutV xs (some (a:Int)) (some (b:Int))=(xs.drop a).take (b-a):=by
 unfold cutV;rw[HT.yk0,HT.yk0,vq1 h,vq1 (by lia)]
inductive DInv(Hb:Hp)(hd tp lp pn pd px pw po pr:Addr)(r t6:Int)(rk:List (Key×V))(rs ds:List Str)(tr:Tr)(i:Nat)(σ:St)(Hx:Hp):Prop
 | mk(nx ex dx sx:Option V)(da ma ta:Int)(wk:List (List Key×V))(ok:List (Key×V))(h1:σ=[some (.ref hd),some (.ref tp),some (.ref lp),some (.ref pn),some (.ref pd),some (.ref px),some (.ref pw),some (.ref po),some (.ref pr),nx,ex,dx,sx])
   (h2:FrS [hd,pw,po,pr] Hb Hx) (h3:Hand Hx hd da ma ta r) (h4:ta<=t6+80*(i:Int)) (h5:Hx pr=some (.dK rk)) (h6:Hx pw=some (.dT wk)) (h7:wk.length<=12*i) (h8:WantsOk [hd,pw,po,pr] Hx (tr.map (·.1)) wk (fun a b=>a∈rs/\b∈ds.take i)) (h9:Hx po=some (.dK ok)) (h10:ok.length<=i) (h11:OwnOk [hd,pw,po,pr] Hx (tr.map (·.1)) ok (fun b=>b∈ds.take i)):DInv Hb hd tp lp pn pd px pw po pr r t6 rk rs ds tr i σ Hx
inductive AInv(H9:Hp)(hd tp lp pn pd px pw po pr:Addr)(r ta:Int)(rk ok:List (Key×V))(rs qs:List Str)(tr:Tr)(dsi:List Str)(di:Str)(ex sx:Option V)(i j:Nat)(σ:St)(Hz:Hp):Prop
 | mk(nx:Option V)(dz mz tz:Int)(wz:List (List Key×V))(h1:σ=[some (.ref hd),some (.ref tp),some (.ref lp),some (.ref pn),some (.ref pd),some (.ref px),some (.ref pw),some (.ref po),some (.ref pr),nx,ex,some (.str di),sx])
   (h2:FrS [hd,pw,po,pr] H9 Hz) (h3:Hand Hz hd dz mz tz r) (h4:tz<=ta+5*(j:Int)) (h5:Hz pr=some (.dK rk)) (h6:Hz pw=some (.dT wz)) (h7:wz.length<=12*i+j) (h8:WantsOk [hd,pw,po,pr] Hz (tr.map (·.1)) wz (fun a b=>(a∈rs/\b∈dsi)∨(a∈qs.take j/\b=di))) (h9:Hz po=some (.dK ok)):AInv H9 hd tp lp pn pd px pw po pr r ta rk ok rs qs tr dsi di ex sx i j σ Hz
inductive BInv(H10:Hp)(hd tp lp pn pd px pw po pr ps:Addr)(r tA:Int)(tr:Tr)(di:Str)(j:Nat)(σ:St)(Hz:Hp):Prop
 | mk(nz ez:Option V)(dz mz tz:Int)(ss:List Str)(h1:σ=[some (.ref hd),some (.ref tp),some (.ref lp),some (.ref pn),some (.ref pd),some (.ref px),some (.ref pw),some (.ref po),some (.ref pr),nz,ez,some (.str di),some (.ref ps)])(h2:FrS [hd] H10 Hz)(h3:Hand Hz hd dz mz tz r)(h4:tz<=tA+(j:Int))(h5:Hz ps=some (.lst (ss.map V.str)))(h6:ss.length<=j)(h7:∀x∈ss,x∈tr.map (·.1)):BInv H10 hd tp lp pn pd px pw po pr ps r tA tr di j σ Hz
abbrev zv7:Stmt:=top 23
theorem wRet:zg9 zv7=wf3 (zg9 zv7) (xb2 (zg9 zv7)):=rfl
def wFs:List (Str×VF):=[("tree",.var "_law_tree_here"),("late",.var "_law_late"),("deeds",.var "_law_deeds"),("wants",.var "_law_wants"),("owners",.var "_law_owners"),("vars",.cut "_law_words_here" none (some 4)),("params",.cut "_law_words_here" (some 4) (some 8)),("fields",.cut "_law_words_here" (some 6) none),("told",.dict0),("held",.dict0),("roots",.var "_law_roots")]
theorem wForm:yv5 (xb2 (zg9 zv7))=some wFs:=by decide +kernel
inductive xf9(vs:List V)(H:Hp)(Q:VK):Prop
 | mk(hd:Addr)(d m t r:Int)(h1:vs=[.ref hd])(h2:Hand H hd d m t r)(h3:t+1000<1000000)(h4:∀(wd:Addr)(A:WA)(D:WD)(H':Hp)(t':Int),Sit0 H' hd wd A D t' r->FrS [hd] H H'->H A.told=none->H A.held=none->t'<=t+900->Q (.ref wd) H'):xf9  vs H Q
def yr6:Sp:=fun vs H Q _=>xf9  vs H Q
theorem nxI{N:St->Hp->Prop}{r:VK}{b c:St->Hp->Prop}{σ:St}{H:Hp}(h:N σ H):({nx:=N,rt:=r,bk:=b,ct:=c}:Ends).nx σ H:=h
theorem gN{i:Nat}{v:V}{σ:St}{H:Hp}{Q:St->Hp->Prop}(h:Q (σ.set i (some v)) H):zd9 i v σ H Q:=h
theorem seqN{t u:TS}{D:Ends}{σ:St}{H:Hp}(h:∀N:St->Hp->Prop,u D=N->t {D with nx:=N} σ H):tSeq t u D σ H:=h _ rfl
abbrev nWorld:List Str:=["_law_hand_here","_law_tree_here","_law_late","_law_names","_law_deeds","_law_words_here","_law_wants","_law_owners","_law_roots","_law_name","_law_elder","_law_deed_here","_law_some"]
theorem zh9:zd1 nWorld ["_law_hand_here"] (zc2 zv7):=⟨rfl,rfl,rfl,by decide +kernel,rfl,by decide +kernel,by decide +kernel⟩
set_option maxHeartbeats 8000000 in
theorem xx6{k:Nat}(F:Fun K "_law_world" "_law_world" zv7 f fd)(T:Cal P w K mg base k "_law_take" ["_law_hand_here","_law_many"] zj0)(O:Cal P w K mg base k "_law_of" ["_law_hand_here","_law_some"] (spOf K))
  (W:Cal P w K mg base k "_law_words" ["_law_hand_here","_law_many"] yh7) (TR:Cal P w K mg base k "_law_tree" ["_law_hand_here"] xq6) (mdi:mg "dict"=none) (mr:mg "range"=none) (mi:mg "int"=none):FnOk P w K mg base CX0 (k+1) f fd ["_law_hand_here"] yr6:=by
 obtain⟨g,gd,GT,bT,kT,mT⟩:=T.ex;obtain⟨g2,gd2,GO,bO,kO,mO⟩:=O.ex;obtain⟨g3,gd3,GW,bW,kW,mW⟩:=W.ex;obtain⟨g4,gd4,GR,bR,kR,mR⟩:=TR.ex;refine F.ok zh9 (fun vs H Q E h=>?_) (fun cdv A outer s H vs Q E hr h=>?_)
 ·obtain⟨hd,d,m,t,r,rfl,_⟩:=h;rfl
 obtain⟨hd,d,m,t,r,rfl,hh,ht,q⟩:=h;have hu:=zn1 hr;have nd2:(["_law_name","_law_elder"]:List Str).Nodup:=by decide +kernel
 have nd1:(["_law_root"]:List Str).Nodup:=by decide +kernel
 have nd3:(["_law_k","_law_hand_here","_law_names"]:List Str).Nodup:=by decide +kernel
 have hO:=wForm;rw[wRet];generalize xb2 (zg9 zv7)=L at hO;refine⟨_,zb3 (zr1 (zb8 GR hr rfl mR kR bR .nil zc6 (zb0 (pv 0) zb2)) (zh8 (n:=2) rfl (zc1 (zb9 (i:=1) zh9.nd rfl (wt1 rfl)) (zc1 (zb9 (i:=2) zh9.nd rfl (wt1 rfl)) zg2))))
  (zb3 (zc3 (i:=3) zh9.nd rfl (wz3 rfl) (zh4 (N':=["_law_name","_law_elder"]) (src:=[none,none]) rfl ⟨rfl,by decide +kernel,by decide +kernel,rfl,rfl,rfl⟩
   (zf7 (pv 1)) (g:=gTup K 2 (zk6 (zd9 0) (zk6 (zd9 1) gNil))) (fun _ _ _ _=>zh8 (n:=2) rfl (zc1 (zb9 (i:=0) nd2 rfl (wt1 rfl) (wz3 rfl)) (zc1 (zb9 (i:=1) nd2 rfl (wt1 rfl) (wz3 rfl)) zg2)))
   (fun _ _ _ _=>zg5) (fun _ _ _ _=>pv 0)))
  (zb3 (zc3 (i:=4) zh9.nd rfl (wt1 rfl) (zb8 GW hr rfl mW kW bW .nil zc6 (zb0 (pv 0) (zb0 (zb8 GO hr rfl mO kO bO .nil zc6 (zb0 (pv 0) (zb0 (zd7 (zf3 (zf3 (zf3 (zf3 (zf3 (zf3 (zf3 (zf3 zb2))))))))) zb2))) zb2))))
  (zb3 (zc3 (i:=5) zh9.nd rfl (wt1 rfl) (zb8 GW hr rfl mW kW bW .nil zc6 (zb0 (pv 0) (zb0 zb6 zb2))))
  (zb3 (zc3 (i:=6) zh9.nd rfl (wt1 rfl) xw0)
  (zb3 (zc3 (i:=7) zh9.nd rfl (wt1 rfl) zp9)
  (zb3 (zc3 (i:=8) zh9.nd rfl (wt1 rfl) zp9)
  (zb3 (zf9 wv0 rfl (zf7 (pv 1)) (zh8 (n:=2) rfl (zc1 (zb9 (i:=9) zh9.nd rfl (wt1 rfl)) (zc1 (zb9 (i:=10) zh9.nd rfl (wt1 rfl)) zg2)))
   (zb7 (zn8 hu (pv 8) (pv 9) (xt5 hu (pv 8) (pv 10) (pv 9) ⟨rfl,rfl,rfl,rfl⟩) rfl)))
  (zb3 (zf9 wv0 rfl (zf7 (pv 4)) (zb9 (i:=11) zh9.nd rfl (wt1 rfl))
   (zb3 (zf9 wv0 rfl (yj1 (zd2 (zh6 rfl) rfl mdi (by decide +kernel) (zb0 (xn4 (zh4 (N':=["_law_root"]) (src:=[none]) rfl ⟨rfl,by decide +kernel,by decide +kernel,rfl,rfl,rfl⟩
     (wj2 (pv 8)) (g:=zd9 0) (fun _ _ _ _=>zb9 (i:=0) nd1 rfl (wt1 rfl) (wz3 rfl)) (fun _ _ _ _=>zg5) (fun _ _ _ _=>zf0 (zb0 (pv 0) (zb0 zw1 zb2))))) zb2))) (zb9 (i:=9) zh9.nd rfl (wt1 rfl))
    (zb7 (zn8 hu (pv 6) (zf0 (zb0 (pv 9) (zb0 (pv 11) zb2))) (zh4 (N':=["_law_k","_law_hand_here","_law_names"]) (src:=[none,some 0,some 3]) rfl ⟨rfl,by decide +kernel,by decide +kernel,rfl,rfl,rfl⟩
     (zn3 rfl mr (zb0 (zb8 GO hr rfl mO kO bO .nil zc6 (zb0 (pv 0) (zb0 (zd7 (zf3 (zf3 (zf3 (zf3 (zf3 zb2)))))) zb2))) zb2)) (g:=zd9 0) (fun _ _ _ _=>zb9 (i:=0) nd3 rfl (wt1 rfl) (wz3 rfl)) (fun _ _ _ _=>zg5)
     (fun _ _ _ _=>zb8 GO hr rfl mO kO bO .nil zc6 (zb0 (pv 1) (zb0 (pv 2) zb2)))) rfl)))
   (zb3 (zc3 (i:=12) zh9.nd rfl (wt1 rfl) (zd7 zb2))
   (zb3 (zf9 wv0 rfl (zf7 (pv 1)) (zh8 (n:=2) rfl (zc1 (zb9 (i:=9) zh9.nd rfl (wt1 rfl)) (zc1 (zb9 (i:=10) zh9.nd rfl (wt1 rfl)) zg2)))
    (zb7 (zh3 (zc4 zp3 (zb8 GT hr rfl mT kT bT .nil zc6 (zb0 (pv 0) (zb0 (eI (zd7 (zf3 (zf3 zb2))) (zd2 zq9 rfl mi (by decide +kernel) (zb0 (pe_cmp (xh5 (pv 10))) zb2))) zb2))) zb6 (zd6 _))
     (zb7 (zg1 (zm9 wv2 wv6 wv7 zf5 (pv 12) (zb0 (pv 9) zb2)))) zd5)))
   (zb7 (zn8 hu (pv 7) (pv 11) (zf4 yf7 (pv 12) (zf4 op_rep (zd7 (zb0 (eI (pv 3) zb6) zb2)) (zd2 zq9 rfl mi (by decide +kernel) (zb0 (zq6 (yx1 (vg4 hu)) (pv 12) (zd7 zb2) (zd6 _)) zb2)))) rfl))))))
  (zb7 (zd0 (ys5 hO (.cons (.var (i:=1) ⟨rfl,wt1 rfl,by decide,by decide⟩) (.cons (.var (i:=2) ⟨rfl,wt1 rfl,by decide,by decide⟩) (.cons (.var (i:=4) ⟨rfl,wt1 rfl,by decide,by decide⟩) (.cons (.var (i:=6) ⟨rfl,wt1 rfl,by decide,by decide⟩) (.cons (.var (i:=7) ⟨rfl,wt1 rfl,by decide,by decide⟩)
   (.cons (.cut (i:=5) ⟨rfl,wt1 rfl,by decide,by decide⟩) (.cons (.cut (i:=5) ⟨rfl,wt1 rfl,by decide,by decide⟩) (.cons (.cut (i:=5) ⟨rfl,wt1 rfl,by decide,by decide⟩) (.cons .dict0 (.cons .dict0 (.cons (.var (i:=8) ⟨rfl,wt1 rfl,by decide,by decide⟩) .nil))))))))))) (by simp[wFs]) (by decide)))))))))))),?_⟩
 first | dsimp only[cxOf,Cx.nox] | skip
 have s1:∀{n:Nat},n<=1000->n<sizeLine:=fun h=>zc0 h;refine seqN fun N hN=>?_;refine⟨_,rfl,hd,d,m,t,r,rfl,hh,by lia,fun a tp lp ts tr late d1 m1 t1 H1 f1 hh1 ht1 ha htpH hlpH htp1 htl htt hok hne h12 hlp1 hlm hll hso=>?_⟩;refine⟨a,_,rfl,SqT.of ha,rfl,_,_,rfl,_,_,rfl,rfl,?_⟩;subst hN
 first | refine nxI ?_ | skip
 refine seqN fun N hN=>?_;refine⟨_,rfl,tp,rfl,⟨_,SqL.of htp1⟩,fun pn hpn=>?_⟩;refine zt1 (tr:=tr) htp1 htl htt hpn (by lia) fun H2 f2 hpn2=>?_
 subst hN
 first | refine nxI ?_ | skip
 refine seqN fun N hN=>?_;have hh2:Hand H2 hd d1 m1 t1 r:=⟨f2 _ _ (by trivial) hh1.1,hh1.2⟩;have f02:FrS [hd] H H2:=f1.trans (f2.mono (by trivial));have htp2:=f2 _ _ (by trivial) htp1;have hlp2:=f2 _ _ (by trivial) hlp1;have htt2:∀(j:Nat) t x,ts[j]?=some t->tr[j]?=some x->H2 t=some (.tup [.str x.1,eldV x.2]):=fun j t x a b=>f2 _ _ (by trivial) (htt j t x a b)
 have htpd:tp≠hd:=fun z=>by rw[z,hh.1]at htpH;cases htpH
 have hlpd:lp≠hd:=fun z=>by rw[z,hh.1]at hlpH;cases hlpH
 refine⟨_,rfl,_,rfl,by show 8<=sizeLine;exact ws3 (s1 (by decide)),fun p0 hp0=>?_⟩;have h0d:p0≠hd:=fun z=>by rw[z,hh2.1]at hp0;cases hp0
 have hh3:=hh2.new (o:=.lst [V.int 1,V.int 2,V.int 2,V.int 3,V.int 3,V.int 4,V.int 4,V.int 6]) hp0;have f3:FrS [] H2 (upd H2 p0 (.lst [V.int 1,V.int 2,V.int 2,V.int 3,V.int 3,V.int 4,V.int 4,V.int 6])):=FrS.new hp0;have hq0:upd H2 p0 (.lst [V.int 1,V.int 2,V.int 2,V.int 3,V.int 3,V.int 4,V.int 4,V.int 6]) p0=some (.lst [V.int 1,V.int 2,V.int 2,V.int 3,V.int 3,V.int 4,V.int 4,V.int 6]):=zb1;generalize upd H2 p0 (.lst [V.int 1,V.int 2,V.int 2,V.int 3,V.int 3,V.int 4,V.int 4,V.int 6])=H3 at hh3 f3 hq0;refine⟨hd,p0,d1,m1,t1,r,_,rfl,hh3,by lia,h0d,SqL.of hq0,by simp,by show 8<1000;decide,fun x d4 m4 t4 hx c4 e4=>?_⟩;obtain⟨n,rfl,n1,n6⟩:∃n:Nat,x=.int (n:Int)/\1<=n/\n<=6:=by
  simp only[ws5,wr0,vb0]at hx;rcases hx with rfl | rfl | rfl | rfl | rfl | rfl | rfl | rfl
  ·exact⟨1,rfl,by decide,by decide⟩
  ·exact⟨2,rfl,by decide,by decide⟩
  ·exact⟨2,rfl,by decide,by decide⟩
  ·exact⟨3,rfl,by decide,by decide⟩
  ·exact⟨3,rfl,by decide,by decide⟩
  ·exact⟨4,rfl,by decide,by decide⟩
  ·exact⟨4,rfl,by decide,by decide⟩
  ·exact⟨6,rfl,by decide,by decide⟩
 have f4:FrS [hd] H2 (upd H3 hd (hl d4 m4 t4 r)):=(f3.mono (by trivial)).put' (by trivial);have hh4:Hand (upd H3 hd (hl d4 m4 t4 r)) hd d4 m4 t4 r:=Hand.at c4;generalize upd H3 hd (hl d4 m4 t4 r)=H4 at f4 hh4;refine⟨hd,d4,m4,t4,r,n,rfl,hh4,by lia,by lia,fun pd ds d5 m5 t5 H5 f5 hh5 ht5 hpd hpd5 hdl hdn=>?_⟩;subst hN
 first | refine nxI ?_ | skip
 refine seqN fun N hN=>?_;refine⟨_,rfl,hd,d5,m5,t5,r,9,rfl,hh5,by lia,by decide,fun px xs d6 m6 t6 H6 f6 hh6 ht6 hpx hpx6 hxl hxn=>?_⟩;subst hN
 first | refine nxI ?_ | skip
 refine seqN fun N hN=>?_;have f26:FrS [hd] H2 H6:=(f4.trans f5).trans f6;have f06:FrS [hd] H H6:=f02.trans f26;have hpdd:pd≠hd:=zj3 hpd5 hh5;have hpxd:px≠hd:=zj3 hpx6 hh6;have hpnd:pn≠hd:=zj3 hpn2 hh2;have ttd:∀(j:Nat) t x,ts[j]?=some t->tr[j]?=some x->t≠hd:=fun j t x a b z=>by have h3:=htt2 j t x a b;rw[z,hh2.1]at h3;cases h3
 have htp6:=f26 _ _ (by simpa using htpd) htp2;have hlp6:=f26 _ _ (by simpa using hlpd) hlp2;have hpn6:=f26 _ _ (by simpa using hpnd) hpn2;have hpd6:=f6 _ _ (by simpa using hpdd) hpd5;have htt6:∀(j:Nat) t x,ts[j]?=some t->tr[j]?=some x->H6 t=some (.tup [.str x.1,eldV x.2]):=fun j t x a b=>f26 _ _ (by simpa using ttd j t x a b) (htt2 j t x a b)
 intro pw hpw;subst hN
 first | refine nxI ?_ | skip
 refine seqN fun N hN=>?_;intro po hpo;subst hN
 first | refine nxI ?_ | skip
 refine seqN fun N hN=>?_;intro pr hpr;subst hN
 first | refine nxI ?_ | skip
 refine seqN fun N hN=>?_;have hpo6:H6 po=none:=by rw[←zb5 (H:=H6) (a:=pw) (b:=po) (o:=.dT []) (fun z=>by rw[z,zb1]at hpo;cases hpo)];exact hpo
 have hpow:po≠pw:=fun z=>by rw[z,zb1]at hpo;cases hpo
 have hprw:pr≠pw:=fun z=>by rw[z,zb5 hpow.symm,zb1]at hpr;cases hpr
 have hpro:pr≠po:=fun z=>by rw[z,zb1]at hpr;cases hpr
 have hpr6:H6 pr=none:=by rw[zb5 hpro,zb5 hprw]at hpr;exact hpr
 have hbw:upd (upd (upd H6 pw (.dT [])) po (.dK [])) pr (.dK []) pw=some (.dT []):=by rw[zb5 hprw.symm,zb5 hpow.symm];exact zb1
 have hbo:upd (upd (upd H6 pw (.dT [])) po (.dK [])) pr (.dK []) po=some (.dK []):=by rw[zb5 hpro.symm];exact zb1
 have hbr:upd (upd (upd H6 pw (.dT [])) po (.dK [])) pr (.dK []) pr=some (.dK []):=zb1;have fb:FrS [] H6 (upd (upd (upd H6 pw (.dT [])) po (.dK [])) pr (.dK [])):=((FrS.new hpw).trans (FrS.new hpo)).trans (FrS.new hpr);generalize upd (upd (upd H6 pw (.dT [])) po (.dK [])) pr (.dK [])=Hb at hbw hbo hbr fb;have hhb:Hand Hb hd d6 m6 t6 r:=⟨fb _ _ (by trivial) hh6.1,hh6.2⟩;have hdw:hd≠pw:=zb4 hh6.1 hpw;have hdo:hd≠po:=zb4 hh6.1 hpo6;have hdr:hd≠pr:=zb4 hh6.1 hpr6;have stat:∀b o,b≠hd->H6 b=some o->Stt [hd,pw,po,pr] Hb b o:=fun b o n e=>⟨by simp only[ws5,wr0,vb0,not_or];exact⟨n,zb4 e hpw,zb4 e hpo6,zb4 e hpr6⟩,fb _ _ (by trivial) e⟩
 have Stp:=stat _ _ htpd htp6;have Slp:=stat _ _ hlpd hlp6;have Spn:=stat _ _ hpnd hpn6;have Spd:=stat _ _ hpdd hpd6;have Spx:=stat _ _ hpxd hpx6;have Stt':∀(j:Nat) t x,ts[j]?=some t->tr[j]?=some x->Stt [hd,pw,po,pr] Hb t (.tup [.str x.1,eldV x.2]):=fun j t x a b=>stat _ _ (ttd j t x a b) (htt6 j t x a b);have f0b:FrS [hd] H Hb:=f06.trans (fb.mono (by trivial));have hpwH:H pw=none:=zv8 f06 hh6 hpw;have hpoH:H po=none:=zv8 f06 hh6 hpo6;have hprH:H pr=none:=zv8 f06 hh6 hpr6;have toH:∀Hx:Hp,FrS [hd,pw,po,pr] Hb Hx->FrS [hd] H Hx:=fun Hx fx b o n e=>fx b o (by
  simp only[ws5,wr0,vb0,not_or]at n ⊢;exact⟨n,zb4 e hpwH,zb4 e hpoH,zb4 e hprH⟩) (f0b b o n e)
 have hin:∀Hx:Hp,(∃o,Hx hd=some o)->(∃o,Hx pw=some o)->(∃o,Hx po=some o)->(∃o,Hx pr=some o)->∀p,Hx p=none->p∉[hd,pw,po,pr]:=fun Hx a b c e p hp z=>by
  simp only[ws5,wr0,vb0]at z;rcases z with z | z | z | z
  ·obtain⟨o,ho⟩:=a;rw[←z,hp]at ho;cases ho
  ·obtain⟨o,ho⟩:=b;rw[←z,hp]at ho;cases ho
  ·obtain⟨o,ho⟩:=c;rw[←z,hp]at ho;cases ho
  ·obtain⟨o,ho⟩:=e;rw[←z,hp]at ho;cases ho
 refine⟨_,rfl,tp,rfl,⟨_,SqL.of Stp.2⟩,?_⟩;refine zm4 (xs:=ts.map V.ref) (fun i σ Hx=>∃(nx ex:Option V)(rk:List (Key×V)),σ=[some (.ref hd),some (.ref tp),some (.ref lp),some (.ref pn),some (.ref pd),some (.ref px),some (.ref pw),some (.ref po),some (.ref pr),nx,ex,none,none]/\FrS [pr] Hb Hx/\Hx pr=some (.dK rk)/\RootsOk tr i rk) ⟨_,_,[],rfl,FrS.refl,hbr,rfl,[],rfl⟩ ?_ ?_ ?_
 ·rintro i σ Hx hi ⟨_,_,_,_,fx,_⟩;exact SqL.of (Stp.keep (fx.mono (by trivial))).2
 ·rintro i x σ Hx hx ⟨nx,ex,rk,rfl,fx,hrx,hrk⟩;rw[wr3]at hx;obtain⟨tt,htt',rfl⟩:=wr6.mp hx;obtain⟨hi,_⟩:=wr1.mp htt';have htr:tr[i]?=some tr[i]:=wq9 (by lia);have e3:=(Stt' i tt _ htt' htr).keep (fx.mono (by trivial));refine⟨tt,_,rfl,SqT.of e3.2,rfl,_,_,rfl,_,_,rfl,rfl,?_⟩;have hrl:rk.length<=12:=by
   have:=wx5 List.length hrk.1;rw[lqm,lqm,wt4]at this;lia
  obtain⟨ov,hask,r',hr'⟩:∃ov:Option V,DAsk Hx pr (eldV tr[i].2) ov/\∃r',ov.getD (.str tr[i].1)=.str r':=by
   cases he:tr[i].2 with
   | none=>exact⟨none,⟨rk,.inl hrx,.inl ⟨rfl,rfl⟩⟩,_,rfl⟩
   | some e=>
    refine⟨_,⟨rk,.inl hrx,.inr ⟨Sum.inr e,rfl,rfl⟩⟩,?_⟩;cases hv:valV rk (Sum.inr e)with
    | none=>exact⟨_,rfl⟩
    | some v=>
     obtain⟨r',rfl,_⟩:=hrk.val hv;exact⟨r',rfl⟩
  refine⟨_,rfl,pr,rfl,.inl ⟨_,.inl hrx⟩,_,rfl,_,rfl,ov,hask,_,rfl,_,rfl,pr,_,rfl,DPut.k (k:=(Sum.inr tr[i].1:Key)) hrx (s1 (by lia)),_,_,_,rfl,fx.put' (by trivial),zb1,?_⟩;rw[hr'];rcases RootsOk.step (r:=r') (n:=tr[i].1) (e:=tr[i].2) hok hrk htr with h | h
  ·exact h.1
  ·lia
 rintro σ H7 ⟨nx7,ex7,rk,rfl,f7,hr7,hrk⟩;subst hN
 first | refine nxI ?_ | skip
 refine seqN fun N hN=>?_;rw[lqm]at hrk;have hrk2:=hrk;unfold RootsOk at hrk2;rw[wr8 (by lia)]at hrk2;obtain⟨rs,hrs⟩:=hrk2.2;have hrsl:rs.length=tr.length:=by
  have h1:=wx5 List.length hrk2.1;have h2:=wx5 List.length hrs;rw[lqm,lqm]at h1 h2;lia
 have f7':FrS [hd,pw,po,pr] Hb H7:=f7.mono (by trivial);have hh7:Hand H7 hd d6 m6 t6 r:=⟨f7 _ _ (by simpa using hdr) hhb.1,hhb.2⟩;have hw7:=f7 _ _ (by simpa using hprw.symm) hbw;have ho7:=f7 _ _ (by simpa using hpro.symm) hbo;refine⟨_,rfl,pd,rfl,⟨_,SqL.of (Spd.keep f7').2⟩,?_⟩;refine zm4 (xs:=ds.map V.str) (DInv Hb hd tp lp pn pd px pw po pr r t6 rk rs ds tr)
  ⟨_,_,_,_,d6,m6,t6,[],[],rfl,f7',hh7,by lia,hr7,hw7,by simp,(fun r d h=>by simp at h),ho7,by simp,(fun d h=>by simp at h)⟩ ?_ ?_ ?_
 ·rintro i σ Hx hi ⟨_,_,_,_,_,_,_,_,_,_,fx,_⟩;exact SqL.of (Spd.keep fx).2
 ·rintro i x σ Hx hx ⟨nx,ex,dx,sx,da,ma,ta,wk,ok,rfl,fx,hhx,hta,hrx,hwx,hwl,hwk,hox,hol,hok'⟩;obtain⟨hi,_⟩:=wr1.mp hx;rw[lqm]at hi;rw[wr3,wq9 hi]at hx;cases hx;have hnames:∀Hy:Hp,FrS [hd,pw,po,pr] Hb Hy->Hy pn=some (.lst ((tr.map (·.1)).map V.str)):=fun Hy fy=>(Spn.keep fy).2;have htrn:(tr.map (·.1))≠[]:=by simpa using hne
  have htrl:(tr.map (·.1)).length<=12:=by rw[lqm];exact h12
  refine gN ?_;refine seqN fun N2 hN2=>?_;refine⟨pr,rk,hrx,?_⟩;refine⟨_,rfl,pr,rk,rfl,hrx,fun o Dl hDl=>?_⟩;have hDr:Dl≠pr:=fun z=>by rw[z,zb1]at hDl;cases hDl
  have hDx:Hx Dl=none:=by rw[zb5 hDr]at hDl;exact hDl
  refine yj9 (xs:=rk.map fun kv=>kv.2) (fun i' σ Hy=>(∃x,σ=[x])/\FrS [] (upd Hx pr (.frz o (.dK rk))) Hy/\∃as:List Addr,as.length=i'/\Hy Dl=some (.lst (as.map V.ref))/\∀(j:Nat) a,as[j]?=some a->∃rt,rs[j]?=some rt/\Hy a=some (.tup [.str rt,.bl true])) ⟨⟨_,rfl⟩,(FrS.refl).put hDl,[],rfl,zb1,(fun j a h=>by simp at h)⟩ ?_ ?_ ?_
  ·rintro i' σ Hy hi ⟨_,fy,_⟩;exact fy _ _ (by trivial) zb1
  ·rintro i' x σ Hy hx ⟨⟨x0,rfl⟩,fy,as,hal,hDy,has⟩;rw[hrs]at hx;obtain⟨hi',_⟩:=wr1.mp hx;rw[lqm]at hi';rw[wr3,wq9 hi']at hx;cases hx;refine⟨_,rfl,by show 2<=sizeLine;exact ws3 (s1 (by decide)),fun tq htq=>?_⟩;have hDt:Dl≠tq:=zb4 hDy htq;have hD2:upd Hy tq (.tup [V.str rs[i'],V.bl true]) Dl=some (.lst (as.map V.ref)):=by rw[zb5 hDt];exact hDy
   refine⟨_,hD2,by rw[lqm];exact s1 (by lia),⟨_,rfl⟩,(fy.trans (FrS.new htq)).put hDl,as++[tq],by rw[wr2,hal];rfl,by rw[zb1,wr9];rfl,fun j a' e=>?_⟩
   by_cases hj:j<as.length
   ·rw[wz1 hj]at e;obtain⟨rt,e1,e2⟩:=has j a' e;have e3:upd Hy tq (.tup [V.str rs[i'],V.bl true]) a'=some (.tup [.str rt,.bl true]):=by rw[zb5 (zb4 e2 htq)];exact e2
    exact⟨rt,e1,yj4 hD2 _ _ e3⟩
   ·rw[wz8 (by lia)]at e;have h0:j-as.length=0:=by
     cases hz:j-as.length with
     | zero=>rfl
     | succ k=>rw[hz]at e;simp at e
    rw[h0]at e;simp only[vk2,vr0]at e;subst e;have:j=i':=by lia
    subst this;exact⟨_,wq9 hi',yj4 hD2 _ _ zb1⟩
  rintro σ Hy ⟨_,fy,as,hal,hDy,has⟩;rw[lqm]at hal;have hrkl:rk.length=rs.length:=by
   have h2:=wx5 List.length hrs;rw[lqm,lqm]at h2;exact h2
  refine⟨o,fy _ _ (by trivial) zb1,?_⟩;have f8:FrS [] Hx (upd Hy pr (.dK rk)):=FrS.thaw hrx fy;have hD8:upd Hy pr (.dK rk) Dl=some (.lst (as.map V.ref)):=by rw[zb5 hDr];exact hDy
  have has8:∀(j:Nat) a,as[j]?=some a->∃rt,rs[j]?=some rt/\upd Hy pr (.dK rk) a=some (.tup [.str rt,.bl true]):=fun j a e=>by
   obtain⟨rt,e1,e2⟩:=has j a e;exact⟨rt,e1,by rw[zb5 (fun z=>by rw[z,fy _ _ (by trivial) zb1]at e2;cases e2)];exact e2⟩
  generalize upd Hy pr (.dK rk)=H8 at f8 hD8 has8;refine⟨Dl,as,rs.map (fun r=>((Sum.inr r:Key),V.bl true)),rfl,SqL.of hD8,by rw[lqm];lia,by rw[lqm];exact s1 (by lia),fun j t' kv ht' hkv=>?_,fun l hlN=>?_⟩
  ·obtain⟨rt,e1,e2⟩:=has8 j t' ht';rw[wr3,e1]at hkv;cases hkv;exact SqT.of e2
  refine⟨l,_,rfl,zb1,fun o2=>?_⟩;obtain⟨qs,eq,eql,eqm⟩:=xm0 rs (.bl true);generalize zf6 [] (rs.map (fun r=>((Sum.inr r:Key),V.bl true)))=kv2 at eq;rw[zq5];have fx8:FrS [] Hx (upd H8 l (.frz o2 (.dK kv2))):=f8.trans (FrS.new hlN);have hl9:upd H8 l (.frz o2 (.dK kv2)) l=some (.frz o2 (.dK kv2)):=zb1;generalize upd H8 l (.frz o2 (.dK kv2))=H9 at fx8 hl9;have hlx:Hx l=none:=f8.old (by trivial) hlN;have hlM:l∉[hd,pw,po,pr]:=hin Hx ⟨_,hhx.1⟩ ⟨_,hwx⟩ ⟨_,hox⟩ ⟨_,hrx⟩ l hlx;refine for_x (xs:=kv2.map fun kv=>kV kv.1) (AInv H9 hd tp lp pn pd px pw po pr r ta rk ok rs qs tr (ds.take i) ds[i] ex sx i)
   ⟨_,da,ma,ta,wk,rfl,FrS.refl,⟨fx8 _ _ (by trivial) hhx.1,hhx.2⟩,by lia,fx8 _ _ (by trivial) hrx,fx8 _ _ (by trivial) hwx,by lia,(hwk.keep (fx8.mono (by trivial))).mono (fun a b h=>by rcases h with h | h;exact h;simp at h),fx8 _ _ (by trivial) hox⟩ ?_ ?_ ?_
  ·rintro j σ Hz hj ⟨_,_,_,_,_,_,fz,_⟩;exact fz _ _ hlM hl9
  ·rintro j x σ Hz hx ⟨nxz,dz,mz,tz,wz,rfl,fz,hhz,htz,hrz,hwz,hwzl,hwok,hoz⟩;rw[eq]at hx;obtain⟨hj,_⟩:=wr1.mp hx;rw[lqm]at hj;rw[wr3,wq9 hj]at hx;cases hx;have fbz:FrS [hd,pw,po,pr] Hb Hz:=(fx.trans (fx8.mono (by trivial))).trans fz;refine⟨_,rfl,by show 5<=sizeLine;exact ws3 (s1 (by decide)),fun p5 hp5=>?_⟩;have h5d:p5≠hd:=fun z=>by rw[z,hhz.1]at hp5;cases hp5
   refine⟨hd,p5,dz,mz,tz,r,_,rfl,hhz.new hp5,by lia,h5d,SqL.of zb1,by simp,by show 5<1000;decide,fun y dq mq tq hy cq eq'=>?_⟩;obtain⟨jn,rfl,jn4⟩:∃jn:Nat,y=.int (jn:Int)/\jn<=4:=by
    simp only[ws5,wr0,vb0]at hy;rcases hy with rfl | rfl | rfl | rfl | rfl
    ·exact⟨0,rfl,by decide⟩
    ·exact⟨1,rfl,by decide⟩
    ·exact⟨1,rfl,by decide⟩
    ·exact⟨2,rfl,by decide⟩
    ·exact⟨4,rfl,by decide⟩
   have fq:FrS [hd] Hz (upd (upd Hz p5 (.lst [V.int 0,V.int 1,V.int 1,V.int 2,V.int 4])) hd (hl dq mq tq r)):=(FrS.new hp5).put' (by trivial);have hhq:Hand (upd (upd Hz p5 (.lst [V.int 0,V.int 1,V.int 1,V.int 2,V.int 4])) hd (hl dq mq tq r)) hd dq mq tq r:=Hand.at cq;generalize upd (upd Hz p5 (.lst [V.int 0,V.int 1,V.int 1,V.int 2,V.int 4])) hd (hl dq mq tq r)=Hq at fq hhq;refine⟨(jn:Int),rfl,by lia,by lia,fun Dw hDw=>?_⟩;have hDwd:Dw≠hd:=fun z=>by rw[z,hhq.1]at hDw;cases hDw
   have hDwz:Hz Dw=none:=zv8 fq hhq hDw;have hDwM:Dw∉[hd,pw,po,pr]:=hin Hz ⟨_,hhz.1⟩ ⟨_,hwz⟩ ⟨_,hoz⟩ ⟨_,hrz⟩ Dw hDwz;refine yb9 (lo:=0) (n:=(jn:Int).toNat) (fun i'' σ Hu=>(∃kx,σ=[kx,some (.ref hd),some (.ref pn)])/\FrS [hd] Hq Hu/\∃(du mu tu:Int)(ws:List Str),Hand Hu hd du mu tu r/\tu<=tq+i''/\Hu Dw=some (.lst (ws.map V.str))/\ws.length=i''/\∀x∈ws,x∈tr.map (·.1))
    ⟨⟨_,rfl⟩,FrS.new hDw,dq,mq,tq,[],hhq.new hDw,by lia,zb1,rfl,by simp⟩ ?_ ?_
   ·rintro i'' σ Hu hi'' ⟨⟨kx,rfl⟩,fu,du,mu,tu,ws,hhu,htu,hDu,hwsl,hwsm⟩;have hpnu:Hu pn=some (.lst ((tr.map (·.1)).map V.str)):=fu _ _ (by simpa using hpnd) (fq _ _ (by simpa using hpnd) (hnames Hz fbz));refine⟨_,rfl,_,rfl,hd,pn,du,mu,tu,r,_,rfl,hhu,by lia,hpnd,SqL.of hpnu,by simpa using htrn,by rw[lqm];lia,fun v dv mv tv hv cv ev=>?_⟩;obtain⟨nm,hnm,rfl⟩:=ws2.mp hv;refine⟨_,by rw[zb5 hDwd];exact hDu,by rw[lqm];exact s1 (by lia),⟨_,rfl⟩,(fu.put' (by trivial)).put hDw,dv,mv,tv,ws++[nm],⟨by rw[zb5 hDwd.symm];exact zb1,cv⟩,by lia,by rw[zb1,wr9];rfl,by rw[wr2,hwsl];rfl,fun x hx=>?_⟩;rcases wt9.mp hx with h | h
    ·exact hwsm x h
    ·rw[wv1.mp h];exact hnm
   rintro σ Hu ⟨_,fu,du,mu,tu,ws,hhu,htu,hDu,hwsl,hwsm⟩;have fzu:FrS [hd] Hz Hu:=fq.trans fu;refine⟨_,rfl,_,rfl,_,rfl,by show 2<=sizeLine;exact ws3 (s1 (by decide)),fun pk hpk=>?_⟩;have fzk:FrS [hd] Hz (upd Hu pk (.tup [V.str qs[j],V.str ds[i]])):=fzu.trans (FrS.new hpk);have hDk:upd Hu pk (.tup [V.str qs[j],V.str ds[i]]) Dw=some (.lst (ws.map V.str)):=by rw[zb5 (zb4 hDu hpk)];exact hDu
   have hhk:=hhu.new (o:=.tup [V.str qs[j],V.str ds[i]]) hpk;have hkk:upd Hu pk (.tup [V.str qs[j],V.str ds[i]]) pk=some (.tup [V.str qs[j],V.str ds[i]]):=zb1;generalize upd Hu pk (.tup [V.str qs[j],V.str ds[i]])=Hk at fzk hDk hhk hkk;have hwk':=fzk _ _ (by simpa using hdw.symm) hwz;have hDw2:Dw≠pw:=fun z=>hDwM (by rw[z];simp)
   refine⟨pw,_,rfl,DPut.t (k:=[Sum.inr qs[j],Sum.inr ds[i]]) hwk' hkk (s1 (by lia)),_,du,mu,tu,_,rfl,fz.trans ((fzk.mono (by trivial)).put' (by trivial)),⟨by rw[zb5 hdw];exact hhk.1,hhk.2⟩,by lia,by rw[zb5 hprw];exact fzk _ _ (by simpa using hdr.symm) hrz,zb1,?_,?_,by rw[zb5 hpow];exact fzk _ _ (by simpa using hdo.symm) hoz⟩
   ·have:=zg7 wz [Sum.inr qs[j],Sum.inr ds[i]] (V.ref Dw);lia
   ·have W1:=hwok.keep ((fzk.mono (T:=[hd,pw,po,pr]) (by trivial)).put' (a:=pw) (o:=.dT (putK wz [Sum.inr qs[j],Sum.inr ds[i]] (.ref Dw))) (by trivial));refine(W1.put (r:=qs[j]) (d:=ds[i]) (p:=Dw) (ws:=ws) ⟨hDwM,by rw[zb5 hDw2];exact hDk⟩ (by lia) hwsm).mono fun a b h=>?_
    rcases h with h | ⟨h1,h2⟩
    ·exact .inl (.inl h)
    ·rw[ws7,wq9 hj]at h1;rcases wt9.mp h1 with h1 | h1
     ·exact .inl (.inr ⟨h1,h2⟩)
     ·have:a=qs[j]:=by simpa using h1
      exact .inr ⟨this,h2⟩
  rintro σ H10 ⟨nxa,dA,mA,tA,wA,rfl,fA,hhA,htA,hrA,hwA,hwAl,hwAk,hoA⟩;subst hN2
  first | refine nxI ?_ | skip
  refine seqN fun N2 hN2=>?_;have hql:(kv2.map fun kv=>kV kv.1).length=qs.length:=by rw[eq,lqm]
  rw[hql]at htA hwAl hwAk;rw[wr8 (wr5 _)]at hwAk;have fbA:FrS [hd,pw,po,pr] Hb H10:=(fx.trans (fx8.mono (by trivial))).trans fA;have hokA:OwnOk [hd,pw,po,pr] H10 (tr.map (·.1)) ok (fun b=>b∈ds.take i):=hok'.keep ((fx8.mono (by trivial)).trans fA);refine⟨wt6 _,fun ps hps=>?_⟩;subst hN2
  first | refine nxI ?_ | skip
  refine seqN fun N2 hN2=>?_;have hpsM:ps∉[hd,pw,po,pr]:=hin H10 ⟨_,hhA.1⟩ ⟨_,hwA⟩ ⟨_,hoA⟩ ⟨_,hrA⟩ ps hps;have hpsd:ps≠hd:=fun z=>hpsM (by rw[z];simp)
  have hpsn:ps≠pn:=fun z=>by rw[z,hnames H10 fbA]at hps;cases hps
  refine⟨_,rfl,tp,rfl,⟨_,SqL.of (by rw[zb5 (zb4 (Stp.keep fbA).2 hps)];exact(Stp.keep fbA).2)⟩,?_⟩;refine zm4 (xs:=ts.map V.ref) (BInv H10 hd tp lp pn pd px pw po pr ps r tA tr ds[i])
   ⟨_,_,dA,mA,tA,[],rfl,FrS.new hps,hhA.new hps,by lia,zb1,by simp,by simp⟩ ?_ ?_ ?_
  ·rintro j σ Hz hj ⟨_,_,_,_,_,_,_,fz,_⟩;exact SqL.of ((Stp.keep fbA).keep (fz.mono (by trivial))).2
  ·rintro j x σ Hz hx ⟨nz,ez,dz,mz,tz,ss,rfl,fz,hhz,htz,hpz,hssl,hssm⟩;rw[wr3]at hx;obtain⟨tt,htt',rfl⟩:=wr6.mp hx;obtain⟨hj,_⟩:=wr1.mp htt';have htr:tr[j]?=some tr[j]:=wq9 (by lia);have e3:=((Stt' j tt _ htt' htr).keep fbA).keep (fz.mono (by trivial));refine⟨tt,_,rfl,SqT.of e3.2,rfl,_,_,rfl,_,_,rfl,rfl,?_⟩;refine⟨_,rfl,by show 2<=sizeLine;exact ws3 (s1 (by decide)),fun p2 hp2=>?_⟩;obtain⟨kk,hkk,hk0,hk1⟩:∃kk:Int,atI [V.int 3,V.int 2] (if decide (eldV tr[j].2=V.non)=true then 1 else 0)=some (.int kk)/\0<kk/\kk<10:=by
    cases tr[j].2 with
    | none=>exact⟨2,rfl,by decide,by decide⟩
    | some e=>exact⟨3,rfl,by decide,by decide⟩
   refine⟨_,rfl,.inr ⟨_,rfl,p2,_,_,V.int kk,rfl,rfl,SqL.of zb1,hkk,hd,dz,mz,tz,r,kk,rfl,hhz.new hp2,by lia,hk0,by lia,fun y dv mv tv y0 y1 cv ev=>⟨rfl,_,rfl,?_⟩⟩⟩;have hpv:upd (upd Hz p2 (.lst [V.int 3,V.int 2])) hd (hl dv mv tv r) ps=some (.lst (ss.map V.str)):=by rw[zb5 hpsd,zb5 (zb4 hpz hp2)];exact hpz
   have fv:FrS [hd] H10 (upd (upd Hz p2 (.lst [V.int 3,V.int 2])) hd (hl dv mv tv r)):=(fz.trans (FrS.new hp2)).put' (by trivial);have hhv:Hand (upd (upd Hz p2 (.lst [V.int 3,V.int 2])) hd (hl dv mv tv r)) hd dv mv tv r:=Hand.at cv;refine ite2 (fun c=>?_) (fun c=>?_)
   ·refine⟨_,rfl,.inl ⟨rfl,_,SqL.of hpv⟩,_,rfl,ps,_,_,rfl,rfl,hpv,by rw[lqm];exact s1 (by lia),_,_,dv,mv,tv,ss++[tr[j].1],rfl,fv.put hps,⟨by rw[zb5 hpsd.symm];exact hhv.1,hhv.2⟩,by lia,by rw[zb1,wr9];rfl,by rw[wr2,ws8];lia,fun x hx=>?_⟩;rcases wt9.mp hx with h | h
    ·exact hssm x h
    ·rw[wv1.mp h];exact ws2.mpr ⟨_,ws4 htr,rfl⟩
   ·exact⟨_,_,dv,mv,tv,ss,rfl,fv,hhv,by lia,hpv,by lia,hssm⟩
  rintro σ H11 ⟨nz,ez,dz,mz,tz,ss,rfl,fz,hhz,htz,hpz,hssl,hssm⟩;subst hN2
  first | refine nxI ?_ | skip
  rw[lqm]at htz hssl;have fAz:FrS [hd,pw,po,pr] H10 H11:=fz.mono (by trivial);have hpn11:=hnames H11 (fbA.trans fAz);have h0:0<(tr.map (·.1)).length:=vp3.mpr htrn;have hat0:atI ((tr.map (·.1)).map V.str) 0=some (.str (tr.map (·.1))[0]):=by
   have:=zq3 (xs:=(tr.map (·.1)).map V.str) (j:=0) (v:=.str (tr.map (·.1))[0]) (by rw[wr3,wq9 h0];rfl);exact this
  refine⟨_,rfl,_,rfl,pn,_,_,_,rfl,rfl,SqL.of hpn11,hat0,by show 1<=sizeLine;exact ws3 (s1 (by decide)),fun p1 hp1=>?_⟩;refine⟨_,rfl,wt6 _,fun pe hpe=>?_⟩;have hps1:upd H11 p1 (.lst [V.str (tr.map (·.1))[0]]) ps=some (.lst (ss.map V.str)):=by rw[zb5 (zb4 hpz hp1)];exact hpz
  have hpse:ps≠pe:=zb4 hps1 hpe;have hp1e:p1≠pe:=fun z=>by rw[←z,zb1]at hpe;cases hpe
  refine⟨ps,pe,_,rfl,rfl,hpse,SqL.of (by rw[zb5 hpse];exact hps1),SqL.of zb1,.inr ⟨_,rfl,?_⟩⟩;obtain⟨kk,hkk,zs,hzs,hzl,hzm⟩:∃kk:Int,(if ((ss.map V.str).isEmpty != false)=true then(1:Int) else 0)=kk/\∃zs:List Str,(List.replicate kk.toNat [V.str (tr.map (·.1))[0]]).flatten=zs.map V.str/\zs.length<=1/\∀x∈zs,x∈tr.map (·.1):=by
   cases ss with
   | nil=>exact⟨1,rfl,[(tr.map (·.1))[0]],rfl,by simp,fun x hx=>by rw[wv1.mp hx];exact ww5 h0⟩
   | cons y ys=>exact⟨0,rfl,[],rfl,by simp,by simp⟩
  have hkb:kk=0∨kk=1:=by
   rw[←hkk]
   split
   ·exact .inr rfl
   ·exact .inl rfl
  rw[hkk];refine⟨p1,kk,_,rfl,rfl,by rw[zb5 hp1e];exact zb1,by lia,by lia,?_,fun p2 hp2=>?_⟩
  ·rcases hkb with rfl | rfl
   ·show 1*0<=sizeLine;lia
   ·show 1*1<=sizeLine;exact ws3 (s1 (by lia))
  rw[hzs];have hps2:upd (upd H11 p1 (.lst [V.str (tr.map (·.1))[0]])) pe (.lst []) ps=some (.lst (ss.map V.str)):=by rw[zb5 hpse];exact hps1
  refine⟨ps,p2,_,_,rfl,rfl,by rw[zb5 (zb4 hps2 hp2)];exact hps2,zb1,by rw[lqm,lqm];exact ws3 (s1 (by lia)),fun p3 hp3=>?_⟩;rw[←wr9];have f12:FrS [] H11 (upd (upd (upd (upd H11 p1 (.lst [V.str (tr.map (·.1))[0]])) pe (.lst [])) p2 (.lst (zs.map V.str))) p3 (.lst ((ss++zs).map V.str))):=by
   refine(((FrS.new hp1).trans (FrS.new hpe)).trans (FrS.new hp2)).trans (FrS.new ?_);exact hp3
  have hp3':upd (upd (upd (upd H11 p1 (.lst [V.str (tr.map (·.1))[0]])) pe (.lst [])) p2 (.lst (zs.map V.str))) p3 (.lst ((ss++zs).map V.str)) p3=some (.lst ((ss++zs).map V.str)):=zb1;have hp3n:H11 p3=none:=FrS.old (S:=[]) (((FrS.new hp1).trans (FrS.new hpe)).trans (FrS.new hp2)) (by trivial) hp3;generalize upd (upd (upd (upd H11 p1 (.lst [V.str (tr.map (·.1))[0]])) pe (.lst [])) p2 (.lst (zs.map V.str))) p3 (.lst ((ss++zs).map V.str))=H12 at f12 hp3';have ho11:=fz _ _ (by simpa using hdo.symm) hoA;have hw11:=fz _ _ (by simpa using hdw.symm) hwA;have hr11:=fz _ _ (by simpa using hdr.symm) hrA;have hp3M:p3∉[hd,pw,po,pr]:=hin H11 ⟨_,hhz.1⟩ ⟨_,hw11⟩ ⟨_,ho11⟩ ⟨_,hr11⟩ p3 hp3n;have hp3o:p3≠po:=fun z=>hp3M (by rw[z];simp)
  refine⟨_,rfl,_,rfl,po,_,rfl,DPut.k (k:=(Sum.inr ds[i]:Key)) (f12 _ _ (by trivial) ho11) (s1 (by lia)),?_⟩;have f13:FrS [hd,pw,po,pr] H10 (upd H12 po (.dK (putK ok (Sum.inr ds[i]) (.ref p3)))):=(fAz.trans (f12.mono (by trivial))).put' (by trivial);refine⟨_,_,_,_,dz,mz,tz,wA,putK ok (Sum.inr ds[i]) (.ref p3),rfl,fbA.trans f13,⟨by rw[zb5 hdo];exact f12 _ _ (by trivial) hhz.1,hhz.2⟩,by lia,by rw[zb5 hpro];exact f12 _ _ (by trivial) hr11,by rw[zb5 hpow.symm];exact f12 _ _ (by trivial) hw11,by lia,?_,zb1,?_,?_⟩
  ·refine(hwAk.keep f13).mono fun a b h=>?_;rw[ws7,wq9 hi]at h;rcases wt9.mp h.2 with h2 | h2
   ·exact .inl ⟨h.1,h2⟩
   ·exact .inr ⟨eqm a h.1,by simpa using h2⟩
  ·have:=zg7 ok (Sum.inr ds[i]) (V.ref p3);lia
  ·refine((hokA.keep f13).put (d:=ds[i]) (p:=p3) (os:=ss++zs) ⟨hp3M,by rw[zb5 hp3o];exact hp3'⟩ (fun x hx=>?_) (by rw[wr2];lia)).mono' fun a h=>?_
   ·rcases wt9.mp hx with h | h
    ·exact hssm x h
    ·exact hzm x h
   ·rw[ws7,wq9 hi]at h;rcases wt9.mp h with h2 | h2
    ·exact .inl h2
    ·exact .inr (by simpa using h2)
 rintro σ Hx ⟨nx,ex,dx,sx,da,ma,ta,wk,ok,rfl,fx,hhx,hta,hrx,hwx,hwl,hwk,hox,hol,hok'⟩;subst hN
 first | refine nxI ?_ | skip
 rw[lqm]at hta hwk hok';rw[wr8 (wr5 _)]at hwk hok';intro p hp;have hpx':=(Spx.keep fx).2;refine⟨_,rfl,_,rfl,_,rfl,_,rfl,_,rfl,_,rfl,_,rfl,px,_,rfl,SqL.of (by rw[zb5 (zb4 hpx' hp)];exact hpx'),fun q1 hq1=>?_⟩;have e1:cutV (xs.map V.str) none (some 4)=(xs.take 4).map V.str:=by rw[vq6];exact xq1 (xs.map V.str) (n:=4) (by rw[lqm];lia)
 rw[e1];have g1:FrS [] Hx (upd (upd Hx p (.dK [])) q1 (.lst ((xs.take 4).map V.str))):=(FrS.new hp).trans (FrS.new hq1);have p1:upd (upd Hx p (.dK [])) q1 (.lst ((xs.take 4).map V.str)) p=some (.dK []):=by rw[zb5 (zb4 (o:=.dK []) zb1 hq1)];exact zb1
 have v1:upd (upd Hx p (.dK [])) q1 (.lst ((xs.take 4).map V.str)) q1=some (.lst ((xs.take 4).map V.str)):=zb1;have nq1:Hx q1=none:=(FrS.new (S:=[]) (o:=.dK []) hp).old (by trivial) hq1;generalize upd (upd Hx p (.dK [])) q1 (.lst ((xs.take 4).map V.str))=K1 at g1 p1 v1;refine⟨_,rfl,_,rfl,_,rfl,px,_,rfl,SqL.of (g1 _ _ (by trivial) hpx'),fun q2 hq2=>?_⟩;have e2:cutV (xs.map V.str) (some 4) (some 8)=((xs.drop 4).take 4).map V.str:=by rw[vq6,vr3];exact wq0 (xs.map V.str) (a:=4) (b:=8) (by rw[lqm];lia) (by lia)
 rw[e2];have g2:FrS [] K1 (upd K1 q2 (.lst (((xs.drop 4).take 4).map V.str))):=FrS.new hq2;have v2:upd K1 q2 (.lst (((xs.drop 4).take 4).map V.str)) q2=some (.lst (((xs.drop 4).take 4).map V.str)):=zb1;have nq2:Hx q2=none:=g1.old (by trivial) hq2;have nq2':=hq2;generalize upd K1 q2 (.lst (((xs.drop 4).take 4).map V.str))=K2 at g2 v2;refine⟨_,rfl,_,rfl,px,_,rfl,SqL.of (g2 _ _ (by trivial) (g1 _ _ (by trivial) hpx')),fun q3 hq3=>?_⟩;have e3:cutV (xs.map V.str) (some 6) none=(xs.drop 6).map V.str:=by rw[vr3];exact yz7 (xs.map V.str) (n:=6) (by rw[lqm];lia)
 rw[e3];have g3:FrS [] K2 (upd K2 q3 (.lst ((xs.drop 6).map V.str))):=FrS.new hq3;have v3:upd K2 q3 (.lst ((xs.drop 6).map V.str)) q3=some (.lst ((xs.drop 6).map V.str)):=zb1;generalize upd K2 q3 (.lst ((xs.drop 6).map V.str))=K3 at g3 v3;intro pt hpt;have g4:FrS [] K3 (upd K3 pt (.dK [])):=FrS.new hpt;have v4:upd K3 pt (.dK []) pt=some (.dK []):=zb1;generalize upd K3 pt (.dK [])=K4 at g4 v4;intro ph hph;have g5:FrS [] K4 (upd K4 ph (.dK [])):=FrS.new hph;have v5:upd K4 ph (.dK []) ph=some (.dK []):=zb1;generalize upd K4 ph (.dK [])=K5 at g5 v5;have g15:FrS [] K1 K5:=((g2.trans g3).trans g4).trans g5;have gx5:FrS [] Hx K5:=g1.trans g15;have gx3:FrS [] Hx K3:=(g1.trans g2).trans g3;have gx4:FrS [] Hx K4:=gx3.trans g4;have npt:Hx pt=none:=gx3.old (by trivial) hpt;have nph:Hx ph=none:=gx4.old (by trivial) hph;have hp5:=g15 _ _ (by trivial) p1;have hthp:pt≠ph:=zb4 v4 hph;have hpp:p≠pt:=fun z=>by rw[←z,(g2.trans g3) _ _ (by trivial) p1]at hpt;cases hpt
 have hpph:p≠ph:=fun z=>by rw[←z,((g2.trans g3).trans g4) _ _ (by trivial) p1]at hph;cases hph
 refine⟨_,rfl,hp5,[(Sum.inr "tree",.ref tp),(Sum.inr "late",.ref lp),(Sum.inr "deeds",.ref pd),(Sum.inr "wants",.ref pw),(Sum.inr "owners",.ref po),(Sum.inr "vars",.ref q1),(Sum.inr "params",.ref q2),(Sum.inr "fields",.ref q3),(Sum.inr "told",.ref pt),(Sum.inr "held",.ref ph),(Sum.inr "roots",.ref pr)],rfl,by show 11<=15;decide,?_⟩;have hnd:(([(Sum.inr "tree",.ref tp),(Sum.inr "late",.ref lp),(Sum.inr "deeds",.ref pd),(Sum.inr "wants",.ref pw),(Sum.inr "owners",.ref po),(Sum.inr "vars",.ref q1),(Sum.inr "params",.ref q2),(Sum.inr "fields",.ref q3),(Sum.inr "told",.ref pt),(Sum.inr "held",.ref ph),(Sum.inr "roots",.ref pr)]:List (Key×V)).map (·.1)).Nodup:=by
  show([Sum.inr "tree",Sum.inr "late",Sum.inr "deeds",Sum.inr "wants",Sum.inr "owners",Sum.inr "vars",Sum.inr "params",Sum.inr "fields",Sum.inr "told",Sum.inr "held",Sum.inr "roots"]:List Key).Nodup
  decide +kernel
 rw[yh0 _ [] (by rw[List.nil_append];exact hnd),List.nil_append];generalize hkvs:([(Sum.inr "tree",.ref tp),(Sum.inr "late",.ref lp),(Sum.inr "deeds",.ref pd),(Sum.inr "wants",.ref pw),(Sum.inr "owners",.ref po),(Sum.inr "vars",.ref q1),(Sum.inr "params",.ref q2),(Sum.inr "fields",.ref q3),(Sum.inr "told",.ref pt),(Sum.inr "held",.ref ph),(Sum.inr "roots",.ref pr)]:List (Key×V))=kvs at hnd;have gt:∀(j:Nat)(k:Key)(v:V),kvs[j]?=some (k,v)->valV kvs k=some v:=fun j k v h=>xh0 hnd h;have kp:∀b o,K5 b=some o->b≠p->upd K5 p (.dK kvs) b=some o:=fun b o e n=>by rw[zb5 n];exact e
 have kx:∀b o,Hx b=some o->upd K5 p (.dK kvs) b=some o:=fun b o e=>kp b o (gx5 _ _ (by trivial) e) (zb4 e hp)
 have hdx:=hhx.1;have st:∀b o,b≠hd->Hx b=some o->Stt [hd,pt,ph] (upd K5 p (.dK kvs)) b o:=fun b o n e=>⟨by simp only[ws5,wr0,vb0,not_or];exact⟨n,zb4 e npt,zb4 e nph⟩,kx b o e⟩
 have hq1p:q1≠p:=fun z=>by rw[z,p1]at v1;cases v1
 have hq2p:q2≠p:=fun z=>by rw[z]at nq2';rw[p1]at nq2';cases nq2'
 have hq3p:q3≠p:=fun z=>by rw[z,g2 _ _ (by trivial) p1]at hq3;cases hq3
 have nq3:Hx q3=none:=(g1.trans g2).old (by trivial) hq3;have w1:=g15 _ _ (by trivial) v1;have w2:=((g3.trans g4).trans g5) _ _ (by trivial) v2;have w3:=(g4.trans g5) _ _ (by trivial) v3;have w4:=g5 _ _ (by trivial) v4;have sl:∀(b:Addr)(zs:List Str),K5 b=some (.lst (zs.map V.str))->b≠p->Hx b=none->Stt [hd,pt,ph] (upd K5 p (.dK kvs)) b (.lst (zs.map V.str)):=fun b zs e n e0=>⟨by
  simp only[ws5,wr0,vb0,not_or];exact⟨(fun z=>by rw[z,hdx]at e0;cases e0),(fun z=>by rw[z,w4]at e;cases e),(fun z=>by rw[z,v5]at e;cases e)⟩,kp b _ e n⟩
 have hprd:=hdr.symm;have hpwd:=hdw.symm;have hpod:=hdo.symm;obtain⟨own,hown⟩:∃own:Str->List Str,∀d' (hd':d'∈ds),own d'=(hok' d' hd').choose_spec.choose:=by
  classical
  exact⟨fun d'=>if h:d'∈ds then(hok' d' h).choose_spec.choose else [],fun d' h=>dif_pos h⟩
 refine q p ⟨tp,lp,pd,pw,po,q1,q2,q3,pt,ph,pr⟩ ⟨tr,late,ds,xs.take 4,(xs.drop 4).take 4,xs.drop 6,wk,ok,rk,own⟩ _ ta ⟨⟨da,ma,kx _ _ hhx.1,hhx.2⟩,⟨[],kp _ _ w4 hpp.symm,DOk.nil⟩,⟨[],kp _ _ v5 hpph.symm,DOk.nil⟩,⟨⟨kvs,⟨?_,zb1⟩,?_⟩,⟨ts,st _ _ htpd (Stp.keep fx).2,htl,fun j t' x a b=>st _ _ (ttd j t' x a b) ((Stt' j t' x a b).keep fx).2⟩,st _ _ hlpd (Slp.keep fx).2,st _ _ hpdd (Spd.keep fx).2,sl _ _ w1 hq1p nq1,sl _ _ w2 hq2p nq2,sl _ _ w3 hq3p nq3,st _ _ hpwd hwx,st _ _ hpod hox,st _ _ hprd hrx,?_,?_⟩,?_,?_⟩ ?_ ?_ ?_ ?_
 ·simp only[ws5,wr0,vb0,not_or];exact⟨(fun z=>by rw[z,hdx]at hp;cases hp),hpp,hpph⟩
 ·rw[←hkvs]at gt ⊢;exact⟨gt 0 _ _ rfl,gt 1 _ _ rfl,gt 2 _ _ rfl,gt 3 _ _ rfl,gt 4 _ _ rfl,gt 5 _ _ rfl,gt 6 _ _ rfl,gt 7 _ _ rfl,gt 8 _ _ rfl,gt 9 _ _ rfl,gt 10 _ _ rfl⟩
 ·intro n' hn' d' hd';have hkn:(Sum.inr n':Key)∈rk.map (·.1):=by
   rw[hrk2.1];obtain⟨z,hz,ez⟩:=ws2.mp hn';exact ws2.mpr ⟨z,hz,by rw[←ez]⟩
  obtain⟨v,hv⟩:∃v,valV rk (Sum.inr n')=some v:=by
   cases hv:valV rk (Sum.inr n')with
   | some v=>exact⟨v,rfl⟩
   | none=>exact absurd hkn (zw7 hv)
  obtain⟨rt,rfl,hrt⟩:=hrk.val hv;have hrt':rt∈rs:=by
   rw[hrs]at hrt;obtain⟨y,hy,ey⟩:=ws2.mp hrt;cases ey;exact hy
  obtain⟨pp,ws,a1,a2,a3,a4⟩:=hwk rt d' ⟨hrt',hd'⟩;exact⟨rt,pp,ws,hv,a1,st _ _ (fun z=>a2.1 (by rw[z];simp)) a2.2,a3,a4⟩
 ·intro d' hd';have e0:=hown d' hd';obtain⟨a1,a2,a3,a4⟩:=(hok' d' hd').choose_spec.choose_spec;rw[←e0]at a2 a3 a4;exact⟨_,a1,st _ _ (fun z=>a2.1 (by rw[z];simp)) a2.2,a3,a4⟩
 ·show([hd,pt,ph]:List Addr).Nodup;simp only[wx9,ws5,wr0,vb0,not_or];exact⟨⟨zb4 hdx npt,zb4 hdx nph⟩,hthp,not_false,vd8⟩
 ·exact⟨hok,hne,h12,hlm,hll,hso,(by show ds≠[];intro z;rw[z]at hdl;simp at hdl;lia),by show ds.length<=6;lia,by show(xs.take 4).length=4;rw[wt4];lia,by show((xs.drop 4).take 4).length=4;rw[wt4,vc7];lia,by show(xs.drop 6).length=3;rw[vc7];lia⟩
 ·exact(toH Hx fx).trans fun b o n e=>kx b o e
 ·show H pt=none;exact(toH Hx fx).old (fun b hb=>by rw[wv1.mp hb];exact⟨_,hdx⟩) npt
 ·show H ph=none;exact(toH Hx fx).old (fun b hb=>by rw[wv1.mp hb];exact⟨_,hdx⟩) nph
 ·lia
abbrev wp9:Stmt:=top 35
abbrev Dz:=Str×Addr×List Addr×List Addr
inductive RowsIs(Z:Str->Str->Prop)(H:Hp)(z:Dz):Prop
 | mk(h2:H z.2.1=some (.tup (z.2.2.1.map V.ref)))(h3:Fl Z H 4 z.2.2.1 z.2.2.2)(h4:z.2.2.2.length<=80):RowsIs Z H z
theorem RowsIs.keep{H H':Hp}{z:Dz}(h:RowsIs Z H z)(f:Tup H H'):RowsIs Z H' z:=by
 obtain⟨h2,h3,h4⟩:=h;exact⟨f _ _ h2,h3.keep f,h4⟩
inductive DeedIs(Z:Str->Str->Prop)(H:Hp)(f:Addr)(z:Dz):Prop
 | mk(pv gv:V)(h1:H f=some (.tup [.str z.1,pv,.ref z.2.1,gv]))(h2:RowsIs Z H z):DeedIs Z H f z
theorem DeedIs.keep{H H':Hp}{a:Addr}{z:Dz}(h:DeedIs Z H a z)(f:Tup H H'):DeedIs Z H' a z:=by
 obtain⟨pv,gv,h1,h2⟩:=h;exact⟨pv,gv,f _ _ h1,h2.keep f⟩
inductive KindIs(Z:Str->Str->Prop)(H:Hp)(u:Addr)(y:Str×List Dz):Prop
 | mk(e:V)(dt:Addr)(fs:List Addr)(h1:H u=some (.tup [.str y.1,e,.ref dt]))(h2:H dt=some (.tup (fs.map V.ref)))(h3:fs.length=y.2.length)(h4:∀(j:Nat) f z,fs[j]?=some f->y.2[j]?=some z->DeedIs Z H f z)(h5:fs.length<=80):KindIs Z H u y
theorem KindIs.keep{H H':Hp}{a:Addr}{z:Str×List Dz}(h:KindIs Z H a z)(f:Tup H H'):KindIs Z H' a z:=by
 obtain⟨e,dt,fs,h1,h2,h3,h4,h5⟩:=h;exact⟨e,dt,fs,f _ _ h1,f _ _ h2,h3,fun j g z a b=>(h4 j g z a b).keep f,h5⟩
inductive ProgIs(Z:Str->Str->Prop)(H:Hp)(p:Addr)(ks:List (Str×List Dz))(m0:Dz):Prop
 | mk(kt:Addr)(us:List Addr)(lt:V)(h1:H p=some (.tup [.ref kt,lt,.ref m0.2.1]))(h2:H kt=some (.tup (us.map V.ref)))(h3:us.length=ks.length)(h4:∀(j:Nat) u y,us[j]?=some u->ks[j]?=some y->KindIs Z H u y)(h5:RowsIs Z H m0)(h6:ks.length<=12):ProgIs Z H p ks m0
theorem ProgIs.keep{H H':Hp}{p:Addr}{ks:List (Str×List Dz)}{m0:Dz}(h:ProgIs Z H p ks m0)(f:Tup H H'):ProgIs Z H' p ks m0:=by
 obtain⟨kt,us,lt,h1,h2,h3,h4,h5,h6⟩:=h;exact⟨kt,us,lt,f _ _ h1,f _ _ h2,h3,fun j g z a b=>(h4 j g z a b).keep f,h5.keep f,h6⟩
theorem Tup.dk{H:Hp}{p:Addr}{o:HO}{kv:List (Key×V)}(hp:H p=some (.dK kv)):Tup H (upd H p o):=fun b xs h=>by
 rw[zb5 (fun z=>by rw[z,hp]at h;cases h)];exact h
inductive xh3(H:Hp)(p:Addr):Prop
 | mk(kt lt:Addr)(m:V)(late:List Str)(h1:H p=some (.tup [.ref kt,.ref lt,m]))(h2:H lt=some (.tup (late.map V.str)))(h3:late.length<=64):xh3 H p
theorem KindsAt.keepT{H H':Hp}{p:Addr}{tr:Tr}(h:KindsAt H p tr)(f:Tup H H'):KindsAt H' p tr:=by
 obtain⟨kt,ts,x,y,h1,h2,h3,h4⟩:=h;refine⟨kt,ts,x,y,f _ _ h1,f _ _ h2,h3,fun j t z a b=>?_⟩;obtain⟨v,hv⟩:=h4 j t z a b;exact⟨v,f _ _ hv⟩
structure Lnk(Z:Str->Str->Prop)(ks:List (Str×List Dz))(tr:Tr):Prop where
 nm:ks.map (·.1)=tr.map (·.1)
 hz:∀k d,Z k d->k∈tr.map (·.1)/\∃n l,Up tr k l/\n∈l/\∃y∈ks,y.1=n/\∃z∈y.2,z.1=d
 dl:∃ds:List Str,ds.length<=6/\∀k d,Z k d->d∈ds
inductive wc8(vs:List V)(H:Hp)(Q:VK):Prop
 | mk(hd:Addr)(mo d m t r:Int)(h1:vs=[.ref hd,.int mo])(h0:0<=mo/\mo<=80)(h2:Hand H hd d m t r)(h3:t<=1000)
  (h4:∀(p:Addr)(ks:List (Str×List Dz))(m0:Dz)(tr:Tr)(Z:Str->Str->Prop)(H':Hp)(d' m' t' r':Int),FrS [hd] H H'->ProgIs Z H' p ks m0->KindsAt H' p tr->TrOk tr->tr.length<=12->xh3 H' p->Lnk Z ks tr->Hand H' hd d' m' t' r'->t'<=10000->Q (.ref p) H'):wc8 vs H Q
def xh6:Sp:=fun vs H Q _=>wc8  vs H Q
def Heads(Z:Str->Str->Prop)(H:Hp)(fs:List Addr):Prop:=∀f∈fs,∃z,DeedIs Z H f z
theorem Heads.keep{H H':Hp}{fs:List Addr}(h:Heads Z H fs)(g:Tup H H'):Heads Z H' fs:=fun f hf=>by
 obtain⟨z,a⟩:=h f hf;exact⟨z,a.keep g⟩
inductive BKv(Z:Str->Str->Prop)(Hb H:Hp)(c:Nat)(v:V):Prop
 | mk(p:Addr)(fs:List Addr)(h1:v=.ref p)(h2:H p=some (.lst (fs.map V.ref)))(h3:fs.length<=c)(h4:Hb p=none)(h5:Heads Z H fs):BKv Z Hb H c v
def BK(Z:Str->Str->Prop)(Hb H:Hp)(kvs:List (Key×V))(c:Nat):Prop:=kvs.length<=c/\∀k v,valV kvs k=some v->BKv Z Hb H c v
theorem BK.keep{Hb H H':Hp}{kvs:List (Key×V)}{c:Nat}{M:List Addr}(h:BK Z Hb H kvs c)(f:FrS M H H')(hm:∀p,Hb p=none->p∉M)(tp:Tup H H'):BK Z Hb H' kvs c:=⟨h.1,fun k v e=>by
 obtain⟨p,xs,a,b,c',d,g⟩:=h.2 k v e;exact⟨p,xs,a,f _ _ (hm p d) b,c',d,g.keep tp⟩⟩
theorem BK.put{Hb H:Hp}{kvs:List (Key×V)}{c:Nat}{k:Key}{p:Addr}{fs:List Addr}(h:BK Z Hb H kvs c)(hp:H p=some (.lst (fs.map V.ref)))(hl:fs.length<=c+1)(hb:Hb p=none)(hg:Heads Z H fs):BK Z Hb H (putK kvs k (.ref p)) (c+1):=by
 refine⟨by have:=zg7 kvs k (V.ref p);have:=h.1;lia,fun k' v e=>?_⟩;rw[zm5]at e
 by_cases z:k'=k
 ·rw[ww4 z]at e;cases e;exact⟨p,fs,rfl,hp,hl,hb,hg⟩
 ·rw[wv5 z]at e;obtain⟨p',xs',a,b,c',d,g⟩:=h.2 k' v e;exact⟨p',xs',a,b,by lia,d,g⟩
theorem BK.app{Hb H:Hp}{kvs:List (Key×V)}{c:Nat}{p:Addr}{xs:List V}{gs:List Addr}(h:BK Z Hb H kvs c)(hp:H p=some (.lst xs))(hl:gs.length<=c)(hg:Heads Z H gs):BK Z Hb (upd H p (.lst (gs.map V.ref))) kvs c:=by
 have kp:Tup H (upd H p (.lst (gs.map V.ref))):=Tup.lst hp;refine⟨h.1,fun k v e=>?_⟩;obtain⟨p',xs',a,b,c',d,g⟩:=h.2 k v e
 by_cases z:p'=p
 ·subst z;exact⟨p',gs,a,zb1,hl,d,hg.keep kp⟩
 ·exact⟨p',xs',a,by rw[zb5 z];exact b,c',d,g.keep kp⟩
theorem BK.more{Hb H:Hp}{kvs:List (Key×V)}{c c':Nat}(h:BK Z Hb H kvs c)(hc:c<=c'):BK Z Hb H kvs c':=⟨by have:=h.1;lia,fun k v e=>by
 obtain⟨p',xs',a,b,c'',d,g⟩:=h.2 k v e;exact⟨p',xs',a,b,by lia,d,g⟩⟩
theorem mk_ds{H:Hp}:∀fs:List Addr,Heads Z H fs->∃zs:List Dz,fs.length=zs.length/\∀(i:Nat) f z,fs[i]?=some f->zs[i]?=some z->DeedIs Z H f z
 | [],_=>⟨[],rfl,fun i f d h=>by simp at h⟩
 | f::fs,h=>by
  obtain⟨d,e⟩:=h f (.head _);obtain⟨ds,h1,h2⟩:=mk_ds fs fun g hg=>h g (.tail _ hg);refine⟨d::ds,wx5 (·+1) h1,fun i g d' hg hd=>?_⟩;cases i with
  | zero=>cases hg;cases hd;exact e
  | succ i=>exact h2 i g d' hg hd
inductive KAt(Z Wn:Str->Str->Prop)(H:Hp)(u:Addr)(z:Str×Option Str):Prop
 | mk(dt:Addr)(fs:List Addr)(h1:H u=some (.tup [.str z.1,eldV z.2,.ref dt]))(h2:H dt=some (.tup (fs.map V.ref)))(h3:fs.length<=80)(h4:Heads Z H fs)(h5:∀d,Wn z.1 d->∃f∈fs,∃y,DeedIs Z H f y/\y.1=d):KAt Z Wn H u z
theorem KAt.keep{H H':Hp}{u:Addr}{z:Str×Option Str}(h:KAt Z Wn H u z)(g:Tup H H'):KAt Z Wn H' u z:=by
 obtain⟨dt,fs,h1,h2,h3,h4,h5⟩:=h;exact⟨dt,fs,g _ _ h1,g _ _ h2,h3,h4.keep g,fun d hd=>by
  obtain⟨f,hf,y,hy,e⟩:=h5 d hd;exact⟨f,hf,y,hy.keep g,e⟩⟩
theorem mk_ks{Z Wn:Str->Str->Prop}{H:Hp}:∀(us:List Addr)(tr:Tr),A2 (KAt Z Wn H) us tr->∃ks:List (Str×List Dz),us.length=ks.length/\(∀(j:Nat) u y,us[j]?=some u->ks[j]?=some y->KindIs Z H u y)/\ks.map (·.1)=tr.map (·.1)/\∀y∈ks,∀d,Wn y.1 d->∃z∈y.2,z.1=d
 | [],_,.nil=>⟨[],rfl,(fun i f d h=>by simp at h),rfl,fun _ h=>nomatch h⟩
 | u::us,_,.cons (b:=z) g gt=>by
  obtain⟨dt,fs,e1,e2,e3,e4,e5⟩:=g;obtain⟨zs,z1,z2⟩:=mk_ds fs e4;obtain⟨ks,h1,h2,h3,h4⟩:=mk_ks us _ gt;refine⟨(z.1,zs)::ks,wx5 (·+1) h1,fun i g d' hg hd=>?_,wx5 (z.1::·) h3,fun y hy d hd=>?_⟩
  ·cases i with
   | zero=>cases hg;cases hd;exact⟨_,dt,fs,e1,e2,z1,z2,e3⟩
   | succ i=>exact h2 i g d' hg hd
  ·rcases ws5.mp hy with rfl | hy
   ·obtain⟨f,hf,y,hy,e⟩:=e5 d hd;obtain⟨i,hi⟩:=ww7.mp hf;have hil:i<zs.length:=by rw[←z1];exact(wr1.mp hi).1
    obtain⟨_,_,g1,_⟩:=z2 i f zs[i] hi (wq9 hil);obtain⟨_,_,g2,_⟩:=hy;rw[g1]at g2;refine⟨zs[i],ww5 hil,?_⟩;injection g2 with g2;injection g2 with g2;injection g2 with g2 _;exact(V.str.inj g2).trans e
   ·exact h4 y hy d hd
def Got(Z:Str->Str->Prop)(H:Hp)(kvs:List (Key×V))(x d:Str):Prop:=∃(p:Addr)(fs:List Addr),valV kvs (Sum.inr x)=some (.ref p)/\H p=some (.lst (fs.map V.ref))/\∃f∈fs,∃y,DeedIs Z H f y/\y.1=d
theorem Got.keep{Z:Str->Str->Prop}{Hb H H':Hp}{kvs:List (Key×V)}{c:Nat}{M:List Addr}{x d:Str}(h:Got Z H kvs x d)(hB:BK Z Hb H kvs c)(f:FrS M H H')(hm:∀p,Hb p=none->p∉M)(tp:Tup H H'):Got Z H' kvs x d:=by
 obtain⟨p,fs,e,hp,g,hg,y,hy,ey⟩:=h;obtain⟨p',_,e1,_,_,e2,_⟩:=hB.2 _ _ e;cases e1;exact⟨p,fs,e,f _ _ (hm p e2) hp,g,hg,y,hy.keep tp,ey⟩
theorem yh4:∀{l l':List Addr},l.map V.ref=l'.map V.ref->l=l'
 | [],[],_=>rfl
 | [],_::_,h=>by cases h
 | _::_,[],h=>by cases h
 | x::l,y::l',h=>by
  rw[ww3,ww3]at h;injection h with h1 h2;rw[V.ref.inj h1,yh4 h2]
theorem Got.app{Z:Str->Str->Prop}{H:Hp}{kvs:List (Key×V)}{x d:Str}{pl:Addr}{gs:List Addr}{g0:Addr}(h:Got Z H kvs x d)(hp:H pl=some (.lst (gs.map V.ref))):Got Z (upd H pl (.lst ((gs++[g0]).map V.ref))) kvs x d:=by
 obtain⟨p,fs,e,hp',g,hg,y,hy,ey⟩:=h;have tp:Tup H (upd H pl (.lst ((gs++[g0]).map V.ref))):=Tup.lst hp
 by_cases c:p=pl
 ·subst c;rw[hp]at hp';injection hp' with hp';injection hp' with hp';have:=yh4 hp';subst this;exact⟨p,gs++[g0],e,zb1,g,vj0 _ hg,y,hy.keep tp,ey⟩
 ·exact⟨p,fs,e,by rw[zb5 c];exact hp',g,hg,y,hy.keep tp,ey⟩
theorem Got.put{Z:Str->Str->Prop}{H:Hp}{kvs:List (Key×V)}{x d x':Str}{v:V}(h:Got Z H kvs x d)(hv:valV kvs (Sum.inr x')=none):Got Z H (putK kvs (Sum.inr x') v) x d:=by
 obtain⟨p,fs,e,r⟩:=h;refine⟨p,fs,?_,r⟩;rw[zm5,wv5]
 ·exact e
 ·intro z;rw[z,hv]at e;cases e
theorem Got.dk{Z:Str->Str->Prop}{H:Hp}{kvs kv kv':List (Key×V)}{x d:Str}{b:Addr}(h:Got Z H kvs x d)(hb:H b=some (.dK kv)):Got Z (upd H b (.dK kv')) kvs x d:=by
 obtain⟨p,fs,e,hp',g,hg,y,hy,ey⟩:=h;exact⟨p,fs,e,by rw[zb5 (fun z=>by rw[z,hb]at hp';cases hp')];exact hp',g,hg,y,hy.keep (Tup.dk hb),ey⟩
def WnD(D:WD)(x d:Str):Prop:=d∈D.deeds/\x∈D.own d
def Gots(D:WD)(i:Nat)(H:Hp)(kvs:List (Key×V)):Prop:=∀j,j<i->∀dn,D.deeds[D.deeds.length-1-j]?=some dn->∀x∈D.own dn,Got (HsD D) H kvs x dn
def wk9(D:WD)(i j:Nat)(H:Hp)(kvs:List (Key×V)):Prop:=∀dn,D.deeds[D.deeds.length-1-i]?=some dn->∀jj,jj<j->∀x,(D.own dn)[jj]?=some x->Got (HsD D) H kvs x dn
inductive PInv(mo:Int)(H1:Hp)(hd wd bk:Addr)(WA:WA)(D:WD)(t1:Int)(i:Nat)(σ:St)(Hx:Hp):Prop
 | mk(lx kx:Option V)(tx rx:Int)(kvs:List (Key×V))(h1:σ=[some (.ref hd),some (.int mo),some (.ref wd),some (.ref bk),lx,kx,none,none])(h2:Sit0 Hx hd wd WA D tx rx)(h3:FrS (M0 hd WA) H1 Hx)(h4:0<=rx)(h5:rx<=54)(h6:tx+25*rx<=t1+1350+195*(i:Int))(h7:Hx bk=some (.dK kvs))(h8:BK (HsD D) H1 Hx kvs (13*i))(h9:Gots D i Hx kvs):PInv mo H1 hd wd bk WA D t1 i σ Hx
inductive QInv(mo:Int)(H1:Hp)(hd wd bk:Addr)(WA:WA)(D:WD)(t1 lv:Int)(i j:Nat)(σ:St)(Hy:Hp):Prop
 | mk(ky:Option V)(ty ry:Int)(kvs:List (Key×V))(h1:σ=[some (.ref hd),some (.int mo),some (.ref wd),some (.ref bk),some (.int lv),ky,none,none])(h2:Sit0 Hy hd wd WA D ty ry)(h3:FrS (M0 hd WA) H1 Hy)(h4:0<=ry)(h5:ry<=54)(h6:ty+25*ry<=t1+1350+195*(i:Int)+15*(j:Int))(h7:Hy bk=some (.dK kvs))(h8:BK (HsD D) H1 Hy kvs (13*i+j))(h9:Gots D i Hy kvs)(h10:wk9 D i j Hy kvs):QInv mo H1 hd wd bk WA D t1 lv i j σ Hy
abbrev nProg:List Str:=["_law_hand_here","_law_most","_law_world_here","_law_done_by","_law_level","_law_kind","_law_main","_law_kinds"]
theorem yc0:zd1 nProg ["_law_hand_here","_law_most"] (zc2 wp9):=⟨rfl,rfl,rfl,by decide +kernel,rfl,by decide +kernel,by decide +kernel⟩
set_option maxHeartbeats 8000000 in
theorem wj7{k:Nat}(F:Fun K "_law_program" "_law_program" wp9 f fd)(T:Cal P w K mg base k "_law_take" ["_law_hand_here","_law_many"] zj0)(O:Cal P w K mg base k "_law_of" ["_law_hand_here","_law_some"] (spOf K))
  (W:Cal P w K mg base k "_law_world" ["_law_hand_here"] yr6) (DE:Cal P w K mg base k "_law_deed" wh5 yw5) (R:Cal P w K mg base k "_law_rows" yd5 (yb1 4)) (ml:mg "len"=none) (mr:mg "range"=none) (mtu:mg "tuple"=none) (mso:mg "sorted"=none):
  FnOk P w K mg base CX0 (k+1) f fd ["_law_hand_here","_law_most"] xh6:=by
 obtain⟨g,gd,GT,bT,kT,mT⟩:=T.ex;obtain⟨g2,gd2,GO,bO,kO,mO⟩:=O.ex;obtain⟨g3,gd3,GW,bW,kW,mW⟩:=W.ex;obtain⟨g4,gd4,GD,bD,kD,mD⟩:=DE.ex;obtain⟨g5,gd5,GR,bR,kR,mR⟩:=R.ex;refine F.ok yc0 (fun vs H Q E h=>?_) (fun cdv A outer s H vs Q E hr h=>?_)
 ·obtain⟨hd,mo,d,m,t,r,rfl,_⟩:=h;rfl
 obtain⟨hd,mo,d,m,t,r,rfl,hmo,hh,ht,q⟩:=h;have hr0:0<=mo-mo / 3/\mo-mo / 3<=54:=by lia
 have hr1:0<=mo / 3/\mo / 3<=26:=by lia
 have hu:=zn1 hr;have nd3:(["_law_name","_law_elder","_law_done_by"]:List Str).Nodup:=by decide +kernel
 refine⟨_,zb3 (zc3 (i:=2) yc0.nd rfl (wt1 rfl) (zb8 GW hr rfl mW kW bW .nil zc6 (zb0 (pv 0) zb2)))
  (zb3 (zc3 (i:=3) yc0.nd rfl (wz3 rfl) zp9)
  (zb3 (zr1 (zf4 zv3 (pv 1) (zf4 zz8 (pv 1) zb6)) (yf4 (pv 0) zb6 zq0))
  (zb3 (zf9 wv0 rfl (wk2 rfl mr (zb0 (zf4 zv3 (zf2 zg3 rfl ml vb1 (zb0 (zc9 hu (pv 2) zd4 (fun _ _=>rfl)) zb2)) zb6) (zb0 (yh5 zr6 zb6) (zb0 (yh5 zr6 zb6) zb2)))) (zb9 (i:=4) yc0.nd rfl (wt1 rfl))
   (zb7 (zf9 wv0 rfl (zf7 (zc9 hu (zc9 hu (pv 2) zd4 (fun _ _=>rfl)) (eI (zc9 hu (pv 2) zd4 (fun _ _=>rfl)) (pv 4)) (fun _ _=>rfl))) (zb9 (i:=5) yc0.nd rfl (wt1 rfl))
    (zb7 (zg1 (zm9 wv2 wv6 wv7 zf5 (wq6 (pv 3) (pv 5) (zd7 zb2) ⟨rfl,rfl,rfl,rfl⟩) (zb0 (zb8 GD hr rfl mD kD bD .nil zc6 (zb0 (pv 0) (zb0 (pv 2) (zb0 (pv 5) (zb0 (pv 4) zb2))))) zb2)))))))
  (zb3 (zr1 (zf4 zn0 (eI (pv 0) zb6) (zf4 zz8 (pv 1) zb6)) (yf4 (pv 0) zb6 zq0))
  (zb3 (zc3 (i:=6) yc0.nd rfl (wt1 rfl) (zb8 GR hr rfl mR kR bR .nil zc6 (zb0 (pv 0) (zb0 (pv 2) (zb0 zp9 (zb0 (yh5 zr6 zb6) (zb0 (zb8 GT hr rfl mT kT bT .nil zc6 (zb0 (pv 0) (zb0 zb6 zb2)))
   (zb0 (zb8 GO hr rfl mO kO bO .nil zc6 (zb0 (pv 0) (zb0 (zd7 (zf3 (zf3 (zf3 (zf3 zb2))))) zb2))) zb2))))))))
  (zb3 (zh1 (i:=7) (N':=["_law_name","_law_elder","_law_done_by"]) (src:=[none,none,some 3]) rfl yc0.nd rfl rfl ⟨rfl,by decide +kernel,by decide +kernel,rfl,rfl,rfl⟩
   (zf7 (zc9 hu (pv 2) zd4 (fun _ _=>rfl))) (g:=gTup K 2 (zk6 (zd9 0) (zk6 (zd9 1) gNil))) (fun _ _ _ _=>zh8 (n:=2) rfl (zc1 (zb9 (i:=0) nd3 rfl (wt1 rfl) (wz3 rfl)) (zc1 (zb9 (i:=1) nd3 rfl (wt1 rfl) (wz3 rfl)) zg2)))
   (fun _ _ _ _=>zg5)
   (te:=tTup (zc5 (tVar 0) (zc5 (tVar 1) (zc5 (tCB (fun xs H Q=>∃p ys,xs=[.ref p]/\((SqL K H p ys/\∀l,H l=none->Q (.ref l) (upd H l (.tup ys)))∨(SqT K H p ys/\Q (.ref p) H))) (zc5 (tRev K (wc4 (tVar 2) (tVar 0) (tLst tNil)) (tUn (rU fun i=>.int (-i)) (tC (.int 1)))) tNil)) tNil))))
   (fun _ _ _ _=>zf0 (zb0 (pv 0) (zb0 (pv 1) (zb0 (zd2 zd3 rfl mtu (by decide +kernel) (zb0 (wd7 (xt4 hu (pv 2) (pv 0) (zd7 zb2) ⟨rfl,rfl,rfl,rfl⟩) (yh5 zr6 zb6)) zb2)) zb2)))))
  (zb7 (zd0 (zf0 (zb0 (zd2 zd3 rfl mtu (by decide +kernel) (zb0 (pv 7) zb2)) (zb0 (zd2 zd3 rfl mtu (by decide +kernel) (zb0 (zf2 zp1 rfl mso (by decide +kernel) (zb0 (zc9 hu (pv 2) zd4 (fun _ _=>rfl)) zb2)) zb2)) (zb0 (pv 6) zb2)))))))))))),?_⟩
 first | dsimp only[cxOf,Cx.nox] | skip
 have s1:∀{n:Nat},n<=1000->n<sizeLine:=fun h=>zc0 h;refine⟨_,rfl,hd,d,m,t,r,rfl,hh,by lia,fun wd WA D H1 t1 S1 f1 htold hheld ht1=>?_⟩;have h6:=S1.ok.d6;have h12:=S1.ok.l12;intro bk hbk;have S2:=S1.fr0 (FrS.new (S:=[]) (o:=.dK []) hbk);have hbkM:bk∉M0 hd WA:=S1.notin hbk;obtain⟨d2,m2,hH2,ok2⟩:=S2.hand;refine⟨_,rfl,_,rfl,_,_,rfl,rfl,⟨by lia,by decide⟩,_,_,rfl,rfl,_,rfl,hd,_,3,3,rfl,rfl,hH2,rfl,?_⟩;have hbkd:bk≠hd:=fun z=>hbkM (by rw[z];simp)
 have S3:Sit0 (upd (upd H1 bk (.dK [])) hd (hl d2 m2 t1 (mo-mo / 3))) hd wd WA D t1 (mo-mo / 3):=S2.setHand ok2;have f3:FrS (M0 hd WA) H1 (upd (upd H1 bk (.dK [])) hd (hl d2 m2 t1 (mo-mo / 3))):=(FrS.new hbk).put' (by trivial);have hbk3:upd (upd H1 bk (.dK [])) hd (hl d2 m2 t1 (mo-mo / 3)) bk=some (.dK []):=by rw[zb5 hbkd];exact zb1
 have hM:∀p,H1 p=none->p∉M0 hd WA:=fun p hp=>S1.notin hp;refine⟨_,rfl,wd,_,rfl,S3.w.g.2.2.1,WA.deeds,_,rfl,.inl (SqL.of S3.w.deeds.2),_,_,rfl,rfl,_,rfl,_,rfl,_,_,rfl,?_,?_⟩
 ·rw[lqm];exact⟨by lia,by lia,by decide,by decide⟩
 have hdl0:1<=D.deeds.length:=vp3.mpr S1.ok.d1;have en:(((D.deeds.map V.str).length:Int)-1-(-1)).toNat=D.deeds.length:=by rw[lqm];lia
 rw[en];refine xx4 (hi:=(((D.deeds.map V.str).length:Nat):Int)-1) (n:=D.deeds.length) (PInv mo H1 hd wd bk WA D t1)
  ⟨_,_,t1,mo-mo / 3,[],rfl,S3,f3,hr0.1,hr0.2,by lia,hbk3,⟨by simp,(fun k v e=>nomatch e)⟩,fun j hj=>absurd hj (Nat.not_lt_zero _)⟩ ?_ ?_
 ·rintro i σ Hx hi ⟨lx,kx,tx,rx,kvs,rfl,Sx,fx,hx0,hx1,hx2,hbx,hBK,hG⟩;have hlv:D.deeds.length-1-i<D.deeds.length:=by lia
  have elv:(((D.deeds.map V.str).length:Nat):Int)-1-(i:Int)=((D.deeds.length-1-i:Nat):Int):=by rw[lqm];lia
  have hat:atI (D.deeds.map V.str) ((((D.deeds.map V.str).length:Nat):Int)-1-(i:Int))=some (.str D.deeds[D.deeds.length-1-i]):=by
   rw[elv];exact zq3 (by rw[wr3,wq9 hlv];rfl)
  have hdn:D.deeds[D.deeds.length-1-i]∈D.deeds:=ww5 hlv;obtain⟨op,o1,o2,o3,o4⟩:=S1.w.ol _ hdn;have hdq:D.deeds[D.deeds.length-1-i]?=some D.deeds[D.deeds.length-1-i]:=wq9 hlv;generalize hos:D.own D.deeds[D.deeds.length-1-i]=os at o2 o3 o4;have o2x:=o2.keep fx;refine⟨_,rfl,wd,_,rfl,Sx.w.g.2.2.2.2.1,_,rfl,wd,_,rfl,Sx.w.g.2.2.1,_,rfl,WA.deeds,_,_,_,rfl,rfl,SqL.of Sx.w.deeds.2,hat,WA.owners,_,rfl,.inl ⟨_,Sum.inr _,.inl Sx.w.owners.2,rfl,o1.symm⟩,op,rfl,⟨_,SqL.of o2x.2⟩,?_⟩;refine zm4 (xs:=os.map V.str) (QInv mo H1 hd wd bk WA D t1 ((((D.deeds.map V.str).length:Nat):Int)-1-(i:Int)) i)
   ⟨_,tx,rx,kvs,rfl,Sx,fx,hx0,hx1,by lia,hbx,hBK,hG,fun _ _ jj hj=>absurd hj (Nat.not_lt_zero _)⟩ ?_ ?_ ?_
  ·rintro j σ Hy hj ⟨_,_,_,_,_,_,fy,_⟩;exact SqL.of (o2.keep fy).2
  ·rintro j x σ Hy hx ⟨ky,ty,ry,kvs,rfl,Sy,fy,hy0,hy1,hy2,hby,hBKy,hGy,hQy⟩;obtain⟨hj,_⟩:=wr1.mp hx;rw[lqm]at hj;rw[wr3,wq9 hj]at hx;cases hx;have hon:os[j]∈D.names:=o3 _ (ww5 hj);refine⟨_,rfl,bk,rfl,.inl ⟨_,.inl hby⟩,_,rfl,wt6 _,fun pe hpe=>?_⟩;have Sz:=Sy.fr0 (FrS.new (S:=[]) (o:=.lst []) hpe);have fz:FrS (M0 hd WA) H1 (upd Hy pe (.lst [])):=fy.trans (FrS.new hpe);have hbz:upd Hy pe (.lst []) bk=some (.dK kvs):=by rw[zb5 (zb4 hby hpe)];exact hby
   have hBKz:BK (HsD D) H1 (upd Hy pe (.lst [])) kvs (13*i+j):=hBKy.keep (FrS.new hpe) hM (Tup.new hpe);have hGz:Gots D i (upd Hy pe (.lst [])) kvs:=fun j' hj' dn hd x hx=>(hGy j' hj' dn hd x hx).keep hBKy (FrS.new hpe) hM (Tup.new hpe);have hQz:wk9 D i j (upd Hy pe (.lst [])) kvs:=fun dn hd jj hj' x hx=>(hQy dn hd jj hj' x hx).keep hBKy (FrS.new hpe) hM (Tup.new hpe);have hpe1:H1 pe=none:=fy.old Sy.have_ hpe;have hpez:upd Hy pe (.lst []) pe=some (.lst []):=zb1;generalize upd Hy pe (.lst [])=Hz at Sz fz hbz hBKz hpez hGz hQz;have go:∀(pl:Addr)(fs:List Addr)(kv':List (Key×V))(Hv:Hp),Sit0 Hv hd wd WA D ty ry->FrS (M0 hd WA) H1 Hv->Hv bk=some (.dK kv')->BK (HsD D) H1 Hv kv' (13*i+j+1)->Hv pl=some (.lst (fs.map V.ref))->fs.length<=13*i+j->H1 pl=none->Heads (HsD D) Hv fs->Gots D i Hv kv'->wk9 D i j Hv kv'->valV kv' (Sum.inr os[j])=some (.ref pl)->
     tyV K "list" (.ref pl) Hv/\(zc5 (zn6 yw5 [] E0 (zc5 (tVar 0) (zc5 (tVar 2) (zc5 (tVar 5) (zc5 (tVar 4) tNil))))) tNil) [some (.ref hd),some (.int mo),some (.ref wd),some (.ref bk),some (.int ((((D.deeds.map V.str).length:Nat):Int)-1-(i:Int))),some (.str os[j]),none,none] Hv fun vs H2=>zt5 (.ref pl) vs H2 fun _ H1'=>
      QInv mo H1 hd wd bk WA D t1 ((((D.deeds.map V.str).length:Nat):Int)-1-(i:Int)) i (j+1) [some (V.ref hd),some (.int mo),some (.ref wd),some (.ref bk),some (.int ((((D.deeds.map V.str).length:Nat):Int)-1-(i:Int))),some (.str os[j]),none,none] H1':=by
    intro pl fs kv' Hv Sv fv hbv hBKv hplv hxl hpl1 hgs hGv hQv hvv;refine⟨.inl ⟨rfl,_,SqL.of hplv⟩,_,rfl,_,rfl,_,rfl,_,rfl,hd,wd,WA,D,ty,ry,os[j],D.deeds.length-1-i,by rw[elv];rfl,hon,hlv,Sv,hy0,by lia,fun xn dn pv gv ln rsn fsn Hw tw rw' hdw hxw hlw hfw hnw Sw fw hw0 hw1 hw2=>?_⟩;have hplw:=fw _ _ (hM pl hpl1) hplv;have hbw:=fw _ _ hbkM hbv;have tpw:Tup Hv Hw:=Sv.tup fw;have hgw:Heads (HsD D) Hw (fs++[xn]):=fun f hf=>by
     rcases wt9.mp hf with hf | hf
     ·exact(hgs.keep tpw) f hf
     ·have e:f=xn:=by simpa using hf
      rw[e];exact⟨(dn,ln,rsn,fsn),pv,gv,hxw,hlw,hfw,by show fsn.length<=80;lia⟩
    have So:=Sit0.own (o:=.lst ((fs++[xn]).map V.ref)) S1 Sw (fv.trans fw) hpl1;have ea:fs.map V.ref++[V.ref xn]=(fs++[xn]).map V.ref:=by rw[wr9];rfl
    refine⟨pl,_,_,rfl,rfl,hplw,s1 (by rw[lqm];lia),?_⟩;rw[ea];have hbB:=hBKv.keep fw hM tpw;refine⟨_,tw,rw',kv',rfl,So.1,So.2,hw0,by lia,by lia,?_,?_,fun j' hj' dn' hd' x hx=>((hGv j' hj' dn' hd' x hx).keep hBKv fw hM tpw).app hplw,fun dn' hd' jj hj' x hx=>?_⟩
    ·rw[zb5 (fun z=>by rw[z,hplw]at hbw;cases hbw)];exact hbw
    ·exact hbB.app hplw (by rw[wr2,ws8];lia) hgw
    ·rcases vj7 jj j with hjj | hjj
     ·exact((hQv dn' hd' jj hjj x hx).keep hBKv fw hM tpw).app hplw
     ·have ejj:jj=j:=by lia
      rw[hdq]at hd' hdw;cases hd';cases hdw;rw[hos,ejj,wq9 hj]at hx;cases hx;exact⟨pl,fs++[xn],hvv,zb1,xn,wv4 _ (wv1.mpr rfl),(_,ln,rsn,fsn),⟨pv,gv,(Tup.lst hplw) _ _ hxw,(⟨hlw,hfw,by show fsn.length<=80;lia⟩:RowsIs (HsD D) Hw (_,ln,rsn,fsn)).keep (Tup.lst hplw)⟩,rfl⟩
   refine⟨kvs,Sum.inr os[j],hbz,rfl,s1 (by have:=hBKz.1;lia),fun v hv=>?_,fun hv=>?_⟩
   ·obtain⟨pl,xs,rfl,a1,a2,a3,a4⟩:=hBKz.2 _ _ hv;exact go pl xs kvs Hz Sz fz hbz (hBKz.more (by lia)) a1 a2 a3 a4 hGz hQz hv
   ·have So:=Sit0.own (o:=.dK (putK kvs (Sum.inr os[j]) (.ref pe))) S1 Sz fz hbk;have hbp:pe≠bk:=fun z=>by rw[z,hbz]at hpez;cases hpez
    refine go pe [] (putK kvs (Sum.inr os[j]) (.ref pe)) _ So.1 So.2 zb1 ?_ (by rw[zb5 hbp];exact hpez) (wt6 _) hpe1 (fun _ h=>by cases h) (fun j' hj' dn' hd' x hx=>((hGz j' hj' dn' hd' x hx).put hv).dk hbz) (fun dn' hd' jj hj' x hx=>((hQz dn' hd' jj hj' x hx).put hv).dk hbz) (by rw[zm5,ww4 rfl]);have h1:=hBKz.put (fs:=[]) (k:=(Sum.inr os[j]:Key)) hpez (wt6 _) hpe1 (fun _ h=>by cases h);refine⟨h1.1,fun k v e=>?_⟩;obtain⟨p',xs',b1,b2,b3,b4,b5⟩:=h1.2 k v e;exact⟨p',xs',b1,by rw[zb5 (fun z=>by rw[z,hbz]at b2;cases b2)];exact b2,b3,b4,b5.keep (Tup.dk hbz)⟩
  ·rintro σ Hy ⟨ky,ty,ry,kvs,rfl,Sy,fy,hy0,hy1,hy2,hby,hBKy,hGy,hQy⟩;rw[lqm]at hy2 hBKy hQy;refine⟨_,_,ty,ry,kvs,rfl,Sy,fy,hy0,hy1,by lia,hby,hBKy.more (by lia),fun j' hj' dn' hd' x hx=>?_⟩;rcases vj7 j' i with c | c
   ·exact hGy j' c dn' hd' x hx
   ·have ej:j'=i:=by lia
    subst ej;rw[hdq]at hd';cases hd';rw[hos]at hx;obtain⟨jj,hjj⟩:=ww7.mp hx;exact hQy _ hdq jj (wr1.mp hjj).1 x (by rw[hos];exact hjj)
 rintro σ H4 ⟨lx,kx,t4,r4,kvs,rfl,S4,f4,h40,h41,h42,hb4,hBK4,hG4⟩;obtain⟨d4,m4,hH4,ok4⟩:=S4.hand;refine⟨_,rfl,hd,_,_,_,rfl,rfl,SqL.of hH4,at3,_,rfl,_,_,rfl,rfl,⟨by lia,by decide⟩,_,_,rfl,rfl,_,rfl,hd,_,3,3,rfl,rfl,hH4,rfl,?_⟩;have S5:Sit0 (upd H4 hd (hl d4 m4 t4 (r4+mo / 3))) hd wd WA D t4 (r4+mo / 3):=S4.setHand ok4;have f5:FrS (M0 hd WA) H1 (upd H4 hd (hl d4 m4 t4 (r4+mo / 3))):=f4.put' (by trivial);have hb5:upd H4 hd (hl d4 m4 t4 (r4+mo / 3)) bk=some (.dK kvs):=by rw[zb5 hbkd];exact hb4
 have hBK5:BK (HsD D) H1 (upd H4 hd (hl d4 m4 t4 (r4+mo / 3))) kvs (13*D.deeds.length):=hBK4.keep (M:=M0 hd WA) (FrS.chg (.head _)) hM (S4.tup (FrS.chg (.head _)));have hG5:Gots D D.deeds.length (upd H4 hd (hl d4 m4 t4 (r4+mo / 3))) kvs:=fun j' hj' dn' hd' x hx=>(hG4 j' hj' dn' hd' x hx).keep hBK4 (M:=M0 hd WA) (FrS.chg (.head _)) hM (S4.tup (FrS.chg (.head _)));have toS:∀{G:Hp->Prop},G (upd H4 hd (hl d4 m4 t4 (r4+mo / 3)))->G (upd H4 hd (.lst ([V.int d4,V.int m4,V.int t4,V.int r4].set 3 (V.int (r4+mo / 3))))):=fun h=>h;refine toS ?_;generalize upd H4 hd (hl d4 m4 t4 (r4+mo / 3))=H5 at S5 f5 hb5 hBK5 hG5;refine⟨_,rfl,_,rfl,fun en' hen=>?_⟩;have hen1:H1 en'=none:=f5.old S5.have_ hen;have Se:Sit (upd H5 en' (.dK [])) hd en' wd WA D t4 (r4+mo / 3):=S5.open hen DOk.nil;have fcl:∀Hf:Hp,FrS (Ms hd en' WA) (upd H5 en' (.dK [])) Hf->FrS (M0 hd WA) H5 Hf:=fun Hf ff=>FrS.close hen ff;generalize upd H5 en' (.dK [])=H6 at Se fcl;obtain⟨d,m,hh6⟩:=Se.hand;refine⟨_,rfl,_,rfl,hd,d,m,t4,r4+mo / 3,5,rfl,hh6,by lia,by decide,by decide,fun x d7 m7 t7 x0 x1 c7 e7=>?_⟩;obtain⟨dp,rfl⟩:∃dp:Nat,x=(dp:Int):=⟨x.toNat,by lia⟩;have S7:=Se.setHand (r':=r4+mo / 3) c7;have f7:FrS (Ms hd en' WA) H6 (upd H6 hd (hl d7 m7 t7 (r4+mo / 3))):=FrS.chg (by trivial);refine⟨_,rfl,by show 4<=sizeLine;exact ws3 (s1 (by decide)),fun pi hpi=>?_⟩;have Sa:=S7.fr0 (FrS.new (S:=[]) (o:=.lst [V.int 4,V.int 8,V.int 12,V.int 20]) hpi);have fa:=f7.trans (FrS.new (o:=.lst [V.int 4,V.int 8,V.int 12,V.int 20]) hpi);have hpid:pi≠hd:=fun z=>S7.notin hpi (by rw[z];simp)
 obtain⟨d,m,hh7⟩:=Sa.hand;refine⟨hd,pi,d,m,t7,r4+mo / 3,_,rfl,hh7,by lia,hpid,SqL.of zb1,by simp,by show 4<1000;decide,fun y db mb tb hy cb eb=>?_⟩;obtain⟨mq,rfl,mo0,mo1⟩:∃mq:Int,y=.int mq/\0<=mq/\mq<=100:=by
  simp only[ws5,wr0,vb0]at hy;rcases hy with rfl | rfl | rfl | rfl
  ·exact⟨4,rfl,by decide,by decide⟩
  ·exact⟨8,rfl,by decide,by decide⟩
  ·exact⟨12,rfl,by decide,by decide⟩
  ·exact⟨20,rfl,by decide,by decide⟩
 have Sb:=Sa.setHand (r':=r4+mo / 3) cb;have fb:=fa.put' (a:=hd) (o:=hl db mb tb (r4+mo / 3)) (by trivial);refine⟨hd,en',wd,WA,D,tb,r4+mo / 3,-1,mq,dp,rfl,by lia,mo0,mo1,Sb,by lia,by lia,fun mv rsm fsm Hc tc rc hmv hfm hnm Sc fc hc0 hc1 hc2=>?_⟩;have f8:=fcl _ (fb.trans fc);have S8:=Sc.close;have hb8:=f8 _ _ hbkM hb5;have hBK8:=hBK5.keep f8 hM (S5.tup f8);have hG8:Gots D D.deeds.length Hc kvs:=fun j' hj' dn' hd' x hx=>(hG5 j' hj' dn' hd' x hx).keep hBK5 f8 hM (S5.tup f8);have hm8:RowsIs (HsD D) Hc ("",mv,rsm,fsm):=⟨hmv,hfm,by show fsm.length<=80;lia⟩;have f18:=f5.trans f8;generalize Hc=H8 at f8 S8 hb8 hBK8 f18 hm8 hG8;obtain⟨ts,t1',t2',t3'⟩:=S8.w.tree;refine⟨_,rfl,wd,_,rfl,S8.w.g.1,WA.tree,rfl,⟨_,SqL.of t1'.2⟩,fun Dl hDl=>?_⟩;refine zh0 (xs:=ts.map V.ref) (fun i σ Hx=>(∃x y,σ=[x,y,some (.ref bk)])/\FrS [] H8 Hx/\∃us:List Addr,us.length=i/\Hx Dl=some (.lst (us.map V.ref))/\A2 (KAt (HsD D) (WnD D) Hx) us (D.tr.take i)) ⟨⟨_,_,rfl⟩,(FrS.refl).put hDl,[],rfl,zb1,.nil⟩ ?_ ?_ ?_
 ·rintro i σ Hx hi ⟨_,fx,_⟩;exact SqL.of (fx _ _ (by trivial) t1'.2)
 ·rintro i x σ Hx hx ⟨⟨x0',y0',rfl⟩,fx,us,hul,hDx,hus⟩;rw[wr3]at hx;obtain⟨tt,htt',rfl⟩:=wr6.mp hx;obtain⟨hi,_⟩:=wr1.mp htt';have htr:D.tr[i]?=some D.tr[i]:=wq9 (by lia);have e3:=t3' i tt _ htt' htr;have hbx:=fx _ _ (by trivial) hb8;refine⟨tt,_,rfl,SqT.of (fx _ _ (by trivial) e3.2),rfl,_,_,rfl,_,_,rfl,rfl,?_⟩;refine⟨_,rfl,_,rfl,_,rfl,bk,rfl,.inl ⟨_,.inl hbx⟩,_,rfl,wt6 _,fun pd hpd=>?_⟩;have f9:FrS [] Hx (upd Hx pd (.lst [])):=FrS.new hpd;have hb9:=f9 _ _ (by trivial) hbx;have hD9:=f9 _ _ (by trivial) hDx;have hp9:upd Hx pd (.lst []) pd=some (.lst []):=zb1;generalize upd Hx pd (.lst [])=H9 at f9 hb9 hD9 hp9;have f89:FrS [] H8 H9:=fx.trans f9;obtain⟨pz,zs,hpz,hHz,hzl,hzg,hzw⟩:∃(pz:Addr)(zs:List Addr),(valV kvs (Sum.inr D.tr[i].1)).getD (.ref pd)=.ref pz/\H9 pz=some (.lst (zs.map V.ref))/\zs.length<=80/\Heads (HsD D) H9 zs/\∀d,WnD D D.tr[i].1 d->∃f∈zs,∃y,DeedIs (HsD D) H9 f y/\y.1=d:=by
   have hgot:∀d,WnD D D.tr[i].1 d->Got (HsD D) H8 kvs D.tr[i].1 d:=fun d hd=>by
    obtain⟨j,hj⟩:=ww7.mp hd.1;have hjl:=(wr1.mp hj).1;refine hG8 (D.deeds.length-1-j) (by lia) d ?_ _ hd.2;rw[show D.deeds.length-1-(D.deeds.length-1-j)=j by lia];exact hj
   cases hv:valV kvs (Sum.inr D.tr[i].1)with
   | none=>
    refine⟨pd,[],rfl,hp9,wt6 _,(fun _ h=>by cases h),fun d hd=>?_⟩;obtain⟨p',fs',e,_⟩:=hgot d hd;rw[hv]at e;cases e
   | some v=>
    obtain⟨p',xs',b1,b2,b3,_,b5⟩:=hBK8.2 _ _ hv;refine⟨p',xs',b1,f89 _ _ wr0 b2,by lia,b5.keep (Tup.of0 f89),fun d hd=>?_⟩;obtain⟨p2,fs',e,e2,g,hg,y,hy,ey⟩:=hgot d hd;rw[hv,b1]at e;cases e;rw[b2]at e2;injection e2 with e2;injection e2 with e2;rw[←yh4 e2]at hg;exact⟨g,hg,y,hy.keep (Tup.of0 f89),ey⟩
  refine⟨_,DGet.k (k:=(Sum.inr D.tr[i].1:Key)) hb9,_,rfl,rfl,pz,_,hpz,SqL.of hHz,fun pv' hpv=>?_⟩;rw[←List.map_reverse];refine⟨pv',_,rfl,.inl ⟨SqL.of zb1,fun pu hpu=>?_⟩⟩;refine⟨by show 3<=sizeLine;exact ws3 (s1 (by decide)),fun pt hpt=>?_⟩;have fA:FrS [] H9 (upd (upd H9 pv' (.lst (zs.reverse.map V.ref))) pu (.tup (zs.reverse.map V.ref))):=(FrS.new hpv).trans (FrS.new hpu);have hpuA:upd (upd H9 pv' (.lst (zs.reverse.map V.ref))) pu (.tup (zs.reverse.map V.ref)) pu=some (.tup (zs.reverse.map V.ref)):=zb1;have hDA:=fA _ _ (by trivial) hD9;have hAg:Heads (HsD D) (upd (upd H9 pv' (.lst (zs.reverse.map V.ref))) pu (.tup (zs.reverse.map V.ref))) zs.reverse:=fun f hf=>let ⟨z,e⟩:=hzg f (List.mem_reverse.mp hf);⟨z,e.keep (Tup.of0 fA)⟩
  have hAw:∀d,WnD D D.tr[i].1 d->∃f∈zs.reverse,∃y,DeedIs (HsD D) (upd (upd H9 pv' (.lst (zs.reverse.map V.ref))) pu (.tup (zs.reverse.map V.ref))) f y/\y.1=d:=fun d hd=>by
   obtain⟨f,hf,y,hy,ey⟩:=hzw d hd;exact⟨f,List.mem_reverse.mpr hf,y,hy.keep (Tup.of0 fA),ey⟩
  generalize upd (upd H9 pv' (.lst (zs.reverse.map V.ref))) pu (.tup (zs.reverse.map V.ref))=HA at fA hDA hpt hpuA hAg hAw;have hDt:Dl≠pt:=zb4 hDA hpt;have hDB:upd HA pt (.tup [V.str D.tr[i].1,eldV D.tr[i].2,V.ref pu]) Dl=some (.lst (us.map V.ref)):=by rw[zb5 hDt];exact hDA
  refine⟨_,hDB,by rw[lqm];exact s1 (by lia),⟨_,_,rfl⟩,(((fx.trans f9).trans fA).trans (FrS.new hpt)).put hDl,us++[pt],by rw[wr2,hul];rfl,by rw[zb1,wr9];rfl,?_⟩;have tl:Tup (upd HA pt (.tup [V.str D.tr[i].1,eldV D.tr[i].2,V.ref pu])) (upd (upd HA pt (.tup [V.str D.tr[i].1,eldV D.tr[i].2,V.ref pu])) Dl (.lst (us.map V.ref++[V.ref pt]))):=Tup.lst hDB;have tn:=(Tup.new (o:=.tup [V.str D.tr[i].1,eldV D.tr[i].2,V.ref pu]) hpt).trans tl;rw[ws7,htr];exact(hus.imp fun u z h=>h.keep (((Tup.of0 (f9.trans fA)).trans (Tup.new hpt)).trans tl)).snoc ⟨pu,zs.reverse,tl _ _ zb1,tn _ _ hpuA,by rw[vk1];exact hzl,hAg.keep tn,fun d hd=>by
   obtain⟨f,hf,y,hy,ey⟩:=hAw d hd;exact⟨f,hf,y,hy.keep tn,ey⟩⟩
 rintro σ H9 ⟨_,f9,us,hul,hD9,hus⟩;rw[lqm]at hul hus;rw[wr8 (by lia)]at hus;refine⟨_,rfl,Dl,_,rfl,.inl ⟨SqL.of hD9,fun kt hkt=>?_⟩⟩;have fA:FrS [] H9 (upd H9 kt (.tup (us.map V.ref))):=FrS.new hkt;have hktA:upd H9 kt (.tup (us.map V.ref)) kt=some (.tup (us.map V.ref)):=zb1;generalize upd H9 kt (.tup (us.map V.ref))=HA at fA hktA;have SA:=(S8.fr0 f9).fr0 fA;refine⟨_,rfl,wd,_,rfl,SA.w.g.2.1,WA.late,D.late,rfl,SqL.of SA.w.late.2,by have:=SA.ok.lateLen;lia,fun ls ss' hls hperm _=>?_⟩;refine⟨ls,_,rfl,.inl ⟨SqL.of zb1,fun lt hlt=>?_⟩⟩;refine⟨_,rfl,by show 3<=sizeLine;exact ws3 (s1 (by decide)),fun pr hpr=>?_⟩;have fB:FrS [] HA (upd (upd (upd HA ls (.lst (ss'.map V.str))) lt (.tup (ss'.map V.str))) pr (.tup [V.ref kt,V.ref lt,V.ref mv])):=((FrS.new hls).trans (FrS.new hlt)).trans (FrS.new hpr);have fAll:FrS [] H8 _:=(f9.trans fA).trans fB;obtain⟨ks,kd3,kd4,kd5,kd6⟩:=mk_ks (H:=H9) us _ hus;have tAB:=Tup.of0 (fA.trans fB);have t9B:=(Tup.of0 f9).trans tAB;have SB:=SA.fr0 fB;obtain⟨dh,mh,hHf⟩:=SB.hand;refine q pr ks ("",mv,rsm,fsm) D.tr (HsD D) _ dh mh tc rc ?_ ⟨kt,us,V.ref lt,zb1,fB _ _ wr0 hktA,kd3,fun j u z hu' hz=>(kd4 j u z hu' hz).keep tAB,hm8.keep t9B,by lia⟩ ⟨kt,us,V.ref lt,V.ref mv,zb1,fB _ _ wr0 hktA,hus.len,fun j u z hu' hz=>?_⟩ S1.ok.ok h12 ⟨kt,lt,_,ss',zb1,?_,by rw[hperm.length_eq];have:=SA.ok.lateLen;lia⟩ ⟨kd5,fun k d hkd=>⟨hkd.1,?_⟩,D.deeds,S1.ok.d6,fun k d h=>h.2.1⟩ hHf (by lia)
 ·intro b o n e;refine fAll _ _ (by trivial) (f18 b o (fun z=>?_) (f1 b o n e));simp only[M0,ws5,wr0,vb0]at z;rcases z with z | z | z
  ·exact n (by rw[z];simp)
  ·exact zb4 e htold z
  ·exact zb4 e hheld z
 ·obtain⟨z',hz',dt,fs,e1,_⟩:=hus.get hu';rw[hz]at hz';cases hz';exact⟨_,tAB _ _ e1⟩
 ·exact(Tup.new hpr) _ _ zb1
 ·obtain⟨_,hd',n,l,hup,hn,ho⟩:=hkd;have hnm:n∈ks.map (·.1):=by
   rw[kd5];exact hup.mem n hn
  obtain⟨y,hy,ey⟩:=ws2.mp hnm;exact⟨n,l,hup,hn,y,hy,ey,kd6 y hy d ⟨hd',by rw[ey];exact ho⟩⟩
abbrev ys0:Stmt:=top 9
abbrev yv0:Stmt:=top 10
abbrev sLay:Stmt:=top 11
abbrev wn7:Stmt:=top 12
theorem yc2(x:V)(xs:List V):atI (x::xs) 0=some x:=by
 unfold atI ixN;simp
theorem zj4{K:PySem.W.Frag}{a:Addr}{xs:List V}{g:TG}{tb:TS}{D:Ends}{σ:St}{H:Hp}(Pv:Nat->St->Hp->Prop)(h0:Pv 0 σ H)(hl:∀i σ H,i<=xs.length->Pv i σ H->SqT K H a xs)
  (hs:∀i x σ H,xs[i]?=some x->Pv i σ H->g x σ H fun σ2 H2=>tb {D with nx:=Pv (i+1),ct:=Pv (i+1),bk:=D.nx} σ2 H2) (hd:∀σ H,Pv xs.length σ H->D.nx σ H):
  ∃W:Nat->Nat->St->Hp->Prop,(∃m,W 0 m σ H)/\∀i m σ H,W i m σ H->
   ((Itt K a).stop i H/\D.nx σ H)∨((Itt K a).go i H/\∃N:St->Hp->Prop,(∀σ' H',N σ' H'->∃m',m'<m/\W (i+1) m' σ' H')/\∀x H',(Itt K a).yld i H x H'->g x σ H' fun σ2 H2=>tb {D with nx:=N,ct:=N,bk:=D.nx} σ2 H2):=by
 refine⟨fun i m σ H=>m=xs.length-i/\i<=xs.length/\Pv i σ H,⟨xs.length,by simp,wt6 _,h0⟩,?_⟩;rintro i m σ H ⟨rfl,hi,p⟩;have q:=hl i σ H hi p
 by_cases hlt:i<xs.length
 ·refine .inr ⟨⟨xs,xs[i],q,wq9 hlt⟩,Pv (i+1),fun σ' H' p'=>⟨xs.length-(i+1),by lia,rfl,hlt,p'⟩,fun x H' y=>?_⟩;obtain⟨e,y⟩:=y;subst e;exact hs i x σ _ (y xs q) p
 ·have e:i=xs.length:=by lia
  subst e;exact .inl ⟨⟨xs,q,wr5 _⟩,hd σ H p⟩
theorem zm0{K:PySem.W.Frag}{a:Addr}{xs:List V}{g:TG}{tt:TT}{te:TE}{D:Addr}{σ0:St}{H0:Hp}{Q:Hp->Prop}(Pv:Nat->St->Hp->Prop)(h0:Pv 0 σ0 H0)(hl:∀i σ H,i<=xs.length->Pv i σ H->SqT K H a xs)
  (hs:∀i x σ H,xs[i]?=some x->Pv i σ H->g x σ H fun σ2 H2=>tt σ2 H2 fun b H3=>if b=true then te σ2 H3 fun v H4=>∃ys,H4 D=some (.lst ys)/\ys.length<sizeLine/\Pv (i+1) σ2 (upd H4 D (.lst (ys++[v]))) else Pv (i+1) σ2 H3)
  (hd:∀σ H,Pv xs.length σ H->Q H):yd7 (Itt K a) g tt te D σ0 H0 Q:=by
 refine⟨fun i m σ H=>m=xs.length-i/\i<=xs.length/\Pv i σ H,⟨xs.length,by simp,wt6 _,h0⟩,?_⟩;rintro i m σ H ⟨rfl,hi,p⟩;have q:=hl i σ H hi p
 by_cases hlt:i<xs.length
 ·refine .inr ⟨⟨xs,xs[i],q,by simp[hlt]⟩,Pv (i+1),fun σ' H' p'=>⟨xs.length-(i+1),by lia,rfl,hlt,p'⟩,fun x H' y=>?_⟩;obtain⟨e,y⟩:=y;subst e;exact hs i x σ _ (y xs q) p
 ·have e:i=xs.length:=by lia
  subst e;exact .inl ⟨⟨xs,q,wr5 _⟩,hd σ H p⟩
theorem yf9{n:Nat}(h:n<=1000000):n<sizeLine:=Nat.lt_of_le_of_lt h (by decide)
theorem cut1(x:V)(rest:List V):cutV (x::rest) (some 1) none=rest:=by
 unfold cutV HT.sIx;simp
def zk2(w:Str)(rest:List V):List V:=if w="either"∨w="again" then rest else []
inductive yz4(vs:List V)(H:Hp)(Q:VK):Prop
 | mk(a:Addr)(w:Str)(rest:List V)(h1:vs=[.ref a])(h2:H a=some (.tup (.str w::rest)))(h3:∀p,H p=none->Q (.ref p) (upd H p (.tup (zk2 w rest)))):yz4 vs H Q
def yj2:Sp:=fun vs H Q _=>yz4 vs H Q
theorem xz5:zd1 ["row"] ["row"] (zc2 yv0):=⟨rfl,rfl,rfl,by decide +kernel,rfl,by decide +kernel,by decide +kernel⟩
theorem xh2{k:Nat}{ah:Addr}(F:Fun K "rows_within" "rows_within" yv0 f fd)(mH:mg "HOLDERS"=some (.ref ah))(hH:∀H,SqT K H ah [.str "either",.str "again"]):FnOk P w K mg base CX0 (k+1) f fd ["row"] yj2:=by
 refine F.ok xz5 (fun vs H Q E h=>?_) (fun cdv A outer s H vs Q E hr h=>?_)
 ·obtain⟨a,w,rest,rfl,_⟩:=h;rfl
 obtain⟨a,w,rest,rfl,ha,q⟩:=h;refine⟨_,zb3 (zh3 (zc4 zg6 (eT (pv 0) zb6) (yr7 (v:=.ref ah) rfl mH rfl) rfl)
   (zb7 (zd0 (zk3 wc6 (pv 0) (zm6 zb6) zm8))) zd5)
  (zb7 (zd0 (zf0 zb2))),?_⟩
 first | dsimp only[cxOf,Cx.nox] | skip
 have ei:inV (.str w) [.str "either",.str "again"]=decide (w="either"∨w="again"):=by
  have:=zj8 w ["either","again"];simpa using this
 refine⟨_,rfl,a,_,_,.str w,rfl,rfl,SqT.of ha,yc2 _ _,ah,_,rfl,.inr (hH _),rfl,rfl,_,rfl,?_⟩;show if inV (.str w) [.str "either",.str "again"]=true then _ else _
 rw[ei];refine ite2 (fun c=>?_) (fun c=>?_)
 ·have c':=ws0 c;refine⟨_,rfl,_,rfl,a,_,rfl,SqT.of ha,?_,fun p hp=>?_⟩
  ·intro z;have:=z.1;unfold HT.sIx at this;simp at this
  ·have:=q p hp;unfold zk2 at this;rw[ww4 c']at this;rw[cut1];exact this
 ·have c':¬(w="either"∨w="again"):=fun z=>c (wt8 z);refine⟨wt6 _,fun p hp=>?_⟩;have:=q p hp;unfold zk2 at this;rw[wv5 c']at this;exact this
abbrev Bz:=(Str×Str)×Dz
def zg4(y:Str×List Dz):List Bz:=y.2.map fun z=>((y.1,z.1),z)
def zh2(ks:List (Str×List Dz))(m0:Dz):List Bz:=(("",""),m0)::ks.flatMap zg4
def BT(K:PySem.W.Frag)(H:Hp)(bd:Addr)(n:Str×Str):Prop:=H bd=some (.tup [.str n.1,.str n.2])∨∀H',SqT K H' bd [.str n.1,.str n.2]
theorem BT.keep{K:PySem.W.Frag}{H H':Hp}{bd:Addr}{n:Str×Str}(h:BT K H bd n)(f:Tup H H'):BT K H' bd n:=h.imp (f _ _) id
theorem BT.sq{K:PySem.W.Frag}{H:Hp}{bd:Addr}{n:Str×Str}(h:BT K H bd n):SqT K H bd [.str n.1,.str n.2]:=h.elim SqT.of fun g=>g H
inductive BodyIs(K:PySem.W.Frag)(H:Hp)(q:Addr)(z:Bz):Prop
 | mk(bd:Addr)(h1:H q=some (.tup [.ref bd,.ref z.2.2.1]))(h2:BT K H bd z.1):BodyIs K H q z
theorem BodyIs.keep{K:PySem.W.Frag}{H H':Hp}{q:Addr}{z:Bz}(h:BodyIs K H q z)(f:Tup H H'):BodyIs K H' q z:=by
 obtain⟨bd,h1,h2⟩:=h;exact⟨bd,f _ _ h1,h2.keep f⟩
theorem _root_.L2.A2.bkeep{K:PySem.W.Frag}{H H':Hp}{qs:List Addr}{L:List Bz}(h:A2 (BodyIs K H) qs L)(f:Tup H H'):A2 (BodyIs K H') qs L:=h.imp fun _ _ g=>g.keep f
inductive xb5(K:PySem.W.Frag)(vs:List V)(H:Hp)(Q:VK):Prop
 | mk(p:Addr)(ks:List (Str×List Dz))(m0:Dz)(h1:vs=[.ref p])(h2:ProgIs Z H p ks m0)(h3:∀(b:Addr)(qs:List Addr)(H':Hp),FrS [] H H'->H' b=some (.tup (qs.map V.ref))->A2 (BodyIs K H') qs (zh2 ks m0)->qs.length<=1000->Q (.ref b) H'):xb5 K vs H Q
def yg5(K:PySem.W.Frag):Sp:=fun vs H Q _=>xb5 K vs H Q
inductive BoI(K:PySem.W.Frag)(H1:Hp)(p fd:Addr)(L:List Bz)(c:Nat)(σ:St)(Hx:Hp):Prop
 | mk(a b d e g h i:Option V)(qs:List Addr)(hσ:σ=[some (.ref p),some (.ref fd),a,b,d,e,g,h,i])(fr:FrS [] H1 Hx)(hf:Hx fd=some (.lst (qs.map V.ref)))(ha:A2 (BodyIs K Hx) qs L)(hc:qs.length<=c):BoI K H1 p fd L c σ Hx
inductive BoJ(K:PySem.W.Frag)(H1:Hp)(p fd:Addr)(n:Str)(e:V)(dt:Addr)(L:List Bz)(c:Nat)(σ:St)(Hx:Hp):Prop
 | mk(a b d f:Option V)(qs:List Addr)(hσ:σ=[some (.ref p),some (.ref fd),some (.str n),some e,some (.ref dt),a,b,d,f])(fr:FrS [] H1 Hx)(hf:Hx fd=some (.lst (qs.map V.ref)))(ha:A2 (BodyIs K Hx) qs L)(hc:qs.length<=c):BoJ K H1 p fd n e dt L c σ Hx
theorem zk8:zd1 ["program","found","name","elder","deeds","deed","params","rows","gives"] ["program"] (zc2 ys0):=⟨rfl,rfl,rfl,by decide +kernel,rfl,by decide +kernel,by decide +kernel⟩
theorem xn3{k:Nat}{am:Addr}(F:Fun K "bodies" "bodies" ys0 f fd)(mM:mg "MAIN"=some (.ref am))(hM:∀H,SqT K H am [.str "",.str ""])(mtu:mg "tuple"=none):FnOk P w K mg base CX0 (k+1) f fd ["program"] (yg5 K):=by
 refine F.ok zk8 (fun vs H Q E h=>?_) (fun cdv A outer s H vs Q E hr h=>?_)
 ·obtain⟨p,ks,m0,rfl,_⟩:=h;rfl
 obtain⟨p,ks,m0,rfl,⟨kt,us,lt,hp,hk,hlen,hks,hm,h12⟩,q⟩:=h;refine⟨_,zb3 (zc3 (i:=1) zk8.nd rfl (wt1 rfl) (zd7 (zb0 (zf0 (zb0 (yr7 (v:=.ref am) rfl mM rfl) (zb0 (eT (pv 0) zb6) zb2))) zb2)))
  (zb3 (zf9 wv0 rfl (zh5 (eT (pv 0) zb6)) (zh8 (n:=3) rfl (zc1 (zb9 (i:=2) zk8.nd rfl (wt1 rfl)) (zc1 (zb9 (i:=3) zk8.nd rfl (wt1 rfl)) (zc1 (zb9 (i:=4) zk8.nd rfl (wt1 rfl)) zg2))))
   (zb7 (zf9 wv0 rfl (zh5 (pv 4)) (zh8 (n:=4) rfl (zc1 (zb9 (i:=5) zk8.nd rfl (wt1 rfl)) (zc1 (zb9 (i:=6) zk8.nd rfl (wt1 rfl)) (zc1 (zb9 (i:=7) zk8.nd rfl (wt1 rfl)) (zc1 (zb9 (i:=8) zk8.nd rfl (wt1 rfl)) zg2)))))
    (zb7 (zg1 (zm9 wv2 wv6 wv7 zf5 (pv 1) (zb0 (zf0 (zb0 (zf0 (zb0 (pv 2) (zb0 (pv 5) zb2))) (zb0 (pv 7) zb2))) zb2)))))))
  (zb7 (zd0 (zd2 zd3 rfl mtu (by decide +kernel) (zb0 (pv 1) zb2))))),?_⟩
 first | dsimp only[cxOf,Cx.nox] | skip
 have s2:2<=sizeLine:=ws3 (zc0 (by decide));have s0:1<=sizeLine:=ws3 (zc0 (by decide));refine⟨_,rfl,p,_,_,_,rfl,rfl,SqT.of hp,rfl,s2,fun pt hpt=>⟨s0,fun fl hfl=>?_⟩⟩;have f0:FrS [] H (upd (upd H pt (.tup [.ref am,.ref m0.2.1])) fl (.lst ([pt].map V.ref))):=(FrS.new hpt).trans (FrS.new hfl);have hflH:H fl=none:=yn2 (FrS.new hpt) hfl;refine⟨_,rfl,p,_,_,_,rfl,rfl,SqT.of (f0 _ _ wr0 hp),rfl,kt,rfl,⟨_,SqT.of (f0 _ _ wr0 hk)⟩,?_⟩;refine zj4 (xs:=us.map V.ref) (fun i=>BoI K H p fl (zh2 (ks.take i) m0) (1+80*i)) ⟨_,_,_,_,_,_,_,[pt],rfl,f0,zb1,.cons ⟨am,(Tup.new hfl) _ _ zb1,.inr hM⟩ .nil,wr5 _⟩ ?_ ?_ ?_
 ·rintro i σ Hx hi ⟨_,_,_,_,_,_,_,_,_,fr,_⟩;exact SqT.of (fr _ _ wr0 hk)
 ·rintro i x σ Hx hx ⟨_,_,_,_,_,_,_,qs,rfl,fr,hfx,ha,hc⟩;rw[wr3,wr6]at hx;obtain⟨u,hu,rfl⟩:=hx;have hi:i<ks.length:=by rw[←hlen];exact(wr1.mp hu).1
  have hy:ks[i]?=some ks[i]:=wq9 hi;obtain⟨e,dt,ds,d1,d2,d3,d4,d5⟩:=hks i u _ hu hy;have eL:zh2 (ks.take (i+1)) m0=zh2 (ks.take i) m0++zg4 ks[i]:=by
   unfold zh2;rw[ws7,hy,vc4,List.cons_append];simp
  rw[eL];generalize ks[i]=y at d1 d3 d4;refine⟨u,_,rfl,SqT.of (fr _ _ wr0 d1),rfl,_,_,rfl,_,_,rfl,_,_,rfl,rfl,?_⟩;refine⟨_,rfl,dt,rfl,⟨_,SqT.of (fr _ _ wr0 d2)⟩,?_⟩;refine zj4 (xs:=ds.map V.ref) (fun j=>BoJ K H p fl y.1 e dt (zh2 (ks.take i) m0++(zg4 y).take j) (1+80*i+j)) ⟨_,_,_,_,qs,rfl,fr,hfx,by rw[List.take_zero,wx1];exact ha,hc⟩ ?_ ?_ ?_
  ·rintro j σ Hy hj ⟨_,_,_,_,_,_,fy,_⟩;exact SqT.of (fy _ _ wr0 d2)
  ·rintro j x σ Hy hx ⟨_,_,_,_,qs,rfl,fy,hfy,ha,hc⟩;rw[wr3,wr6]at hx;obtain⟨g,hg,rfl⟩:=hx;have hj:j<y.2.length:=by rw[←d3];exact(wr1.mp hg).1
   have hz:y.2[j]?=some y.2[j]:=wq9 hj;obtain⟨pv',gv',g1,g2⟩:=d4 j g _ hg hz;have eD:(zg4 y).take (j+1)=(zg4 y).take j++[((y.1,y.2[j].1),y.2[j])]:=by
    have:(zg4 y)[j]?=some ((y.1,y.2[j].1),y.2[j]):=by unfold zg4;rw[wr3,hz];rfl
    rw[ws7,this];rfl
   rw[eD,←wt7];generalize y.2[j]=z at g1 g2;refine⟨g,_,rfl,SqT.of (fy _ _ wr0 g1),rfl,_,_,rfl,_,_,rfl,_,_,rfl,_,_,rfl,rfl,?_⟩;refine⟨_,rfl,.inl ⟨rfl,_,SqL.of hfy⟩,_,rfl,_,rfl,s2,fun pa hpa=>⟨_,rfl,s2,fun pb hpb=>?_⟩⟩;have tn:=(Tup.new (o:=.tup [V.str y.1,V.str z.1]) hpa).trans (Tup.new (o:=.tup [.ref pa,.ref z.2.1]) hpb);have f2:FrS [] Hy (upd (upd Hy pa (.tup [V.str y.1,V.str z.1])) pb (.tup [.ref pa,.ref z.2.1])):=(FrS.new hpa).trans (FrS.new hpb);have hf2:=f2 _ _ wr0 hfy;have tl:Tup _ (upd (upd (upd Hy pa (.tup [V.str y.1,V.str z.1])) pb (.tup [.ref pa,.ref z.2.1])) fl (.lst ((qs++[pb]).map V.ref))):=Tup.lst hf2;refine⟨fl,_,_,rfl,rfl,hf2,zc0 (by rw[lqm];lia),?_⟩;rw[show qs.map V.ref++[V.ref pb]=(qs++[pb]).map V.ref by rw[wr9];rfl];exact⟨_,_,_,_,qs++[pb],rfl,(fy.trans f2).put hflH,zb1,(ha.bkeep (tn.trans tl)).snoc ⟨pa,tl _ _ zb1,.inl (((Tup.new hpb).trans tl) _ _ zb1)⟩,by rw[wr2,ws8];lia⟩
  ·rintro σ Hy ⟨_,_,_,_,qs,rfl,fy,hfy,ha,hc⟩;have el:(zg4 y).take (ds.map V.ref).length=zg4 y:=wr8 (by unfold zg4;rw[lqm,lqm];lia);rw[el]at ha;rw[lqm]at hc;exact⟨_,_,_,_,_,_,_,qs,rfl,fy,hfy,ha,by lia⟩
 ·rintro σ Hx ⟨_,_,_,_,_,_,_,qs,rfl,fr,hfx,ha,hc⟩;rw[lqm,hlen]at ha hc;rw[wr8 (wr5 _)]at ha;refine⟨_,rfl,fl,_,rfl,.inl ⟨SqL.of hfx,fun b hb=>?_⟩⟩;exact q b qs _ (fr.trans (FrS.new hb)) zb1 (ha.bkeep (Tup.new hb)) (by lia)
abbrev Lz:=Addr×List Addr×List Addr
inductive LotIs(H:Hp)(n:Nat)(z:Lz):Prop
 | mk(n':Nat)(hn:n=n'+1)(h1:H z.1=some (.tup (z.2.1.map V.ref)))(h2:Fl Z H n' z.2.1 z.2.2):LotIs H n z
theorem LotIs.keep{H H':Hp}{n:Nat}{z:Lz}(h:LotIs H n z)(f:Tup H H'):LotIs H' n z:=by
 obtain⟨n',hn,h1,h2⟩:=h;exact⟨n',hn,f _ _ h1,h2.keep f⟩
inductive HdIs(H:Hp)(n:Nat)(a:Addr)(rs fs:List Addr):Prop
 | mk(w:Str)(rest:List V)(ls:List Lz)(fs':List Addr)(h1:H a=some (.tup (.str w::rest)))(h2:zk2 w rest=ls.map fun z=>V.ref z.1)(h3:∀z∈ls,LotIs H n z)(h4:fs=a::(ls.flatMap (·.2.2)++fs'))(h5:Fl Z H n rs fs')(h6:ls.length<=2):HdIs H n a rs fs
theorem Fl.hd{H:Hp}{n:Nat}{a:Addr}{rs fs:List Addr}(h:Fl Z H n (a::rs) fs):HdIs H n a rs fs:=by
 have nc:¬(("call":Str)="either"∨("call":Str)="again"):=by decide +kernel
 cases h with
 | one h t=>
  rcases h with ⟨w,rest,h,n1,n2,n3⟩ | ⟨x,y,k,d,g,ss,h,_,_⟩
  ·exact⟨w,rest,[],_,h,by unfold zk2;rw[wv5 (fun z=>z.elim n2 n3)];rfl,(fun z h=>by cases h),rfl,t,wt6 _⟩
  ·exact⟨"call",_,[],_,h,by unfold zk2;rw[wv5 nc];rfl,(fun z h=>by cases h),rfl,t,wt6 _⟩
 | @again n a l rs1 fs1 rs fs h hl s t=>
  refine⟨"again",_,[(l,rs1,fs1)],_,h,by unfold zk2;rw[ww4 (.inr rfl)];rfl,fun z hz=>?_,by simp,t,by simp⟩;have e:z=(l,rs1,fs1):=by simpa using hz
  subst e;exact⟨n,rfl,hl,s⟩
 | @either n a l1 l2 rs1 fs1 rs2 fs2 rs fs h h1 h2 s1 s2 t=>
  refine⟨"either",_,[(l1,rs1,fs1),(l2,rs2,fs2)],_,h,by unfold zk2;rw[ww4 (.inl rfl)];rfl,fun z hz=>?_,by simp,t,by simp⟩;have e:z=(l1,rs1,fs1)∨z=(l2,rs2,fs2):=by simpa using hz
  rcases e with rfl | rfl
  ·exact⟨n,rfl,h1,s1⟩
  ·exact⟨n,rfl,h2,s2⟩
inductive En(H:Hp)(bd:Addr):Nat->List Addr->List Addr->Prop
 | nil {k:Nat}:En H bd k [] []
 | cons {k:Nat} {e a:Addr} {es as:List Addr} (h:H e=some (.tup [.int (k:Int),.ref bd,.ref a])) (t:En H bd (k+1) es as):En H bd k (e::es) (a::as)
theorem En.keep{H H':Hp}{bd:Addr}{k:Nat}{es as:List Addr}(h:En H bd k es as)(f:Tup H H'):En H' bd k es as:=by
 induction h with
 | nil=>exact .nil
 | cons h _ ih=>exact .cons (f _ _ h) ih
theorem En.app{H:Hp}{bd:Addr}{k:Nat}{es as es' as':List Addr}(h:En H bd k es as)(g:En H bd (k+es.length) es' as'):En H bd k (es++es') (as++as'):=by
 induction h with
 | nil=>exact g
 | cons h _ ih=>exact .cons h (ih (by rw[wt3]at g;rwa [Nat.add_assoc,Nat.add_comm 1]))
theorem En.len{H:Hp}{bd:Addr}{k:Nat}{es as:List Addr}(h:En H bd k es as):es.length=as.length:=by
 induction h with
 | nil=>rfl
 | cons _ _ ih=>exact wx5 (·+1) ih
theorem FrS.tup1{H H':Hp}{a:Addr}{ys:List V}(f:FrS [a] H H')(h:H a=some (.lst ys)):Tup H H':=FrS.tup f fun b hb xs e=>by
 have:b=a:=by simpa using hb
 subst this;rw[h]at e;cases e
inductive SpLay(n:Nat)(vs:List V)(H:Hp)(Q:VK):Prop
 | mk(bd l fd:Addr)(rs fs es:List Addr)(h1:vs=[.ref bd,.ref l,.ref fd])(h2:H l=some (.tup (rs.map V.ref)))(h3:Fl Z H n rs fs)(h4:H fd=some (.lst (es.map V.ref)))(h5:es.length+fs.length<=1000000)
  (h6:∀(x:V)(ns:List Addr)(H':Hp),FrS [fd] H H'->H' fd=some (.lst ((es++ns).map V.ref))->En H' bd es.length ns fs->Q x H'):SpLay n vs H Q
def xz1(n:Nat):Sp:=fun vs H Q _=>SpLay n vs H Q
def xp1:Nat->Sp
 | 0=>fun _ _ _ _=>False
 | n+1=>xz1 n
inductive LayI(n:Nat)(H:Hp)(bd l fd tl:Addr)(rs fs es:List Addr)(i:Nat)(σ:St)(Hx:Hp):Prop
 | mk(a b:Option V)(ts:List V)(ns f1 f2:List Addr)(hσ:σ=[some (.ref bd),some (.ref l),some (.ref fd),some (.ref tl),a,b])(fr:FrS [fd] H Hx)(hf:Hx fd=some (.lst ((es++ns).map V.ref)))(ht:Hx tl=some (.lst ts))(hn:ts.length<=i)(he:fs=f1++f2)(hl:Fl Z Hx n (rs.drop i) f2)(hE:En Hx bd es.length ns f1):LayI n H bd l fd tl rs fs es i σ Hx
inductive LayJ(H1 H2:Hp)(bd fd Dl:Addr)(es:List Addr)(ls:List Lz)(j:Nat)(σ:St)(Hx:Hp):Prop
 | mk(a:Option V)(zs:List V)(ns:List Addr)(hσ:σ=[a,some (.ref bd),some (.ref fd)])(fr:FrS [fd] H1 Hx)(tp:Tup H2 Hx)(hf:Hx fd=some (.lst ((es++ns).map V.ref)))(hD:Hx Dl=some (.lst zs))(hn:zs.length<=j)(hE:En Hx bd es.length ns ((ls.take j).flatMap (·.2.2))):LayJ H1 H2 bd fd Dl es ls j σ Hx
abbrev pLay:List Str:=["body","rows","found"]
theorem xk7:zd1 ["body","rows","found","told","row","number"] pLay (zc2 sLay):=⟨rfl,rfl,rfl,by decide +kernel,rfl,by decide +kernel,by decide +kernel⟩
set_option maxHeartbeats 4000000 in
theorem wd2{k n:Nat}(F:Fun K "lay" "lay" sLay f fd)(WI:Cal P w K mg base k "rows_within" ["row"] yj2)(LA:Cal P w K mg base k "lay" pLay (xp1 n))(ml:mg "len"=none)(mtu:mg "tuple"=none):FnOk P w K mg base CX0 (k+1) f fd pLay (xz1 n):=by
 obtain⟨g,gd,GW,bW,kW,mW⟩:=WI.ex;obtain⟨g2,gd2,GL,bL,kL,mL⟩:=LA.ex;refine F.ok xk7 (fun vs H Q E h=>?_) (fun cdv A outer s H vs Q E hr h=>?_)
 ·obtain⟨bd,l,fl,rs,fs,es,rfl,_⟩:=h;rfl
 obtain⟨bd,l,fl,rs,fs,es,rfl,hl,hF,hfl,hb,q⟩:=h;have nd3:(["inner","body","found"]:List Str).Nodup:=by decide +kernel
 refine⟨_,zb3 (zc3 (i:=3) xk7.nd rfl (wt1 rfl) (zd7 zb2))
  (zb3 (zf9 wv0 rfl (zh5 (pv 1)) (zb9 (i:=4) xk7.nd rfl (wt1 rfl))
   (zb3 (zc3 (i:=5) xk7.nd rfl (wt1 rfl) (zf2 zg3 rfl ml vb1 (zb0 (pv 2) zb2)))
   (zb3 (zg1 (zm9 wv2 wv6 wv7 zf5 (pv 2) (zb0 (zf0 (zb0 (pv 5) (zb0 (pv 0) (zb0 (pv 4) zb2)))) zb2)))
   (zb7 (zg1 (zm9 wv2 wv6 wv7 zf5 (pv 3) (zb0 (zf0 (zb0 (pv 5) (zb0 (pv 4) (zb0
    (zd2 zd3 rfl mtu (by decide +kernel) (zb0 (zh4 (N':=["inner","body","found"]) (src:=[none,some 0,some 2]) rfl ⟨rfl,by decide +kernel,by decide +kernel,rfl,rfl,rfl⟩ (zh5 (zb8 GW hr rfl mW kW bW .nil zc6 (zb0 (pv 4) zb2)))
     (g:=zd9 0) (fun _ _ _ _=>zb9 (i:=0) nd3 rfl (wt1 rfl) (wz3 rfl)) (fun _ _ _ _=>zg5)
     (te:=zn6 (xp1 n) [] E0 (zc5 (tVar 1) (zc5 (tVar 0) (zc5 (tVar 2) tNil))))
     (fun _ _ _ _=>zb8 GL hr rfl mL kL bL .nil zc6 (zb0 (pv 1) (zb0 (pv 0) (zb0 (pv 2) zb2))))) zb2)) zb2)))) zb2)))))))
  (zb7 (zd0 (zd2 zd3 rfl mtu (by decide +kernel) (zb0 (pv 3) zb2))))),?_⟩
 first | dsimp only[cxOf,Cx.nox] | skip
 have s3:3<=sizeLine:=ws3 (zc0 (by decide));refine⟨wt6 _,fun tl htl=>?_⟩;have tl0:Tup H (upd H tl (.lst [])):=Tup.new htl;have hft:fl≠tl:=zb4 hfl htl;refine⟨_,rfl,l,rfl,⟨_,SqT.of (tl0 _ _ hl)⟩,?_⟩;refine zj4 (xs:=rs.map V.ref) (LayI n H bd l fl tl rs fs es) ⟨_,_,[],[],[],fs,rfl,FrS.new htl,by rw[zb5 hft,wx1];exact hfl,zb1,wr5 _,rfl,hF.keep tl0,.nil⟩ ?_ ?_ ?_
 ·rintro i σ Hx hi ⟨_,_,_,_,_,_,_,fr,_⟩;exact SqT.of (fr.tup1 hfl _ _ hl)
 ·rintro i x σ Hx hx ⟨a0,b0,ts,ns,f1,f2,rfl,fr,hfx,htx,hts,rfl,hFx,hE⟩;rw[wr3,wr6]at hx;obtain⟨a,ha,rfl⟩:=hx;obtain⟨hi,rfl⟩:=wr1.mp ha;rw[vc6 hi]at hFx;obtain⟨w,rest,ls,fs',h1,h2,h3,rfl,h5,h6⟩:=hFx.hd;generalize rs[i]=a at h1;have hEl:=hE.len;have hrl:=hF.len;rw[wr2,wt3,wr2]at hb hrl;have hftx:fl≠tl:=hft;refine⟨_,rfl,fl,_,rfl,.inl (SqL.of hfx),?_⟩;refine⟨_,rfl,.inl ⟨rfl,_,SqL.of hfx⟩,_,rfl,_,rfl,_,rfl,s3,fun e0 he0=>?_⟩;have hf1:=(FrS.new (S:=[]) (o:=.tup [.int (((es++ns).map V.ref).length:Nat),.ref bd,.ref a]) he0) _ _ wr0 hfx;refine⟨fl,_,_,rfl,rfl,hf1,yf9 (by rw[lqm,wr2];lia),?_⟩;have hnum:(((es++ns).map V.ref).length:Nat)=es.length+ns.length:=by rw[lqm,wr2]
  rw[hnum];have elst:(es++ns).map V.ref++[V.ref e0]=((es++(ns++[e0])).map V.ref):=by rw[←wt7,wr9 (l₂:=[e0])];rfl
  rw[elst];have hf1':upd Hx e0 (.tup [.int ((es.length+ns.length:Nat):Int),.ref bd,.ref a]) fl=some (.lst ((es++ns).map V.ref)):=by rw[zb5 (zb4 hfx he0)];exact hfx
  have tp1:Tup Hx (upd (upd Hx e0 (.tup [.int ((es.length+ns.length:Nat):Int),.ref bd,.ref a])) fl (.lst ((es++(ns++[e0])).map V.ref))):=(Tup.new he0).trans (Tup.lst hf1');have he1:upd (upd Hx e0 (.tup [.int ((es.length+ns.length:Nat):Int),.ref bd,.ref a])) fl (.lst ((es++(ns++[e0])).map V.ref)) e0=some (.tup [.int ((es.length+ns.length:Nat):Int),.ref bd,.ref a]):=(Tup.lst hf1') _ _ zb1;have fr1:FrS [fl] H (upd (upd Hx e0 (.tup [.int ((es.length+ns.length:Nat):Int),.ref bd,.ref a])) fl (.lst ((es++(ns++[e0])).map V.ref))):=(fr.trans (FrS.new he0)).put' (.head _);have ht1:upd (upd Hx e0 (.tup [.int ((es.length+ns.length:Nat):Int),.ref bd,.ref a])) fl (.lst ((es++(ns++[e0])).map V.ref)) tl=some (.lst ts):=by rw[zb5 (vb3 hft),zb5 (zb4 htx he0)];exact htx
  have hfH:upd (upd Hx e0 (.tup [.int ((es.length+ns.length:Nat):Int),.ref bd,.ref a])) fl (.lst ((es++(ns++[e0])).map V.ref)) fl=some (.lst ((es++(ns++[e0])).map V.ref)):=zb1;have hE1:En _ bd es.length (ns++[e0]) (f1++[a]):=(hE.keep tp1).app (.cons he1 .nil);have hF1:=h5.keep tp1;have h1':=tp1 _ _ h1;have h3':∀z∈ls,LotIs (upd (upd Hx e0 (.tup [.int ((es.length+ns.length:Nat):Int),.ref bd,.ref a])) fl (.lst ((es++(ns++[e0])).map V.ref))) n z:=fun z hz=>(h3 z hz).keep tp1;generalize upd (upd Hx e0 (.tup [.int ((es.length+ns.length:Nat):Int),.ref bd,.ref a])) fl (.lst ((es++(ns++[e0])).map V.ref))=H1 at fr1 ht1 hfH hE1 hF1 h1' h3';refine⟨_,rfl,.inl ⟨rfl,_,SqL.of ht1⟩,_,rfl,_,rfl,_,rfl,a,w,rest,rfl,h1',fun pw hpw=>⟨pw,rfl,⟨_,SqT.of zb1⟩,fun Dl hDl=>?_⟩⟩;rw[h2];have f2:FrS [] H1 (upd (upd H1 pw (.tup (zk2 w rest))) Dl (.lst [])):=(FrS.new hpw).trans (FrS.new hDl);have hDH1:H1 Dl=none:=yn2 (FrS.new hpw) hDl;rw[h2]at f2 hDl;have hDf:fl≠Dl:=zb4 hfH hDH1;have hw2:upd (upd H1 pw (.tup (ls.map fun z=>V.ref z.1))) Dl (.lst []) pw=some (.tup (ls.map fun z=>V.ref z.1)):=by rw[zb5 (fun z=>by rw[←z,zb1]at hDl;cases hDl)];exact zb1
  have hf2:=f2 _ _ wr0 hfH;have ht2:=f2 _ _ wr0 ht1;have tp2:=Tup.of0 f2;have hD2:upd (upd H1 pw (.tup (ls.map fun z=>V.ref z.1))) Dl (.lst []) Dl=some (.lst []):=zb1;generalize upd (upd H1 pw (.tup (ls.map fun z=>V.ref z.1))) Dl (.lst [])=H2 at f2 hw2 hf2 ht2 tp2 hD2;refine zm0 (xs:=ls.map fun z=>V.ref z.1) (LayJ H1 H2 bd fl Dl (es++(ns++[e0])) ls) ⟨_,[],[],rfl,f2.mono (fun _ h=>absurd h wr0),(fun _ _ h=>h),by rw[wx1];exact hf2,hD2,wr5 _,.nil⟩ ?_ ?_ ?_
  ·rintro j σ Hy hj ⟨_,_,_,_,_,ty,_⟩;exact SqT.of (ty _ _ hw2)
  ·rintro j x σ Hy hx ⟨x0,zs,nj,rfl,fy,ty,hfy,hDy,hzl,hEj⟩;rw[wr3,wr6]at hx;obtain⟨z,hz,rfl⟩:=hx;have tpy:Tup H1 Hy:=tp2.trans ty;obtain⟨n',rfl,z1,z2⟩:=(h3' z (ws4 hz)).keep tpy;have hjl:j<ls.length:=(wr1.mp hz).1;have hsum:((ls.take j).flatMap (·.2.2)).length+z.2.2.length<=(ls.flatMap (·.2.2)).length:=by
    have e:ls=ls.take j++(z::ls.drop (j+1)):=by
     rw[←(wr1.mp hz).2,←vc6 hjl,vc2]
    conv=>rhs;rw[e]
    rw[vc4,vm8,wr2,wr2];lia
   have hEjl:=hEj.len;refine⟨_,rfl,_,rfl,_,rfl,bd,z.1,fl,z.2.1,z.2.2,es++(ns++[e0])++nj,rfl,z1,z2,hfy,by rw[wr2,wr2,wr2,ws8];lia,fun x nx Hz fz hfz hEz=>?_⟩;have hDz:=fz _ _ (by simpa using vb3 hDf) hDy;have tpz:=fz.tup1 hfy;have tpl:Tup Hz (upd Hz Dl (.lst (zs++[x]))):=Tup.lst hDz;refine⟨_,hDz,zc0 (by lia),_,_,nj++nx,rfl,(fy.trans fz).put hDH1,(ty.trans tpz).trans tpl,by rw[zb5 hDf,←wt7];exact hfz,zb1,by rw[wr2,ws8];lia,?_⟩
   ·have e:(ls.take (j+1)).flatMap (·.2.2)=(ls.take j).flatMap (·.2.2)++z.2.2:=by
     rw[ws7,hz,vc4];simp
    rw[e];refine(hEj.keep (tpz.trans tpl)).app ?_;rw[wr2]at hEz;exact hEz.keep tpl
  ·rintro σ Hy ⟨x0,zs,nj,rfl,fy,ty,hfy,hDy,hzl,hEj⟩;rw[lqm]at hzl hEj;rw[wr8 (wr5 _)]at hEj;refine⟨Dl,_,rfl,.inl ⟨SqL.of hDy,fun pt hpt=>⟨s3,fun pu hpu=>?_⟩⟩⟩;have hty:=fy _ _ (by simpa using vb3 hft) ht1;have fn:FrS [] Hy (upd (upd Hy pt (.tup zs)) pu (.tup [.int ((es.length+ns.length:Nat):Int),.ref a,.ref pt])):=(FrS.new hpt).trans (FrS.new hpu);have ht3:=fn _ _ wr0 hty;have hf3:=fn _ _ wr0 hfy;have tl3:Tup _ (upd (upd (upd Hy pt (.tup zs)) pu (.tup [.int ((es.length+ns.length:Nat):Int),.ref a,.ref pt])) tl (.lst (ts++[.ref pu]))):=Tup.lst ht3;have tpa:=(tp2.trans ty).trans ((Tup.of0 fn).trans tl3);refine⟨tl,_,_,rfl,rfl,ht3,yf9 (by lia),?_⟩;refine⟨_,_,_,ns++[e0]++nj,f1++(a::ls.flatMap (·.2.2)),fs',rfl,((fr1.trans fy).trans (fn.mono (fun _ h=>absurd h wr0))).put htl,by rw[zb5 hft,←wt7];exact hf3,zb1,by rw[wr2,ws8];lia,by simp,hF1.keep tpa,?_⟩;have e1:f1++(a::ls.flatMap (·.2.2))=f1++[a]++ls.flatMap (·.2.2):=by simp
   rw[e1];refine(hE1.keep tpa).app ?_;rw[wr2]at hEj;exact hEj.keep ((Tup.of0 fn).trans tl3)
 ·rintro σ Hx ⟨a0,b0,ts,ns,f1,f2,rfl,fr,hfx,htx,hts,rfl,hFx,hE⟩;rw[lqm,List.drop_of_length_le (wr5 _)]at hFx;cases hFx;rw[wx1]at q;refine⟨_,rfl,tl,_,rfl,.inl ⟨SqL.of htx,fun b hb'=>?_⟩⟩;exact q _ ns _ (fr.trans (FrS.new hb')) (by rw[zb5 (zb4 hfx hb')];exact hfx) (hE.keep (Tup.new hb'))
abbrev Fz:=(Str×Str)×Addr
def zj6(L:List Bz):List Fz:=L.flatMap fun z=>z.2.2.2.2.map fun a=>(z.1,a)
inductive CaIs(K:PySem.W.Frag)(H:Hp)(e:Addr)(q:Fz×Nat):Prop
 | mk(bd:Addr)(h:H e=some (.tup [.int (q.2:Int),.ref bd,.ref q.1.2]))(hb:BT K H bd q.1.1):CaIs K H e q
theorem CaIs.keep{K:PySem.W.Frag}{H H':Hp}{e:Addr}{q:Fz×Nat}(h:CaIs K H e q)(f:Tup H H'):CaIs K H' e q:=by
 obtain⟨bd,h,hb⟩:=h;exact⟨bd,f _ _ h,hb.keep f⟩
theorem _root_.L2.A2.ckeep{K:PySem.W.Frag}{H H':Hp}{qs:List Addr}{L:List (Fz×Nat)}(h:A2 (CaIs K H) qs L)(f:Tup H H'):A2 (CaIs K H') qs L:=h.imp fun _ _ g=>g.keep f
theorem En.ca{K:PySem.W.Frag}{H:Hp}{bd:Addr}{n:Str×Str}(hb:BT K H bd n){k:Nat}{es as:List Addr}(h:En H bd k es as):A2 (CaIs K H) es ((as.map fun a=>(n,a)).zipIdx k):=by
 induction h with
 | nil=>exact .nil
 | cons h _ ih=>exact .cons ⟨bd,h,hb⟩ ih
theorem ProgIs.rows{H:Hp}{p:Addr}{ks:List (Str×List Dz)}{m0:Dz}(h:ProgIs Z H p ks m0):∀z∈zh2 ks m0,RowsIs Z H z.2:=by
 obtain⟨kt,us,lt,_,_,h3,h4,h5,_⟩:=h;intro z hz;unfold zh2 at hz;rcases ws5.mp hz with rfl | hz
 ·exact h5
 ·obtain⟨y,hy,hz⟩:=vn8.mp hz;unfold zg4 at hz;obtain⟨d,hd,rfl⟩:=ws2.mp hz;obtain⟨j,hj⟩:=ww7.mp hy;have hjl:j<us.length:=by rw[h3];exact(wr1.mp hj).1
  obtain⟨e,dt,fs,_,_,g3,g4,_⟩:=h4 j us[j] y (wq9 hjl) hj;obtain⟨i,hi⟩:=ww7.mp hd;have hil:i<fs.length:=by rw[g3];exact(wr1.mp hi).1
  obtain⟨_,_,_,r⟩:=g4 i fs[i] d (wq9 hil) hi;exact r
theorem zp5{H:Hp}:∀{L:List Bz},(∀z∈L,RowsIs Z H z.2)->(zj6 L).length<=80*L.length
 | [],_=>wt6 _
 | z::L,h=>by
  have h1:=zp5 (L:=L) fun y hy=>h y (.tail _ hy);obtain⟨_,_,h4⟩:=h z (.head _);unfold zj6 at h1 ⊢;rw[vm8,wr2,lqm,wt3];lia
theorem yj0{H:Hp}{L:List Bz}(h:∀z∈L,RowsIs Z H z.2):∀q∈zj6 L,RowIs Z H q.2:=by
 intro q hq;unfold zj6 at hq;obtain⟨z,hz,hq⟩:=vn8.mp hq;obtain⟨a,ha,rfl⟩:=ws2.mp hq;obtain⟨_,h3,_⟩:=h z hz;exact h3.is a ha
theorem FrS.own{H Hx Hy:Hp}{a:Addr}(f:FrS [] H Hx)(g:FrS [a] Hx Hy)(h:H a=none):FrS [] H Hy:=fun b o _ e=>g b o (by simpa using zb4 e h) (f b o wr0 e)
inductive wf2(K:PySem.W.Frag)(vs:List V)(H:Hp)(Q:VK):Prop
 | mk(p:Addr)(ks:List (Str×List Dz))(m0:Dz)(h1:vs=[.ref p])(h2:ProgIs Z H p ks m0)(h3:∀(b:Addr)(ns:List Addr)(H':Hp),FrS [] H H'->H' b=some (.tup (ns.map V.ref))->A2 (CaIs K H') ns ((zj6 (zh2 ks m0)).zipIdx 0)->Q (.ref b) H'):wf2 K vs H Q
def xg3(K:PySem.W.Frag):Sp:=fun vs H Q _=>wf2 K vs H Q
inductive NumI(K:PySem.W.Frag)(H H1:Hp)(p fd:Addr)(L:List Bz)(i:Nat)(σ:St)(Hx:Hp):Prop
 | mk(a b:Option V)(ns:List Addr)(hσ:σ=[some (.ref p),some (.ref fd),a,b])(fr:FrS [] H Hx)(tp:Tup H1 Hx)(hf:Hx fd=some (.lst (ns.map V.ref)))(ha:A2 (CaIs K Hx) ns ((zj6 (L.take i)).zipIdx 0)):NumI K H H1 p fd L i σ Hx
theorem yv6:zd1 ["program","found","body","rows"] ["program"] (zc2 wn7):=⟨rfl,rfl,rfl,by decide +kernel,rfl,by decide +kernel,by decide +kernel⟩
theorem wq4{k:Nat}(F:Fun K "numbered" "numbered" wn7 f fd)(BO:Cal P w K mg base k "bodies" ["program"] (yg5 K))(LA:Cal P w K mg base k "lay" pLay (xz1 4))(mtu:mg "tuple"=none):FnOk P w K mg base CX0 (k+1) f fd ["program"] (xg3 K):=by
 obtain⟨g,gd,GB,bB,kB,mB⟩:=BO.ex;obtain⟨g2,gd2,GL,bL,kL,mL⟩:=LA.ex;refine F.ok yv6 (fun vs H Q E h=>?_) (fun cdv A outer s H vs Q E hr h=>?_)
 ·obtain⟨p,ks,m0,rfl,_⟩:=h;rfl
 obtain⟨p,ks,m0,rfl,hP,q⟩:=h;refine⟨_,zb3 (zc3 (i:=1) yv6.nd rfl (wt1 rfl) (zd7 zb2))
  (zb3 (zf9 wv0 rfl (zh5 (zb8 GB hr rfl mB kB bB .nil zc6 (zb0 (pv 0) zb2))) (zh8 (n:=2) rfl (zc1 (zb9 (i:=2) yv6.nd rfl (wt1 rfl)) (zc1 (zb9 (i:=3) yv6.nd rfl (wt1 rfl)) zg2)))
   (zb7 (zg1 (zb8 GL hr rfl mL kL bL .nil zc6 (zb0 (pv 2) (zb0 (pv 3) (zb0 (pv 1) zb2)))))))
  (zb7 (zd0 (zd2 zd3 rfl mtu (by decide +kernel) (zb0 (pv 1) zb2))))),?_⟩
 first | dsimp only[cxOf,Cx.nox] | skip
 refine⟨wt6 _,fun fl hfl=>?_⟩;have f0:FrS [] H (upd H fl (.lst [])):=FrS.new hfl;refine⟨_,rfl,p,ks,m0,rfl,hP.keep (Tup.new hfl),fun b qs H1 f1 hb hB hql=>⟨b,rfl,⟨_,SqT.of hb⟩,?_⟩⟩;have hf1:=f1 _ _ wr0 zb1;have fr1:=f0.trans f1;have hR:∀z∈zh2 ks m0,RowsIs _ H1 z.2:=(hP.keep (Tup.of0 fr1)).rows;have hBl:=hB.len;generalize zh2 ks m0=L at hB hR hBl q;have hlen:=zp5 hR;refine zj4 (xs:=qs.map V.ref) (NumI K H H1 p fl L) ⟨_,_,[],rfl,fr1,(fun _ _ h=>h),hf1,.nil⟩ ?_ ?_ ?_
 ·rintro i σ Hx hi ⟨_,_,_,_,_,tp,_⟩;exact SqT.of (tp _ _ hb)
 ·rintro i x σ Hx hx ⟨a0,b0,ns,rfl,fr,tp,hfx,ha⟩;rw[wr3,wr6]at hx;obtain⟨u,hu,rfl⟩:=hx;obtain⟨z,hz,bd,u1,u2⟩:=hB.get hu;obtain⟨r2,r3,r4⟩:=(hR z (ws4 hz)).keep tp;have eF:zj6 (L.take (i+1))=zj6 (L.take i)++z.2.2.2.2.map fun a=>(z.1,a):=by
   unfold zj6;rw[ws7,hz,vc4];simp
  have hal:=ha.len;rw[vk7]at hal;have hsum:(zj6 (L.take i)).length<=80*L.length:=by
   have:=zp5 (L:=L.take i) fun y hy=>hR y (vd2 hy);have h2:(L.take i).length<=L.length:=by rw[wt4];lia
   lia
  refine⟨u,_,rfl,SqT.of (tp _ _ u1),rfl,_,_,rfl,_,_,rfl,rfl,?_⟩;refine⟨_,rfl,_,rfl,_,rfl,bd,z.2.2.1,fl,z.2.2.2.1,z.2.2.2.2,ns,rfl,r2,r3,hfx,by lia,fun x nx Hy fy hfy hEy=>?_⟩;have ty:=fy.tup1 hfx;refine⟨_,_,ns++nx,rfl,fr.own fy hfl,tp.trans ty,hfy,?_⟩;rw[eF,List.zipIdx_append];refine(ha.ckeep ty).app ?_;have:=hEy.ca (u2.keep (tp.trans ty));rwa [hal,←Nat.zero_add (zj6 (L.take i)).length]at this
 ·rintro σ Hx ⟨a0,b0,ns,rfl,fr,tp,hfx,ha⟩;rw[lqm,hBl,wr8 (wr5 _)]at ha;refine⟨_,rfl,fl,_,rfl,.inl ⟨SqL.of hfx,fun c hc=>?_⟩⟩;exact q c ns _ (fr.trans (FrS.new hc)) zb1 (ha.ckeep (Tup.new hc))
theorem xg4(A B:List Bz):zj6 (A++B)=zj6 A++zj6 B:=by
 unfold zj6;rw[vc4]
theorem ProgIs.many{H:Hp}{p:Addr}{ks:List (Str×List Dz)}{m0:Dz}(h:ProgIs Z H p ks m0):(zh2 ks m0).length<=1000:=by
 obtain⟨kt,us,lt,_,_,h3,h4,_,h6⟩:=h;have key:∀ks:List (Str×List Dz),(∀y∈ks,y.2.length<=80)->(ks.flatMap zg4).length<=80*ks.length:=by
  intro ks
  induction ks with
  | nil=>intro _;exact wt6 _
  | cons y ks ih=>
   intro h;have h1:=ih fun z hz=>h z (.tail _ hz);have h2:=h y (.head _);have h3:(zg4 y).length=y.2.length:=by unfold zg4;rw[lqm]
   rw[vm8,wr2,wt3];lia
 have h7:=key ks fun y hy=>by
  obtain⟨j,hj⟩:=ww7.mp hy;have hjl:j<us.length:=by rw[h3];exact(wr1.mp hj).1
  obtain⟨e,dt,fs,_,_,g3,_,g5⟩:=h4 j us[j] y (wq9 hjl) hj;lia
 unfold zh2;rw[wt3];lia
abbrev wn6:Stmt:=top 3
open Classical in
noncomputable def below(tr:Tr)(o x:Str):Bool:=decide (∃l,Up tr x l/\o∈l)
open Classical in
theorem zr7{tr:Tr}{o x:Str}{l:List Str}(ok:TrOk tr)(h:Up tr x l):decide (o∈l)=below tr o x:=by
 unfold below
 by_cases e:o∈l
 ·rw[wt8 e];exact(wt8 ⟨l,h,e⟩).symm
 ·rw[wv8 e];refine(wv8 ?_).symm;rintro⟨l',h',e'⟩;rw[Up.inj ok h h']at e;exact e e'
inductive wf0(vs:List V)(H:Hp)(Q:VK):Prop
 | mk(p a:Addr)(o:Str)(tr:Tr)(ss:List Str)(h1:vs=[.ref p,.ref a,.str o])(h2:KindsAt H p tr)(h3:TrOk tr)(h4:tr.length<=12)(h5:H a=some (.lst (ss.map V.str)))(h6:∀x∈ss,∃l,Up tr x l)(h7:ss.length<=64)
  (h8:∀(b:Addr)(H':Hp),FrS [] H H'->H' b=some (.lst ((ss.filter (below tr o)).map V.str))->Q (.ref b) H'):wf0 vs H Q
def xp7:Sp:=fun vs H Q _=>wf0 vs H Q
inductive AlbI(H1:Hp)(p Dl:Addr)(o:Str)(tr:Tr)(ss:List Str)(i:Nat)(σ:St)(Hx:Hp):Prop
 | mk(x:Option V)(hσ:σ=[x,some (.ref p),some (.str o)])(fr:FrS [] H1 Hx)(hD:Hx Dl=some (.lst (((ss.take i).filter (below tr o)).map V.str))):AlbI H1 p Dl o tr ss i σ Hx
abbrev xt7:List Str:=["program","kinds","other"]
theorem scAllB:zd1 xt7 xt7 (zc2 wn6):=⟨rfl,rfl,rfl,by decide +kernel,rfl,by decide +kernel,by decide +kernel⟩
theorem wq3{k:Nat}(F:Fun K "all_below" "all_below" wn6 f fd)(BE:Cal P w K mg base k "is_below" ["program","one","other"] yk1):FnOk P w K mg base CX0 (k+1) f fd xt7 xp7:=by
 obtain⟨g,gd,GB,bB,kB,mB⟩:=BE.ex;refine F.ok scAllB (fun vs H Q E h=>?_) (fun cdv A outer s H vs Q E hr h=>?_)
 ·obtain⟨p,a,o,tr,ss,rfl,_⟩:=h;rfl
 obtain⟨p,a,o,tr,ss,rfl,hK,hT,h12,ha,hU,hl,q⟩:=h;have nd3:(["kind","program","other"]:List Str).Nodup:=by decide +kernel
 refine⟨_,zb7 (zd0 (zh4 (N':=["kind","program","other"]) (src:=[none,some 0,some 2]) rfl ⟨rfl,by decide +kernel,by decide +kernel,rfl,rfl,rfl⟩ (zf7 (pv 1))
   (g:=zd9 0) (fun _ _ _ _=>zb9 (i:=0) nd3 rfl (wt1 rfl) (wz3 rfl))
   (tt:=tB (zn6 yk1 [] E0 (zc5 (tVar 1) (zc5 (tVar 0) (zc5 (tVar 2) tNil)))))
   (fun _ _ _ _=>zm7 (yg1 (zb8 GB hr rfl mB kB bB .nil zc6 (zb0 (pv 1) (zb0 (pv 0) (zb0 (pv 2) zb2)))))) (fun _ _ _ _=>pv 0))),?_⟩
 first | dsimp only[cxOf,Cx.nox] | skip
 refine⟨_,rfl,a,rfl,⟨_,SqL.of ha⟩,fun Dl hDl=>?_⟩;refine zh0 (xs:=ss.map V.str) (AlbI H p Dl o tr ss) ⟨_,rfl,(FrS.refl).put hDl,zb1⟩ ?_ ?_ ?_
 ·rintro i σ Hx hi ⟨_,_,fr,_⟩;exact SqL.of (fr _ _ wr0 ha)
 ·rintro i x σ Hx hx ⟨x0,rfl,fr,hDx⟩;rw[wr3,wr6]at hx;obtain⟨y,hy,rfl⟩:=hx;obtain⟨l,hup⟩:=hU y (ws4 hy);have eF:(ss.take (i+1)).filter (below tr o)=(ss.take i).filter (below tr o)++[y].filter (below tr o):=by
   rw[ws7,hy,vk6];rfl
  have hfl:((ss.take i).filter (below tr o)).length<=64:=by
   have h2:=vc3 (below tr o) (ss.take i);rw[wt4]at h2;lia
  refine⟨_,rfl,_,rfl,_,rfl,p,y,o,tr,l,rfl,hK.keepT (Tup.of0 fr),hT,h12,hup,fun Hy fy=>⟨_,rfl,?_⟩⟩;have hDy:=fy _ _ wr0 hDx;rw[zr7 hT hup];refine ite2 (fun c=>?_) (fun c=>?_)
  ·refine⟨_,rfl,_,hDy,zc0 (by rw[lqm];lia),_,rfl,(fr.trans fy).put hDl,?_⟩;rw[zb1,eF,vg1 c,vd0,wr9];rfl
  ·refine⟨_,rfl,fr.trans fy,?_⟩;rw[eF,vg0 c,vd0,wx1];exact hDy
 ·rintro σ Hx ⟨x0,rfl,fr,hDx⟩;rw[lqm,wr8 (wr5 _)]at hDx;exact q Dl Hx fr hDx
abbrev xg0:Stmt:=top 36
inductive xp6(vs:List V)(H:Hp)(Q:VK):Prop
 | mk(hd p:Addr)(d m t r:Int)(tr:Tr)(h1:vs=[.ref hd,.ref p])(h2:Hand H hd d m t r)(h3:t<=100000)(h4:KindsAt H p tr)(h5:TrOk tr)(h6:tr.length<=12)(h7:xh3 H p)
  (h8:∀(a:Addr)(ss:List Str)(H':Hp)(d' m' t':Int),FrS [hd] H H'->H' a=some (.tup (ss.map V.str))->ss.length<=12->(∀x∈ss,∃l,Up tr x l)->PyProof.Rows.sortedS ss=true->Hand H' hd d' m' t' r->t'<=t+20->Q (.ref a) H'):xp6 vs H Q
def yt9:Sp:=fun vs H Q _=>xp6 vs H Q
inductive ThI(H:Hp)(hd p fl:Addr)(so:Bool)(tr:Tr)(t r:Int)(i:Nat)(σ:St)(Hx:Hp):Prop
 | mk(x4 x5 x6 x7:Option V)(ns:List Str)(dx mx tx:Int)(hσ:σ=[some (.ref hd),some (.ref p),some (.ref fl),some (.bl so),x4,x5,x6,x7])(fr:FrS [hd] H Hx)(hf:Hx fl=some (.lst (ns.map V.str)))(hn:ns.length<=i)(hU:∀x∈ns,∃l,Up tr x l)(hh:Hand Hx hd dx mx tx r)(ht:tx<=t+1+i):ThI H hd p fl so tr t r i σ Hx
abbrev xq9:List Str:=["_law_hand_here","_law_program_here"]
theorem zq4:zd1 ["_law_hand_here","_law_program_here","_law_found","_law_some","_law_name","_law_elder","_law_deeds","_law_must"] xq9 (zc2 xg0):=⟨rfl,rfl,rfl,by decide +kernel,rfl,by decide +kernel,by decide +kernel⟩
set_option maxHeartbeats 4000000 in
theorem xx9{k:Nat}(F:Fun K "_law_there" "_law_there" xg0 f fd)(T:Cal P w K mg base k "_law_take" ["_law_hand_here","_law_many"] zj0)(mtu:mg "tuple"=none)(mso:mg "sorted"=none):FnOk P w K mg base CX0 (k+1) f fd xq9 yt9:=by
 obtain⟨g,gd,GT,bT,kT,mT⟩:=T.ex;refine F.ok zq4 (fun vs H Q E h=>?_) (fun cdv A outer s H vs Q E hr h=>?_)
 ·obtain⟨hd,p,d,m,t,r,tr,rfl,_⟩:=h;rfl
 obtain⟨hd,p,d,m,t,r,tr,rfl,hh,ht,hK,hT,h12,hL,q⟩:=h;refine⟨_,zb3 (zc3 (i:=2) zq4.nd rfl (wt1 rfl) (zd7 zb2))
  (zb3 (zc3 (i:=3) zq4.nd rfl (wt1 rfl) (zq6 zp3 (zb8 GT hr rfl mT kT bT .nil zc6 (zb0 (pv 0) (zb0 zb6 zb2))) zb6 (zd6 _)))
  (zb3 (zf9 wv0 rfl (zh5 (eT (pv 1) zb6)) (zh8 (n:=3) rfl (zc1 (zb9 (i:=4) zq4.nd rfl (wt1 rfl)) (zc1 (zb9 (i:=5) zq4.nd rfl (wt1 rfl)) (zc1 (zb9 (i:=6) zq4.nd rfl (wt1 rfl)) zg2))))
   (zb3 (zc3 (i:=7) zq4.nd rfl (wt1 rfl) (pe_and (zq6 zm1 (pv 4) (eT (pv 1) zb6) rfl) (pe_one (pe_not (pv 3)))))
   (zb7 (zh3 (PW.pt (xq7 (yg1 (pv 7)) (yn1 (PW.pt (zk4 (PW.pt (xq7 (zs5 (xh5 (pv 5))) (yn1 (zc4 zg6 (pv 5) (pv 2) rfl)))) (zk0 (zc4 zp3 (zb8 GT hr rfl mT kT bT .nil zc6 (zb0 (pv 0) (zb0 zb6 zb2))) zb6 (zd6 _))))))))
    (zb7 (zg1 (zm9 wv2 wv6 wv7 zf5 (pv 2) (zb0 (pv 4) zb2)))) zd5))))
  (zb7 (zd0 (zd2 zd3 rfl mtu (by decide +kernel) (zb0 (zf2 zp1 rfl mso (by decide +kernel) (zb0 (pv 2) zb2)) zb2)))))),?_⟩
 first | dsimp only[cxOf,Cx.nox] | skip
 refine⟨wt6 _,fun fl hfl=>?_⟩;have hfd:hd≠fl:=zb4 hh.1 hfl;have hh1:Hand (upd H fl (.lst [])) hd d m t r:=⟨by rw[zb5 hfd];exact hh.1,hh.2⟩;refine⟨_,rfl,hd,d,m,t,r,4,rfl,hh1,by lia,by decide,by decide,fun x d1 m1 t1 x0 x1 c1 e1=>⟨rfl,?_⟩⟩;generalize decide (V.int x=V.int 0)=so;have f0:FrS [hd] H (upd (upd H fl (.lst [])) hd (hl d1 m1 t1 r)):=(FrS.new hfl).put' (.head _);obtain⟨kt,ts,x',y',hp,hk,hlen,hts⟩:=id hK;obtain⟨kt2,lt,m2,late,hp2,hlt,hll⟩:=id hL;have tp0:=f0.tup1 hh.1;refine⟨_,rfl,p,_,_,_,rfl,rfl,SqT.of (tp0 _ _ hp),rfl,kt,rfl,⟨_,SqT.of (tp0 _ _ hk)⟩,?_⟩;refine zj4 (xs:=ts.map V.ref) (ThI H hd p fl so tr t r) ⟨_,_,_,_,[],d1,m1,t1,rfl,f0,by rw[zb5 (vb3 hfd)];exact zb1,wr5 _,(fun x h=>by cases h),Hand.at c1,by lia⟩ ?_ ?_ ?_
 ·rintro i σ Hx hi ⟨_,_,_,_,_,_,_,_,_,fr,_⟩;exact SqT.of (fr.tup1 hh.1 _ _ hk)
 ·rintro i x σ Hx hx ⟨x4,x5,x6,x7,ns,dx,mx,tx,rfl,fr,hf,hn,hU,hhx,htx⟩;rw[wr3,wr6]at hx;obtain⟨u,hu,rfl⟩:=hx;have hi:i<tr.length:=by rw[←hlen];exact(wr1.mp hu).1
  have hz:tr[i]?=some tr[i]:=wq9 hi;obtain⟨v,hv⟩:=hts i u _ hu hz;obtain⟨l,hup⟩:=Up.exists hT i _ _ hz;have tpx:=fr.tup1 hh.1;refine⟨u,_,rfl,SqT.of (tpx _ _ hv),rfl,_,_,rfl,_,_,rfl,_,_,rfl,rfl,?_⟩;have must:∀Q:VK,(∀b:Bool,Q (.bl b) Hx)->tAndV (tOp (rIn K true) (tVar 4) (tOp (rIxT K) (tVar 1) (tC (.int 1)))) (tNotV (tVar 3)) [some (.ref hd),some (.ref p),some (.ref fl),some (.bl so),some (.str tr[i].1),some (eldV tr[i].2),some v,x7] Hx Q:=by
   intro Q hQ;refine⟨_,rfl,_,rfl,p,_,_,_,rfl,rfl,SqT.of (tpx _ _ hp2),rfl,lt,_,rfl,.inr (SqT.of (tpx _ _ hlt)),rfl,zf8 _,_,rfl,?_⟩;refine ite2 (fun c=>?_) (fun c=>?_)
   ·exact⟨_,rfl,_,rfl,hQ _⟩
   ·exact hQ _
  refine must _ fun mu=>?_;have cond:∀Q:Bool->Hp->Prop,(∀(b:Bool)(Hy:Hp)(dy my ty:Int),FrS [hd] H Hy->Hy fl=some (.lst (ns.map V.str))->Hand Hy hd dy my ty r->ty<=tx+1->Q b Hy)->
    tOr (tB (tVar 7)) (tAnd (tOr (tB (tIsN (tVar 5))) (zn4 (tOp (rIn K false) (tVar 5) (tVar 2)))) (zn4 (tOp rEq (zn6 zj0 [] E0 (zc5 (tVar 0) (zc5 (tC (.int 2)) tNil))) (tC (.int 0))))) [some (.ref hd),some (.ref p),some (.ref fl),some (.bl so),some (.str tr[i].1),some (eldV tr[i].2),some v,some (.bl mu)] Hx Q:=by
   intro Q hQ;have hf':=hf;refine⟨_,rfl,_,rfl,?_⟩;refine ite2 (fun c=>hQ _ Hx dx mx tx fr hf hhx (by lia)) (fun c=>?_);have tk:zn4 (tOp rEq (zn6 zj0 [] E0 (zc5 (tVar 0) (zc5 (tC (.int 2)) tNil))) (tC (.int 0))) [some (.ref hd),some (.ref p),some (.ref fl),some (.bl so),some (.str tr[i].1),some (eldV tr[i].2),some v,some (.bl mu)] Hx Q:=by
    refine⟨_,rfl,hd,dx,mx,tx,r,2,rfl,hhx,by lia,by decide,by decide,fun y d2 m2' t2 y0 y1 c2 e2=>⟨rfl,_,rfl,?_⟩⟩;exact hQ _ _ d2 m2' t2 (fr.put' (.head _)) (by rw[zb5 (vb3 hfd)];exact hf) (Hand.at c2) e2
   refine⟨_,rfl,_,rfl,?_⟩;refine ite2 (fun c=>?_) (fun c=>?_)
   ·exact tk
   ·refine⟨_,rfl,_,rfl,fl,_,rfl,.inl (SqL.of hf),by cases tr[i].2 <;> rfl,zf8 _,_,rfl,?_⟩;refine ite2 (fun c=>?_) (fun c=>?_)
    ·exact tk
    ·exact hQ _ Hx dx mx tx fr hf hhx (by lia)
  refine cond _ fun b Hy dy my ty fy hfy hhy hty=>?_;cases b with
  | true=>
   have fn:FrS [hd] H (upd Hy fl (.lst (ns.map V.str++[V.str tr[i].1]))):=fy.put hfl;refine⟨_,rfl,.inl ⟨rfl,_,SqL.of hfy⟩,_,rfl,fl,_,_,rfl,rfl,hfy,zc0 (by rw[lqm];lia),?_⟩;refine⟨_,_,_,_,ns++[tr[i].1],dy,my,ty,rfl,fn,by rw[zb1,wr9];rfl,by rw[wr2,ws8];lia,fun x hx=>?_,⟨by rw[zb5 hfd];exact hhy.1,hhy.2⟩,by lia⟩;rcases wt9.mp hx with hx | hx
   ·exact hU x hx
   ·have e:x=tr[i].1:=by simpa using hx
    rw[e];exact⟨l,hup⟩
  | false=>exact⟨_,_,_,_,ns,dy,my,ty,rfl,fy,hfy,by lia,hU,hhy,by lia⟩
 ·rintro σ Hx ⟨x4,x5,x6,x7,ns,dx,mx,tx,rfl,fr,hf,hn,hU,hhx,htx⟩;rw[lqm,hlen]at hn htx;refine⟨_,rfl,fl,ns,rfl,SqL.of hf,by lia,fun sl ss hsl hperm hso=>⟨sl,_,rfl,.inl ⟨SqL.of zb1,fun a ha=>?_⟩⟩⟩;have fn:FrS [] Hx (upd (upd Hx sl (.lst (ss.map V.str))) a (.tup (ss.map V.str))):=(FrS.new hsl).trans (FrS.new ha);exact q a ss _ dx mx tx (fr.trans (fn.mono (fun _ h=>absurd h wr0))) zb1 (by rw[hperm.length_eq];lia) (fun x hx=>hU x (hperm.mem_iff.mp hx)) hso ⟨fn _ _ wr0 hhx.1,hhx.2⟩ (by lia)
abbrev xz4:Stmt:=top 37
inductive xb3(n:Nat)(vs:List V)(H:Hp)(Q:VK):Prop
 | mk(l:Addr)(rs fs:List Addr)(h1:vs=[.ref l])(h2:H l=some (.tup (rs.map V.ref)))(h3:Fl Z H n rs fs)(h4:fs.length<=1000)(h5:∀(p:Addr)(H':Hp),FrS [] H H'->H' p=some (.lst (fs.map V.ref))->Q (.ref p) H'):xb3 n vs H Q
def zw6(n:Nat):Sp:=fun vs H Q _=>xb3 n vs H Q
def yn7:Nat->Sp
 | 0=>fun _ _ _ _=>False
 | n+1=>zw6 n
inductive LisI(n:Nat)(H:Hp)(l p:Addr)(rs fs:List Addr)(i:Nat)(σ:St)(Hx:Hp):Prop
 | mk(a b:Option V)(f1 f2:List Addr)(hσ:σ=[some (.ref l),some (.ref p),a,b])(fr:FrS [] H Hx)(hp:Hx p=some (.lst (f1.map V.ref)))(he:fs=f1++f2)(hl:Fl Z Hx n (rs.drop i) f2):LisI n H l p rs fs i σ Hx
inductive LisJ(H H2:Hp)(l p a:Addr)(g1:List Addr)(ls:List Lz)(j:Nat)(σ:St)(Hx:Hp):Prop
 | mk(b:Option V)(hσ:σ=[some (.ref l),some (.ref p),some (.ref a),b])(fr:FrS [] H Hx)(tp:Tup H2 Hx)(hp:Hx p=some (.lst ((g1++(ls.take j).flatMap (·.2.2)).map V.ref))):LisJ H H2 l p a g1 ls j σ Hx
abbrev pLis:List Str:=["_law_rows_here"]
theorem zs7:zd1 ["_law_rows_here","_law_found","_law_row_here","_law_lot"] pLis (zc2 xz4):=⟨rfl,rfl,rfl,by decide +kernel,rfl,by decide +kernel,by decide +kernel⟩
set_option maxHeartbeats 4000000 in
theorem yp6{k n:Nat}(F:Fun K "_law_flat" "_law_flat" xz4 f fd)(LI:Cal P w K mg base k "_law_flat" pLis (yn7 n)):FnOk P w K mg base CX0 (k+1) f fd pLis (zw6 n):=by
 obtain⟨g,gd,GL,bL,kL,mL⟩:=LI.ex;refine F.ok zs7 (fun vs H Q E h=>?_) (fun cdv A outer s H vs Q E hr h=>?_)
 ·obtain⟨l,rs,fs,rfl,_⟩:=h;rfl
 obtain⟨l,rs,fs,rfl,hl,hF,hb,q⟩:=h;refine⟨_,zb3 (zc3 (i:=1) zs7.nd rfl (wt1 rfl) (zd7 zb2))
  (zb3 (zf9 wv0 rfl (zh5 (pv 0)) (zb9 (i:=2) zs7.nd rfl (wt1 rfl))
   (zb3 (zg1 (zm9 wv2 wv6 wv7 zf5 (pv 1) (zb0 (pv 2) zb2)))
   (zb7 (zh3 (zc4 zg6 (eT (pv 2) zb6) (zf0 (yb5 (yb5 zb2))) rfl)
    (zb7 (zf9 wv0 rfl (zh5 (zk3 wc6 (pv 2) (zm6 zb6) zm8)) (zb9 (i:=3) zs7.nd rfl (wt1 rfl))
     (zb7 (zg1 (zm9 wv2 vp5 vp6 zz7 (pv 1) (zb0 (zb8 GL hr rfl mL kL bL .nil zc6 (zb0 (pv 3) zb2)) zb2)))))) zd5))))
  (zb7 (zd0 (pv 1)))),?_⟩
 first | dsimp only[cxOf,Cx.nox] | skip
 have s2:2<=sizeLine:=ws3 (zc0 (by decide));refine⟨wt6 _,fun p hp0=>?_⟩;have t0:Tup H (upd H p (.lst [])):=Tup.new hp0;refine⟨_,rfl,l,rfl,⟨_,SqT.of (t0 _ _ hl)⟩,?_⟩;refine zj4 (xs:=rs.map V.ref) (LisI n H l p rs fs) ⟨_,_,[],fs,rfl,FrS.new hp0,zb1,rfl,hF.keep t0⟩ ?_ ?_ ?_
 ·rintro i σ Hx hi ⟨_,_,_,_,_,fr,_⟩;exact SqT.of (fr _ _ wr0 hl)
 ·rintro i x σ Hx hx ⟨a0,b0,f1,f2,rfl,fr,hp,rfl,hFx⟩;rw[wr3,wr6]at hx;obtain⟨a,ha,rfl⟩:=hx;obtain⟨hi,rfl⟩:=wr1.mp ha;rw[vc6 hi]at hFx;obtain⟨w,rest,ls,fs',h1,h2,h3,rfl,h5,h6⟩:=hFx.hd;generalize rs[i]=a at h1;rw[wr2,wt3,wr2]at hb;refine⟨_,rfl,.inl ⟨rfl,_,SqL.of hp⟩,_,rfl,p,_,_,rfl,rfl,hp,yf9 (by rw[lqm];lia),?_⟩;rw[show f1.map V.ref++[V.ref a]=(f1++[a]).map V.ref by rw[wr9];rfl];have tn:Tup Hx (upd Hx p (.lst ((f1++[a]).map V.ref))):=Tup.lst hp;have fr1:FrS [] H (upd Hx p (.lst ((f1++[a]).map V.ref))):=fr.put hp0;have hpn:upd Hx p (.lst ((f1++[a]).map V.ref)) p=some (.lst ((f1++[a]).map V.ref)):=zb1;have h1':=tn _ _ h1;have h3':∀z∈ls,LotIs _ n z:=fun z hz=>(h3 z hz).keep tn;have h5':=h5.keep tn;generalize upd Hx p (.lst ((f1++[a]).map V.ref))=H1 at hpn fr1 h1' h3' h5';refine⟨_,rfl,a,_,_,.str w,rfl,rfl,SqT.of h1',yc2 _ _,s2,fun pd hpd=>?_⟩;have fd':FrS [] H1 (upd H1 pd (.tup [.str "either",.str "again"])):=FrS.new hpd;have hd2:upd H1 pd (.tup [.str "either",.str "again"]) pd=some (.tup [.str "either",.str "again"]):=zb1;refine⟨pd,_,rfl,.inr (SqT.of hd2),rfl,rfl,_,rfl,?_⟩;have fr2:=fr1.trans fd';have t2:=Tup.of0 fd';have hp2:=fd' _ _ wr0 hpn;have h1'':=t2 _ _ h1';have h3'':∀z∈ls,LotIs _ n z:=fun z hz=>(h3' z hz).keep t2;have h5'':=h5'.keep t2;generalize upd H1 pd (.tup [.str "either",.str "again"])=H2 at fr2 hp2 h1'' h3'' h5'';have ei:inV (.str w) [.str "either",.str "again"]=decide (w="either"∨w="again"):=by
   have:=zj8 w ["either","again"];simpa using this
  show if inV (.str w) [.str "either",.str "again"]=true then _ else _
  rw[ei];refine ite2 (fun c=>?_) (fun c=>?_)
  ·have hw:zk2 w rest=rest:=by unfold zk2;rw[ww4 (ws0 c)]
   refine⟨_,rfl,_,rfl,a,_,rfl,SqT.of h1'',?_,fun pc hpc=>?_⟩
   ·intro z;have:=z.1;unfold HT.sIx at this;simp at this
   rw[cut1,←hw,h2];have f3:FrS [] H2 (upd H2 pc (.tup (ls.map fun z=>V.ref z.1))):=FrS.new hpc;have hc3:upd H2 pc (.tup (ls.map fun z=>V.ref z.1)) pc=some (.tup (ls.map fun z=>V.ref z.1)):=zb1;have fr3:=fr2.trans f3;have hp3:=f3 _ _ wr0 hp2;have t3:=Tup.of0 f3;generalize upd H2 pc (.tup (ls.map fun z=>V.ref z.1))=H3 at f3 hc3 fr3 hp3 t3;refine⟨pc,rfl,⟨_,SqT.of hc3⟩,?_⟩;refine zj4 (xs:=ls.map fun z=>V.ref z.1) (LisJ H H3 l p a (f1++[a]) ls) ⟨_,rfl,fr3,(fun _ _ h=>h),by rw[List.take_zero,List.flatMap_nil,wx1];exact hp3⟩ ?_ ?_ ?_
   ·rintro j σ Hy hj ⟨_,_,_,ty,_⟩;exact SqT.of (ty _ _ hc3)
   ·rintro j x σ Hy hx ⟨b1,rfl,fy,ty,hpy⟩;rw[wr3,wr6]at hx;obtain⟨z,hz,rfl⟩:=hx;obtain⟨n',rfl,z1,z2⟩:=(h3'' z (ws4 hz)).keep (t3.trans ty);have hjl:j<ls.length:=(wr1.mp hz).1;have hsum:((ls.take j).flatMap (·.2.2)).length+z.2.2.length<=(ls.flatMap (·.2.2)).length:=by
     have e:ls=ls.take j++(z::ls.drop (j+1)):=by
      rw[←(wr1.mp hz).2,←vc6 hjl,vc2]
     conv=>rhs;rw[e]
     rw[vc4,vm8,wr2,wr2];lia
    have e:(ls.take (j+1)).flatMap (·.2.2)=(ls.take j).flatMap (·.2.2)++z.2.2:=by
     rw[ws7,hz,vc4];simp
    refine⟨_,rfl,.inl ⟨rfl,_,SqL.of hpy⟩,_,rfl,z.1,z.2.1,z.2.2,rfl,z1,z2,by lia,fun p4 Hz fz hp4=>?_⟩;have hpz:=fz _ _ wr0 hpy;refine⟨p,p4,_,_,rfl,rfl,hpz,hp4,ws3 (yf9 (by rw[lqm,lqm,wr2,wr2,ws8];lia)),?_⟩;exact⟨_,rfl,(fy.trans fz).put hp0,(ty.trans (Tup.of0 fz)).trans (Tup.lst hpz),by rw[zb1,e,←wt7,←wr9]⟩
   ·rintro σ Hy ⟨b1,rfl,fy,ty,hpy⟩;rw[lqm,wr8 (wr5 _)]at hpy;exact⟨_,_,f1++[a]++ls.flatMap (·.2.2),fs',rfl,fy,hpy,by simp,h5''.keep (t3.trans ty)⟩
  ·have hw:zk2 w rest=[]:=by unfold zk2;rw[wv5 fun z=>c (wt8 z)]
   rw[h2]at hw;have:ls=[]:=by
    cases ls with
    | nil=>rfl
    | cons _ _=>cases hw
   subst this;exact⟨_,_,f1++[a],fs',rfl,fr2,hp2,by simp,h5''⟩
 ·rintro σ Hx ⟨a0,b0,f1,f2,rfl,fr,hp,rfl,hFx⟩;rw[lqm,List.drop_of_length_le (wr5 _)]at hFx;cases hFx;rw[wx1]at q;exact⟨_,rfl,q p Hx fr hp⟩
abbrev sUp:Stmt:=top 39
inductive SpUp(vs:List V)(H:Hp)(Q:VK):Prop
 | mk(p:Addr)(n:Str)(tr:Tr)(l:List Str)(h1:vs=[.ref p,.str n])(h2:KindsAt H p tr)(h3:TrOk tr)(h4:tr.length<=12)(h5:Up tr n l)(h6:∀(a:Addr)(H':Hp),FrS [] H H'->H' a=some (.lst (l.map V.str))->Q (.ref a) H'):SpUp vs H Q
def spUp:Sp:=fun vs H Q _=>SpUp vs H Q
inductive UpI(H1:Hp)(Dl:Addr)(tr:Tr)(i:Nat)(σ:St)(Hx:Hp):Prop
 | mk(x y z:Option V)(us:List Addr)(hσ:σ=[x,y,z])(fr:FrS [] H1 Hx)(hD:Hx Dl=some (.lst (us.map V.ref)))(ha:A2 (fun u (z:Str×Option Str)=>Hx u=some (.tup [.str z.1,eldV z.2])) us (tr.take i)):UpI H1 Dl tr i σ Hx
inductive UpW(H1:Hp)(p Dp pl:Addr)(n:Str)(tr:Tr)(l:List Str)(σ:St)(Hx:Hp):Prop
 | mk(dn rs:List Str)(x:Str)(hσ:σ=[some (.ref p),some (.str n),some (.ref Dp),some (.ref pl)])(hH:Hx=upd H1 pl (.lst ((dn++[x]).map V.str)))(hu:Up tr x rs)(he:dn++rs=l)(hd:dn.length<=12):UpW H1 p Dp pl n tr l σ Hx
abbrev pUp:List Str:=["_law_program_here","_law_kind"]
theorem scUp:zd1 ["_law_program_here","_law_kind","_law_elder_of","_law_found"] pUp (zc2 sUp):=⟨rfl,rfl,rfl,by decide +kernel,rfl,by decide +kernel,by decide +kernel⟩
set_option maxHeartbeats 4000000 in
theorem ok_up{k:Nat}(F:Fun K "_law_up" "_law_up" sUp f fd)(mdi:mg "dict"=none):FnOk P w K mg base CX0 (k+1) f fd pUp spUp:=by
 refine F.ok scUp (fun vs H Q E h=>?_) (fun cdv A outer s H vs Q E hr h=>?_)
 ·obtain⟨p,n,tr,l,rfl,_⟩:=h;rfl
 obtain⟨p,n,tr,l,rfl,⟨kt,ts,x,y,hp,hk,hlen,hts⟩,ok,h12,hup,q⟩:=h;have hu:=zn1 hr;have hl12:l.length<=12:=by
  obtain⟨i,g,hi⟩:=hup.at;have:=Up.len ok i n g l hi hup;obtain⟨h1,_⟩:=wr1.mp hi;lia
 have nd3:(["_law_name","_law_elder","_law_deeds"]:List Str).Nodup:=by decide +kernel
 refine⟨_,zb3 (zc3 (i:=2) scUp.nd rfl (wt1 rfl) (zd2 (zh6 rfl) rfl mdi (by decide +kernel) (zb0 (zh4 (N':=["_law_name","_law_elder","_law_deeds"]) (src:=[none,none,none]) rfl ⟨rfl,by decide +kernel,by decide +kernel,rfl,rfl,rfl⟩
   (zh5 (eT (pv 0) zb6))
   (g:=gTup K 3 (zk6 (zd9 0) (zk6 (zd9 1) (zk6 (zd9 2) gNil)))) (fun _ _ _ _=>zh8 (n:=3) rfl (zc1 (zb9 (i:=0) nd3 rfl (wt1 rfl) (wz3 rfl)) (zc1 (zb9 (i:=1) nd3 rfl (wt1 rfl) (wz3 rfl)) (zc1 (zb9 (i:=2) nd3 rfl (wt1 rfl) (wz3 rfl)) zg2))))
   (fun _ _ _ _=>zg5) (te:=tTup (zc5 (tVar 0) (zc5 (tVar 1) tNil))) (fun _ _ _ _=>zf0 (zb0 (pv 0) (zb0 (pv 1) zb2)))) zb2)))
  (zb3 (zc3 (i:=3) scUp.nd rfl (wt1 rfl) (zd7 (zb0 (pv 1) zb2)))
  (zb3 (zx4 wv0 (zs5 (zt8 (zc9 hu (pv 2) (eI (pv 3) (yh5 zr6 zb6)) (fun _ _=>rfl))))
   (zb7 (zg1 (zm9 wv2 wv6 wv7 zf5 (pv 3) (zb0 (zc9 hu (pv 2) (eI (pv 3) (yh5 zr6 zb6)) (fun _ _=>rfl)) zb2)))))
  (zb7 (zd0 (pv 3))))),?_⟩
 first | dsimp only[cxOf,Cx.nox] | skip
 have s1:∀{n:Nat},n<=1000->n<sizeLine:=fun h=>zc0 h;have s2:2<=sizeLine:=ws3 (zc0 (by decide));refine⟨_,rfl,p,_,_,_,rfl,rfl,SqT.of hp,rfl,kt,rfl,⟨_,SqT.of hk⟩,fun Dl hDl=>?_⟩;refine zm0 (xs:=ts.map V.ref) (UpI H Dl tr) ⟨_,_,_,[],rfl,(FrS.refl).put hDl,zb1,.nil⟩ ?_ ?_ ?_
 ·rintro i σ Hx hi ⟨_,_,_,_,_,fr,_⟩;exact SqT.of (fr _ _ wr0 hk)
 ·rintro i x σ Hx hx ⟨_,_,_,us,rfl,fr,hDx,hA⟩;rw[wr3,wr6]at hx;obtain⟨u,hu',rfl⟩:=hx;have hi:i<tr.length:=by rw[←hlen];exact(wr1.mp hu').1
  have hz:tr[i]?=some tr[i]:=wq9 hi;obtain⟨v,hv⟩:=hts i u _ hu' hz;have hul:us.length<=12:=by
   have:=hA.len;rw[wt4]at this;lia
  refine⟨u,_,rfl,SqT.of (fr _ _ wr0 hv),rfl,_,_,rfl,_,_,rfl,_,_,rfl,rfl,?_⟩;refine⟨_,rfl,_,rfl,s2,fun te hte=>?_⟩;have hDn:=(FrS.new (S:=[]) (o:=.tup [V.str tr[i].1,eldV tr[i].2]) hte) _ _ wr0 hDx;have tl:Tup _ (upd (upd Hx te (.tup [V.str tr[i].1,eldV tr[i].2])) Dl (.lst (us.map V.ref++[V.ref te]))):=Tup.lst hDn;refine⟨_,hDn,zc0 (by rw[lqm];lia),_,_,_,us++[te],rfl,(fr.trans (FrS.new hte)).put hDl,by rw[zb1,wr9];rfl,?_⟩;rw[ws7,hz];exact(hA.imp fun a b h=>((Tup.new hte).trans tl) _ _ h).snoc (tl _ _ zb1)
 ·rintro σ H1 ⟨_,_,_,us,rfl,f1,hD1,hA⟩;rw[lqm,hlen,wr8 (wr5 _)]at hA;have hkl:(kvE tr).length=tr.length:=by unfold kvE;rw[lqm]
  refine⟨Dl,us,kvE tr,rfl,SqL.of hD1,by rw[hkl];exact hA.len,by rw[hkl];exact s1 (by lia),fun j t kv ht hkv=>?_,fun Dp hDp=>?_⟩
  ·unfold kvE at hkv;rw[wr3]at hkv;obtain⟨x,hx,rfl⟩:=wr6.mp hkv;obtain⟨x',hx',h⟩:=hA.get ht;rw[hx]at hx';cases hx';exact SqT.of h
  rw[yq0 ok];refine⟨_,rfl,by show 1<=sizeLine;decide,fun pl hpl=>?_⟩;have hDl':Dp≠pl:=fun z=>by rw[←z,zb1]at hpl;cases hpl
  have f2:FrS [] H (upd H1 Dp (.dK (kvE tr))):=f1.trans (FrS.new hDp);have hDp2:upd H1 Dp (.dK (kvE tr)) Dp=some (.dK (kvE tr)):=zb1;generalize upd H1 Dp (.dK (kvE tr))=H2 at hpl f2 hDp2;refine zx2 (UpW H2 p Dp pl n tr l) (fun σ Hx=>match Hx pl with | some (.lst xs)=>100-xs.length | _=>0) ⟨[],l,n,rfl,rfl,hup,rfl,by decide⟩ ?_ ?_
  ·rintro σ Hx ⟨dn,rs,x,rfl,rfl,hx,hl,hd⟩;have hdl:∀o,upd H2 pl o Dp=some (.dK (kvE tr)):=fun o=>by rw[zb5 hDl'];exact hDp2
   have hlen':∀y:Str,((dn++[y]).map V.str).length=dn.length+1:=fun y=>by simp
   cases hx with
   | @root i _ hi=>
    refine⟨_,rfl,_,rfl,_,rfl,pl,_,_,_,rfl,rfl,SqL.of zb1,zs9 dn x,Dp,V.non,rfl,?_,_,rfl,?_⟩
    ·have:=DGet.k (k:=(Sum.inr x:Key)) (hdl (.lst ((dn++[x]).map V.str)));rw[zp4 ok hi]at this;exact this
    ·show if (!decide (V.non=V.non))=true then _ else _
     rw[wv5 (by simp)];exact⟨_,rfl,q pl _ (f2.trans (FrS.new hpl)) (by rw[zb1,←hl])⟩
   | @step i _ e l' hi hb=>
    refine⟨_,rfl,_,rfl,_,rfl,pl,_,_,_,rfl,rfl,SqL.of zb1,zs9 dn x,Dp,V.str e,rfl,?_,_,rfl,?_⟩
    ·have:=DGet.k (k:=(Sum.inr x:Key)) (hdl (.lst ((dn++[x]).map V.str)));rw[zp4 ok hi]at this;exact this
    ·show if (!decide (V.str e=V.non))=true then _ else _
     rw[ww4 (by simp)];refine⟨_,rfl,.inl ⟨rfl,_,SqL.of zb1⟩,_,rfl,_,rfl,_,rfl,pl,_,_,_,rfl,rfl,SqL.of zb1,zs9 dn x,Dp,V.str e,rfl,?_,pl,_,_,rfl,rfl,zb1,?_,⟨dn++[x],l',e,rfl,?_,hb,by rw[←hl];simp,?_⟩,?_⟩
     ·have:=DGet.k (k:=(Sum.inr x:Key)) (hdl (.lst ((dn++[x]).map V.str)));rw[zp4 ok hi]at this;exact this
     ·rw[hlen'];exact s1 (by lia)
     ·rw[zq5,wr9 (l₁:=dn++[x])];rfl
     ·have:=wx5 List.length hl;rw[wr2,wt3]at this;rw[wr2,ws8];lia
     ·show(match upd _ pl _ pl with | some (HO.lst xs)=>100-xs.length | _=>0)<(match upd _ pl _ pl with | some (HO.lst xs)=>100-xs.length | _=>0);rw[zb1,zb1];show 100-(((dn++[x]).map V.str)++[V.str e]).length<100-((dn++[x]).map V.str).length;rw[wr2,hlen',ws8];lia
  ·intro σ Hx R R' hR hc;obtain⟨v1,h1,v2,h2,v3,h3,p',xs,i',v',h4,h5,h6,h7,a',v8,h8,h9,c,h10,h11⟩:=hc;exact⟨v1,h1,v2,h2,v3,h3,p',xs,i',v',h4,h5,h6,h7,a',v8,h8,h9,c,h10,hR _ _ h11⟩
abbrev wq2:Stmt:=top 38
theorem wn4{K:PySem.W.Frag}{H H':Hp}{a:Addr}{xs:List V}(h:SqL K H a xs)(f:∀b o,H b=some o->H' b=some o):SqL K H' a xs:=by
 rcases h with (h | ⟨o,h⟩) | h
 ·exact .inl (.inl (f _ _ h))
 ·exact .inl (.inr ⟨o,f _ _ h⟩)
 ·exact .inr h
theorem xd6{K:PySem.W.Frag}{a:Addr}{xs:List V}{g:TG}{tt:TT}{te:TE}{D:Addr}{σ0:St}{H0:Hp}{Q:Hp->Prop}(Pv:Nat->St->Hp->Prop)(h0:Pv 0 σ0 H0)(hl:∀i σ H,i<=xs.length->Pv i σ H->SqL K H a xs)
  (hs:∀i x p σ H,xs[i]?=some x->Pv i σ H->H p=none->g (.ref p) σ (upd H p (.tup [.int (i:Nat),x])) fun σ2 H2=>tt σ2 H2 fun b H3=>if b=true then te σ2 H3 fun v H4=>∃ys,H4 D=some (.lst ys)/\ys.length<sizeLine/\Pv (i+1) σ2 (upd H4 D (.lst (ys++[v]))) else Pv (i+1) σ2 H3)
  (hd:∀σ H,Pv xs.length σ H->Q H):yd7 (Ite K a) g tt te D σ0 H0 Q:=by
 refine⟨fun i m σ H=>m=xs.length-i/\i<=xs.length/\Pv i σ H,⟨xs.length,by simp,wt6 _,h0⟩,?_⟩;rintro i m σ H ⟨rfl,hi,p⟩;have q:=hl i σ H hi p
 by_cases hlt:i<xs.length
 ·refine .inr ⟨⟨xs,xs[i],q,by simp[hlt]⟩,Pv (i+1),fun σ' H' p'=>⟨xs.length-(i+1),by lia,rfl,hlt,p'⟩,fun x H' y=>?_⟩;obtain⟨p2,y2,hp2,rfl,rfl,yy⟩:=y;exact hs i y2 p2 σ _ (yy xs q) p hp2
 ·have e:i=xs.length:=by lia
  subst e;exact .inl ⟨⟨xs,q,wr5 _⟩,hd σ H p⟩
inductive PaIs(H:Hp)(p:Addr)(z:Fz):Prop
 | mk(bd:Addr)(h1:H p=some (.tup [.ref bd,.ref z.2]))(h2:H bd=some (.tup [.str z.1.1,.str z.1.2])):PaIs H p z
theorem PaIs.keep{H H':Hp}{p:Addr}{z:Fz}(h:PaIs H p z)(f:Tup H H'):PaIs H' p z:=by
 obtain⟨bd,h1,h2⟩:=h;exact⟨bd,f _ _ h1,f _ _ h2⟩
theorem _root_.L2.A2.pkeep{H H':Hp}{qs:List Addr}{L:List Fz}(h:A2 (PaIs H) qs L)(f:Tup H H'):A2 (PaIs H') qs L:=h.imp fun _ _ g=>g.keep f
inductive PwI(H1:Hp)(Dl:Addr)(Pσ:St->Prop)(L:List Fz)(i:Nat)(σ:St)(Hx:Hp):Prop
 | mk(ps:List Addr)(hσ:Pσ σ)(fr:FrS [] H1 Hx)(hD:Hx Dl=some (.lst (ps.map V.ref)))(ha:A2 (PaIs Hx) ps (L.take i)):PwI H1 Dl Pσ L i σ Hx
theorem yd9{K:PySem.W.Frag}{H1:Hp}{a Dl:Addr}{fs:List Addr}{n:Str×Str}{te:TE}{σ0:St}{Pσ:St->Prop}(ha:H1 a=some (.lst (fs.map V.ref)))(hD:H1 Dl=none)(hb:fs.length<=1000)(h0:Pσ σ0)(hset:∀σ v,Pσ σ->Pσ (σ.set 0 (some v)))
  (hte:∀σ x H (Q:VK),Pσ σ->FrS [] H1 H->(∀t1 t2,H t1=none->upd H t1 (.tup [.str n.1,.str n.2]) t2=none->Q (.ref t2) (upd (upd H t1 (.tup [.str n.1,.str n.2])) t2 (.tup [.ref t1,.ref x])))->te (σ.set 0 (some (.ref x))) H Q)
  {Q:Hp->Prop} (hq:∀ps Hx,FrS [] H1 Hx->Hx Dl=some (.lst (ps.map V.ref))->A2 (PaIs Hx) ps (fs.map fun a=>(n,a))->Q Hx):yd7 (Itl K a) (zd9 0) tAll te Dl σ0 (upd H1 Dl (.lst [])) Q:=by
 refine zh0 (xs:=fs.map V.ref) (PwI H1 Dl Pσ (fs.map fun a=>(n,a))) ⟨[],h0,(FrS.refl).put hD,zb1,.nil⟩ ?_ ?_ ?_
 ·rintro i σ Hx hi ⟨_,_,fr,_⟩;exact SqL.of (fr _ _ wr0 ha)
 ·rintro i x σ Hx hx ⟨ps,hσ,fr,hDx,hA⟩;rw[wr3,wr6]at hx;obtain⟨y,hy,rfl⟩:=hx;have eT:(fs.map fun a=>(n,a)).take (i+1)=(fs.map fun a=>(n,a)).take i++[(n,y)]:=by
   rw[ws7,wr3,hy];rfl
  have hpl:ps.length<=fs.length:=by
   have:=hA.len;rw[wt4,lqm]at this;lia
  refine hte σ y Hx _ hσ fr fun t1 t2 h1 h2=>?_;have fn:FrS [] Hx (upd (upd Hx t1 (.tup [.str n.1,.str n.2])) t2 (.tup [.ref t1,.ref y])):=(FrS.new h1).trans (FrS.new h2);have hDn:=fn _ _ wr0 hDx;have tl:Tup _ (upd (upd (upd Hx t1 (.tup [.str n.1,.str n.2])) t2 (.tup [.ref t1,.ref y])) Dl (.lst (ps.map V.ref++[V.ref t2]))):=Tup.lst hDn;refine⟨_,hDn,zc0 (by rw[lqm];lia),ps++[t2],hset σ _ hσ,(fr.trans fn).put hD,by rw[zb1,wr9];rfl,?_⟩;rw[eT];exact(hA.pkeep ((Tup.of0 fn).trans tl)).snoc ⟨t1,tl _ _ zb1,((Tup.new h2).trans tl) _ _ zb1⟩
 ·rintro σ Hx ⟨ps,hσ,fr,hDx,hA⟩;rw[lqm,wr8 (by rw[lqm];exact wr5 _)]at hA;exact hq ps Hx fr hDx hA
inductive wc9(K:PySem.W.Frag)(vs:List V)(H:Hp)(Q:VK):Prop
 | mk(p:Addr)(ks:List (Str×List Dz))(m0:Dz)(h1:vs=[.ref p])(h2:ProgIs Z H p ks m0)(h3:∀(b:Addr)(ns:List Addr)(H':Hp),FrS [] H H'->H b=none->H' b=some (.lst (ns.map V.ref))->A2 (CaIs K H') ns ((zj6 (zh2 ks m0)).zipIdx 0)->Q (.ref b) H'):wc9 K vs H Q
def xf2(K:PySem.W.Frag):Sp:=fun vs H Q _=>wc9 K vs H Q
inductive RoI(H H1:Hp)(p fl:Addr)(L:List Bz)(σ:St)(Hx:Hp):Prop
 | mk(x2 x3 x4 x5:Option V)(ps:List Addr)(h1:σ=[some (.ref p),some (.ref fl),x2,x3,x4,x5])(h2:FrS [] H Hx)(tp:Tup H1 Hx)(h3:Hx fl=some (.lst (ps.map V.ref)))(h4:A2 (PaIs Hx) ps (zj6 L)):RoI H H1 p fl L σ Hx
inductive RoJ(H H1:Hp)(p fl:Addr)(n:Str)(e:V)(dt:Addr)(L:List Bz)(σ:St)(Hx:Hp):Prop
 | mk(x5:Option V)(ps:List Addr)(h1:σ=[some (.ref p),some (.ref fl),some (.str n),some e,some (.ref dt),x5])(h2:FrS [] H Hx)(tp:Tup H1 Hx)(h3:Hx fl=some (.lst (ps.map V.ref)))(h4:A2 (PaIs Hx) ps (zj6 L)):RoJ H H1 p fl n e dt L σ Hx
inductive NuI(K:PySem.W.Frag)(H2:Hp)(Dl:Addr)(QL:List (Fz×Nat))(i:Nat)(σ:St)(Hx:Hp):Prop
 | mk(x y:Option V)(cs:List Addr)(hσ:σ=[x,y])(fr:FrS [] H2 Hx)(hD:Hx Dl=some (.lst (cs.map V.ref)))(ha:A2 (CaIs K Hx) cs (QL.take i)):NuI K H2 Dl QL i σ Hx
theorem yf2:zd1 ["_law_program_here","_law_found","_law_name","_law_elder","_law_deeds","_law_deed_here"] ["_law_program_here"] (zc2 wq2):=⟨rfl,rfl,rfl,by decide +kernel,rfl,by decide +kernel,by decide +kernel⟩
set_option maxHeartbeats 8000000 in
theorem wh4{k:Nat}(F:Fun K "_law_numbered" "_law_numbered" wq2 f fd)(LI:Cal P w K mg base k "_law_flat" pLis (zw6 4))(me:mg "enumerate"=none):FnOk P w K mg base CX0 (k+1) f fd ["_law_program_here"] (xf2 K):=by
 obtain⟨g3,gd3,GL,bL,kL,mL⟩:=LI.ex;refine F.ok yf2 (fun vs H Q E h=>?_) (fun cdv A outer s H vs Q E hr h=>?_)
 ·obtain⟨p,ks,m0,rfl,_⟩:=h;rfl
 obtain⟨p,ks,m0,rfl,hP,q⟩:=h;have nd1:(["_law_row_here"]:List Str).Nodup:=by decide +kernel
 have nd2:(["_law_k","_law_one"]:List Str).Nodup:=by decide +kernel
 have nd3:(["_law_row_here","_law_name","_law_deed_here"]:List Str).Nodup:=by decide +kernel
 refine⟨_,zb3 (zh1 (i:=1) (N':=["_law_row_here"]) (src:=[none]) rfl yf2.nd rfl rfl ⟨rfl,by decide +kernel,by decide +kernel,rfl,rfl,rfl⟩ (zf7 (zb8 GL hr rfl mL kL bL .nil zc6 (zb0 (eT (pv 0) zb6) zb2)))
    (g:=zd9 0) (fun _ _ _ _=>zb9 (i:=0) nd1 rfl (wt1 rfl) (wz3 rfl)) (fun _ _ _ _=>zg5)
    (te:=tTup (zc5 (tTup (zc5 (tC (.str "")) (zc5 (tC (.str "")) tNil))) (zc5 (tVar 0) tNil))) (fun _ _ _ _=>zf0 (zb0 (zf0 (zb0 zd4 (zb0 zd4 zb2))) (zb0 (pv 0) zb2))))
  (zb3 (zf9 wv0 rfl (zh5 (eT (pv 0) zb6)) (zh8 (n:=3) rfl (zc1 (zb9 (i:=2) yf2.nd rfl (wz3 rfl)) (zc1 (zb9 (i:=3) yf2.nd rfl (wt1 rfl)) (zc1 (zb9 (i:=4) yf2.nd rfl (wt1 rfl)) zg2))))
   (zb7 (zf9 wv0 rfl (zh5 (pv 4)) (zb9 (i:=5) yf2.nd rfl (wz3 rfl))
    (zb7 (zg1 (zm9 wv2 vp5 vp6 zz7 (pv 1) (zb0 (zh4 (N':=["_law_row_here","_law_name","_law_deed_here"]) (src:=[none,some 2,some 5]) rfl ⟨rfl,by decide +kernel,by decide +kernel,rfl,rfl,rfl⟩ (zf7 (zb8 GL hr rfl mL kL bL .nil zc6 (zb0 (eT (pv 5) zb6) zb2)))
      (g:=zd9 0) (fun _ _ _ _=>zb9 (i:=0) nd3 rfl (wt1 rfl) (wz3 rfl)) (fun _ _ _ _=>zg5)
      (te:=tTup (zc5 (tTup (zc5 (tVar 1) (zc5 (tOp (rIxT K) (tVar 2) (tC (.int 0))) tNil))) (zc5 (tVar 0) tNil))) (fun _ _ _ _=>zf0 (zb0 (zf0 (zb0 (pv 1) (zb0 (yn8 (show IxR _ (rIxT K) from yn4) (pv 2) zb6 (fun _ _=>rfl)) zb2))) (zb0 (pv 0) zb2)))) zb2)))))))
  (zb7 (zd0 (zh4 (N':=["_law_k","_law_one"]) (src:=[none,none]) rfl ⟨rfl,by decide +kernel,by decide +kernel,rfl,rfl,rfl⟩ (xj5 rfl me (zb0 (pv 1) zb2))
    (g:=gTup K 2 (zk6 (zd9 0) (zk6 (zd9 1) gNil))) (fun _ _ _ _=>zh8 (n:=2) rfl (zc1 (zb9 (i:=0) nd2 rfl (wt1 rfl) (wz3 rfl)) (zc1 (zb9 (i:=1) nd2 rfl (wt1 rfl) (wz3 rfl)) zg2)))
    (fun _ _ _ _=>zg5)
    (te:=tTup (zc5 (tVar 0) (zc5 (tOp (rIxT K) (tVar 1) (tC (.int 0))) (zc5 (tOp (rIxT K) (tVar 1) (tC (.int 1))) tNil)))) (fun _ _ _ _=>zf0 (zb0 (pv 0) (zb0 (yn8 (show IxR _ (rIxT K) from yn4) (pv 1) zb6 (fun _ _=>rfl)) (zb0 (yn8 (show IxR _ (rIxT K) from yn4) (pv 1) zb6 (fun _ _=>rfl)) zb2)))))))),?_⟩
 first | dsimp only[cxOf,Cx.nox] | skip
 have s2:2<=sizeLine:=ws3 (zc0 (by decide));have s3:3<=sizeLine:=ws3 (zc0 (by decide));have hR:=hP.rows;have hlen:=zp5 hR;have hmany:=hP.many;obtain⟨kt,us,lt,hp,hk,hks,hKi,hM,h12⟩:=id hP;obtain⟨m1,m2,m3⟩:=id hM;refine⟨_,rfl,p,_,_,_,rfl,rfl,SqT.of hp,rfl,m0.2.1,m0.2.2.1,m0.2.2.2,rfl,m1,m2,by lia,fun la H2 f2 hla=>⟨la,rfl,⟨_,SqL.of hla⟩,fun fl hfl=>?_⟩⟩;refine yd9 (n:=(("":Str),("":Str))) (Pσ:=fun σ=>∃x,σ=[x]) hla hfl (by lia) ⟨_,rfl⟩ (by rintro σ v ⟨x,rfl⟩;exact⟨_,rfl⟩) (by
  rintro σ x H Q ⟨x0,rfl⟩ _ h;exact⟨s2,fun t1 h1=>⟨_,rfl,s2,fun t2 h2=>h t1 t2 h1 h2⟩⟩) fun ps0 H3 f3 hD3 hA3=>?_
 have f13:=f2.trans f3;have hflH:H fl=none:=yn2 f2 hfl;refine⟨_,rfl,p,_,_,_,rfl,rfl,SqT.of (f13 _ _ wr0 hp),rfl,kt,rfl,⟨_,SqT.of (f13 _ _ wr0 hk)⟩,?_⟩;refine zj4 (xs:=us.map V.ref) (fun i=>RoI H H p fl (zh2 (ks.take i) m0)) ⟨_,_,_,_,ps0,rfl,f13,Tup.of0 f13,hD3,?_⟩ ?_ ?_ ?_
 ·have e:zj6 (zh2 (ks.take 0) m0)=m0.2.2.2.map fun a=>(((("":Str),("":Str)),a):Fz):=by unfold zj6 zh2;simp
  rw[e];exact hA3
 ·rintro i σ Hx hi ⟨_,_,_,_,_,_,fr,_⟩;exact SqT.of (fr _ _ wr0 hk)
 ·rintro i x σ Hx hx ⟨_,_,_,_,ps,rfl,fr,_,hra,hA⟩;rw[wr3,wr6]at hx;obtain⟨u,hu,rfl⟩:=hx;have hi:i<ks.length:=by rw[←hks];exact(wr1.mp hu).1
  have hy:ks[i]?=some ks[i]:=wq9 hi;obtain⟨e,dt,ds,d1,d2,d3,d4,d5⟩:=hKi i u _ hu hy;have eL:zh2 (ks.take (i+1)) m0=zh2 (ks.take i) m0++zg4 ks[i]:=by
   unfold zh2;rw[ws7,hy,vc4,List.cons_append];simp
  have hsub:∀z∈zh2 (ks.take i) m0++zg4 ks[i],z∈zh2 ks m0:=by
   intro z hz;rw[←eL]at hz;unfold zh2 at hz ⊢;rcases ws5.mp hz with rfl | hz
   ·exact .head _
   ·obtain⟨y,hy',hz'⟩:=vn8.mp hz;exact .tail _ (vn8.mpr ⟨y,vd2 hy',hz'⟩)
  have hbl:(zh2 (ks.take i) m0++zg4 ks[i]).length<=1000:=by
   rw[←eL];refine wx6 ?_ hmany;unfold zh2;rw[wt3,wt3];have:ks=ks.take (i+1)++ks.drop (i+1):=(vc2 _ _).symm
   conv=>rhs;rw[this]
   rw[vc4,wr2];lia
  rw[eL];generalize ks[i]=y at d1 d3 d4 hsub hbl;refine⟨u,_,rfl,SqT.of (fr _ _ wr0 d1),rfl,_,_,rfl,_,_,rfl,_,_,rfl,rfl,?_⟩;refine⟨_,rfl,dt,rfl,⟨_,SqT.of (fr _ _ wr0 d2)⟩,?_⟩;refine zj4 (xs:=ds.map V.ref) (fun j=>RoJ H H p fl y.1 e dt (zh2 (ks.take i) m0++(zg4 y).take j)) ⟨_,ps,rfl,fr,Tup.of0 fr,hra,by rw[List.take_zero,wx1];exact hA⟩ ?_ ?_ ?_
  ·rintro j σ Hy hj ⟨_,_,_,fy,_⟩;exact SqT.of (fy _ _ wr0 d2)
  ·rintro j x σ Hy hx ⟨_,ps,rfl,fy,_,hra,hA⟩;rw[wr3,wr6]at hx;obtain⟨g,hg,rfl⟩:=hx;have hj:j<y.2.length:=by rw[←d3];exact(wr1.mp hg).1
   have hz:y.2[j]?=some y.2[j]:=wq9 hj;obtain⟨pv',gv',g1,g2⟩:=d4 j g _ hg hz;have eD:(zg4 y).take (j+1)=(zg4 y).take j++[((y.1,y.2[j].1),y.2[j])]:=by
    have:(zg4 y)[j]?=some ((y.1,y.2[j].1),y.2[j]):=by unfold zg4;rw[wr3,hz];rfl
    rw[ws7,this];rfl
   have hps:ps.length<=80000:=by
    have h1:=hA.len;have h2:=zp5 (H:=H) (L:=zh2 (ks.take i) m0++(zg4 y).take j) fun z hz=>by
     refine hR z (hsub z ?_);rcases wt9.mp hz with hz | hz
     ·exact wt9.mpr (.inl hz)
     ·exact wt9.mpr (.inr (vd2 hz))
    have h3:(zh2 (ks.take i) m0++(zg4 y).take j).length<=1000:=by
     refine wx6 ?_ hbl;rw[wr2,wr2,wt4];lia
    lia
   rw[eD,←wt7];generalize y.2[j]=z at g1 g2;obtain⟨r1,r2,r3⟩:=g2.keep (Tup.of0 fy);refine⟨_,rfl,.inl ⟨rfl,_,SqL.of hra⟩,_,rfl,g,_,_,_,rfl,rfl,SqT.of (fy _ _ wr0 g1),rfl,z.2.1,z.2.2.1,z.2.2.2,rfl,r1,r2,by lia,fun lb H4 f4 hlb=>⟨lb,rfl,⟨_,SqL.of hlb⟩,fun De hDe=>?_⟩⟩;refine yd9 (n:=(y.1,z.1)) (Pσ:=fun σ=>∃x,σ=[x,some (.str y.1),some (.ref g)]) hlb hDe (by lia) ⟨_,rfl⟩ (by rintro σ v ⟨x,rfl⟩;exact⟨_,rfl⟩) (by
    rintro σ x Hq Q ⟨x0,rfl⟩ fq h;exact⟨_,rfl,_,rfl,g,_,_,_,rfl,rfl,SqT.of (((fy.trans f4).trans fq) _ _ wr0 g1),rfl,s2,fun t1 h1=>⟨_,rfl,s2,fun t2 h2=>h t1 t2 h1 h2⟩⟩) fun pn H5 f5 hD5 hA5=>?_
   have f45:=f4.trans f5;have hpn:=hA5.len;rw[lqm]at hpn;have hr5:=f45 _ _ wr0 hra;have tl:Tup H5 (upd H5 fl (.lst (ps.map V.ref++pn.map V.ref))):=Tup.lst hr5;refine⟨fl,De,_,_,rfl,rfl,hr5,hD5,ws3 (yf9 (by rw[lqm,lqm];lia)),?_⟩;have fz:FrS [] H (upd H5 fl (.lst (ps.map V.ref++pn.map V.ref))):=(fy.trans f45).put hflH;refine⟨_,ps++pn,rfl,fz,Tup.of0 fz,by rw[zb1,wr9],?_⟩;rw[xg4];have e1:zj6 [((y.1,z.1),z)]=z.2.2.2.map fun a=>((y.1,z.1),a):=by unfold zj6;simp
   rw[e1];exact(hA.pkeep ((Tup.of0 f45).trans tl)).app (hA5.pkeep tl)
  ·rintro σ Hy ⟨_,ps,rfl,fy,ty,hra,hA⟩;have el:(zg4 y).take (ds.map V.ref).length=zg4 y:=wr8 (by unfold zg4;rw[lqm,lqm];lia);rw[el]at hA;exact⟨_,_,_,_,ps,rfl,fy,ty,hra,hA⟩
 rintro σ H6 ⟨_,_,_,_,ps,rfl,f6,_,hra,hA⟩;rw[lqm,hks,wr8 (wr5 _)]at hA;have hpl:=hA.len;refine⟨_,rfl,fl,_,rfl,SqL.of hra,fun Du hDu=>?_⟩;refine xd6 (xs:=ps.map V.ref) (NuI K H6 Du ((zj6 (zh2 ks m0)).zipIdx 0)) ⟨_,_,[],rfl,(FrS.refl).put hDu,zb1,.nil⟩ ?_ ?_ ?_
 ·rintro i σ Hx hi ⟨_,_,_,_,fr,_⟩;exact SqL.of (fr _ _ wr0 hra)
 ·rintro i x pt σ Hx hx ⟨_,_,cs,rfl,fr,hDx,hC⟩ hpt;rw[wr3,wr6]at hx;obtain⟨u,hu,rfl⟩:=hx;obtain⟨z,hz,bd,u1,u2⟩:=hA.get hu;have tpx:Tup H6 Hx:=Tup.of0 fr;have tpt:Tup Hx (upd Hx pt (.tup [.int (i:Nat),.ref u])):=Tup.new hpt;have hzi:((zj6 (zh2 ks m0)).zipIdx 0)[i]?=some (z,i):=by rw[List.getElem?_zipIdx,hz];simp
  have hcl:cs.length<=80000:=by
   have h1:=hC.len;rw[wt4,vk7]at h1;lia
  have hu6:=tpt _ _ (tpx _ _ u1);refine⟨pt,_,rfl,SqT.of zb1,rfl,_,_,rfl,_,_,rfl,rfl,?_⟩;refine⟨_,rfl,_,rfl,u,_,_,_,rfl,rfl,SqT.of hu6,rfl,_,rfl,u,_,_,_,rfl,rfl,SqT.of hu6,rfl,s3,fun pe hpe=>?_⟩;have fn:FrS [] Hx (upd (upd Hx pt (.tup [.int (i:Nat),.ref u])) pe (.tup [.int (i:Nat),.ref bd,.ref z.2])):=(FrS.new hpt).trans (FrS.new hpe);have hDn:=fn _ _ wr0 hDx;have tl:Tup _ (upd (upd (upd Hx pt (.tup [.int (i:Nat),.ref u])) pe (.tup [.int (i:Nat),.ref bd,.ref z.2])) Du (.lst (cs.map V.ref++[V.ref pe]))):=Tup.lst hDn;have tn:=(Tup.of0 fn).trans tl;refine⟨_,hDn,yf9 (by rw[lqm];lia),_,_,cs++[pe],rfl,(fr.trans fn).put hDu,by rw[zb1,wr9];rfl,?_⟩;rw[ws7,hzi];exact(hC.ckeep tn).snoc ⟨bd,tl _ _ zb1,.inl ((tpx.trans tn) _ _ u2)⟩
 ·rintro σ H7 ⟨_,_,cs,rfl,f7,hD7,hC7⟩;rw[lqm,hpl]at hC7;rw[wr8 (by rw[vk7];exact wr5 _)]at hC7;exact q Du cs H7 (f6.trans f7) (yn2 f6 hDu) hD7 hC7
abbrev yr4:Stmt:=top 4
abbrev Kd:=List (Str×Option Str×List Str)
def DeedAt(H:Hp)(dt:Addr)(ds:List Str):Prop:=∃fs:List Addr,H dt=some (.tup (fs.map V.ref))/\fs.length=ds.length/\∀(i:Nat) f d,fs[i]?=some f->ds[i]?=some d->∃rest,H f=some (.tup (.str d::rest))
def DeedsAt(H:Hp)(p:Addr)(kd:Kd):Prop:=∃(kt:Addr)(ts:List Addr)(x y:V),H p=some (.tup [.ref kt,x,y])/\H kt=some (.tup (ts.map V.ref))/\ts.length=kd.length/\
 ∀(j:Nat) t z,ts[j]?=some t->kd[j]?=some z->∃dt,H t=some (.tup [.str z.1,eldV z.2.1,.ref dt])/\DeedAt H dt z.2.2
def HasD(kd:Kd)(n d:Str):Prop:=∃z∈kd,z.1=n/\d∈z.2.2
theorem zs3:zd1 ["program","kind","deed","name","elder","deeds","found"] ["program","kind","deed"] (zc2 yr4):=⟨rfl,rfl,rfl,by decide +kernel,rfl,by decide +kernel,by decide +kernel⟩
def yk2:Sp:=fun vs H Q _=>∃(p:Addr)(n d:Str)(kd:Kd),vs=[.ref p,.str n,.str d]/\DeedsAt H p kd/\(HasD kd n d->∀f,Q (.ref f) H)/\(¬HasD kd n d->Q .non H)
theorem xp8{k:Nat}(F:Fun K "deed_of" "deed_of" yr4 f fd):FnOk P w K mg base CX0 (k+1) f fd ["program","kind","deed"] yk2:=by
 refine F.ok zs3 (fun vs H Q E h=>?_) (fun cdv A outer s H vs Q E hr h=>?_)
 ·obtain⟨p,n,d,kd,rfl,_⟩:=h;rfl
 obtain⟨p,n,d,kd,rfl,⟨kt,ts,x,y,hp,hk,hlen,hts⟩,q1,q2⟩:=h;refine⟨_,zb3 (zf9 wv0 rfl (zh5 (eT (pv 0) zb6))
   (zh8 (n:=3) rfl (zc1 (zb9 (i:=3) zs3.nd rfl (wt1 rfl)) (zc1 (zb9 (i:=4) zs3.nd rfl (wt1 rfl)) (zc1 (zb9 (i:=5) zs3.nd rfl (wt1 rfl)) zg2))))
   (zb7 (zh3 (zc4 zp3 (pv 3) (pv 1) (zd6 _))
    (zb7 (zf9 wv0 rfl (zh5 (pv 5)) (zb9 (i:=6) zs3.nd rfl (wt1 rfl))
     (zb7 (zh3 (zc4 zp3 (eT (pv 6) zb6) (pv 2) (zd6 _)) (zb7 (zd0 (pv 6))) zd5)))) zd5)))
  (zb7 (zd0 yq3)),?_⟩
 refine⟨_,rfl,p,_,_,_,rfl,rfl,SqT.of hp,rfl,kt,rfl,⟨_,SqT.of hk⟩,?_⟩;have none_at:∀i,HasD (kd.take i) n d->HasD kd n d:=fun i ⟨z,hz,h⟩=>⟨z,vd2 hz,h⟩;refine zj4 (xs:=ts.map V.ref) (fun i σ Hx=>Hx=H/\(∃a b c e,σ=[some (.ref p),some (.str n),some (.str d),a,b,c,e])/\¬HasD (kd.take i) n d) ⟨rfl,⟨_,_,_,_,rfl⟩,fun⟨z,hz,_⟩=>by cases hz⟩ (fun i σ Hx _ h=>by rw[h.1];exact SqT.of hk) ?_ ?_
 ·rintro i x σ Hx hx ⟨rfl,⟨a0,b0,c0,e0,rfl⟩,hno⟩;rw[wr3,wr6]at hx;obtain⟨t,ht,rfl⟩:=hx;have hi:i<kd.length:=by rw[←hlen];exact(wr1.mp ht).1
  have hz:kd[i]?=some kd[i]:=wq9 hi;obtain⟨dt,h1,fs,h2,hfl,hfs⟩:=hts i t _ ht hz;have hsucc:(kd[i].1=n/\d∈kd[i].2.2->False)->¬HasD (kd.take (i+1)) n d:=fun hh ⟨z,hm,e1,e2⟩=>by
   rw[ws7,hz]at hm;rcases wt9.mp hm with hm | hm
   ·exact hno ⟨z,hm,e1,e2⟩
   ·have e:z=kd[i]:=by simpa using hm
    subst e;exact hh ⟨e1,e2⟩
  refine⟨t,_,rfl,SqT.of h1,rfl,_,_,rfl,_,_,rfl,_,_,rfl,rfl,?_⟩;refine⟨_,rfl,_,rfl,rfl,_,rfl,?_⟩;refine ite2 (fun c=>?_) (fun c=>?_)
  ·have en:kd[i].1=n:=V.str.inj (ws0 c);refine⟨_,rfl,dt,rfl,⟨_,SqT.of h2⟩,?_⟩;refine zj4 (xs:=fs.map V.ref) (fun j σ Hy=>Hy=Hx/\(∃e,σ=[some (.ref p),some (.str n),some (.str d),some (.str kd[i].1),some (eldV kd[i].2.1),some (.ref dt),e])/\d∉kd[i].2.2.take j) ⟨rfl,⟨_,rfl⟩,fun z=>by cases z⟩ (fun j σ Hy _ h=>by rw[h.1];exact SqT.of h2) ?_ ?_
   ·rintro j x σ Hy hx ⟨rfl,⟨e1,rfl⟩,hnd⟩;rw[wr3,wr6]at hx;obtain⟨g,hg,rfl⟩:=hx;have hj:j<kd[i].2.2.length:=by rw[←hfl];exact(wr1.mp hg).1
    have hd:kd[i].2.2[j]?=some kd[i].2.2[j]:=wq9 hj;obtain⟨rest,hr'⟩:=hfs j g _ hg hd;refine⟨_,rfl,g,_,_,.str kd[i].2.2[j],rfl,rfl,SqT.of hr',yc2 _ _,_,rfl,rfl,_,rfl,?_⟩;refine ite2 (fun c=>?_) (fun c=>?_)
    ·have ed:kd[i].2.2[j]=d:=V.str.inj (ws0 c);exact⟨_,rfl,q1 ⟨kd[i],ww5 hi,en,ed▸ww5 hj⟩ g⟩
    ·have ed:kd[i].2.2[j]≠d:=fun z=>c (wt8 (by rw[z]))
     refine⟨rfl,⟨_,rfl⟩,fun hm=>?_⟩;rw[ws7,hd]at hm;rcases wt9.mp hm with hm | hm
     ·exact hnd hm
     ·have e:d=kd[i].2.2[j]:=by simpa using hm
      exact ed e.symm
   ·rintro σ Hy ⟨rfl,⟨e1,rfl⟩,hnd⟩;rw[lqm,hfl,wr8 (wr5 _)]at hnd;exact⟨rfl,⟨_,_,_,_,rfl⟩,hsucc fun h=>hnd h.2⟩
  ·have en:kd[i].1≠n:=fun z=>c (wt8 (by rw[z]))
   exact⟨rfl,⟨_,_,_,_,rfl⟩,hsucc fun h=>en h.1⟩
 ·rintro σ Hx ⟨rfl,⟨a0,b0,c0,e0,rfl⟩,hno⟩;rw[lqm,hlen,wr8 (wr5 _)]at hno;exact q2 hno
abbrev ys9:Stmt:=top 5
def trOf(kd:Kd):Tr:=kd.map fun z=>(z.1,z.2.1)
theorem DeedsAt.kinds{H:Hp}{p:Addr}{kd:Kd}(h:DeedsAt H p kd):KindsAt H p (trOf kd):=by
 obtain⟨kt,ts,x,y,hp,hk,hl,hts⟩:=h;refine⟨kt,ts,x,y,hp,hk,by unfold trOf;rw[lqm];exact hl,fun j t z ht hz=>?_⟩;unfold trOf at hz;rw[wr3,wr6]at hz;obtain⟨z',hz',rfl⟩:=hz;obtain⟨dt,h1,_⟩:=hts j t z' ht hz';exact⟨_,h1⟩
theorem DeedsAt.keep{H H':Hp}{p:Addr}{kd:Kd}(h:DeedsAt H p kd)(f:FrS [] H H'):DeedsAt H' p kd:=by
 obtain⟨kt,ts,x,y,hp,hk,hl,hts⟩:=h;refine⟨kt,ts,x,y,f _ _ wr0 hp,f _ _ wr0 hk,hl,fun j t z ht hz=>?_⟩;obtain⟨dt,h1,fs,h2,h3,h4⟩:=hts j t z ht hz;refine⟨dt,f _ _ wr0 h1,fs,f _ _ wr0 h2,h3,fun i g d hg hd=>?_⟩;obtain⟨rest,h5⟩:=h4 i g d hg hd;exact⟨rest,f _ _ wr0 h5⟩
instance decHasD (kd:Kd) (n d:Str):Decidable (HasD kd n d):=by unfold HasD;infer_instance
def ansF(kd:Kd)(d:Str)(l:List Str):Option Str:=l.find? fun x=>decide (HasD kd x d)
theorem wm1{kd:Kd}{d z:Str}{l:List Str}{i:Nat}(hz:l[i]?=some z)(hno:∀x∈l.take i,¬HasD kd x d)(hh:HasD kd z d):ansF kd d l=some z:=by
 obtain⟨hi,rfl⟩:=wr1.mp hz;unfold ansF;rw[List.find?_eq_some_iff_append];refine⟨wt8 hh,l.take i,l.drop (i+1),?_,fun x hx=>by simpa using hno x hx⟩;rw[←vc6 hi,vc2]
theorem wm6{K:PySem.W.Frag}{a:Addr}{xs:List V}{g:TG}{tb:TS}{D:Ends}{σ:St}{H:Hp}(Pv:Nat->St->Hp->Prop)(h0:Pv 0 σ H)(hl:∀i σ H,i<=xs.length->Pv i σ H->SqT K H a xs)
  (hs:∀i x σ H,xs.reverse[i]?=some x->Pv i σ H->g x σ H fun σ2 H2=>tb {D with nx:=Pv (i+1),ct:=Pv (i+1),bk:=D.nx} σ2 H2) (hd:∀σ H,Pv xs.length σ H->D.nx σ H):
  ∃W:Nat->Nat->St->Hp->Prop,(∃m,W 0 m σ H)/\∀i m σ H,W i m σ H->
   ((Itrv K a xs.length).stop i H/\D.nx σ H)∨((Itrv K a xs.length).go i H/\∃N:St->Hp->Prop,(∀σ' H',N σ' H'->∃m',m'<m/\W (i+1) m' σ' H')/\∀x H',(Itrv K a xs.length).yld i H x H'->g x σ H' fun σ2 H2=>tb {D with nx:=N,ct:=N,bk:=D.nx} σ2 H2):=by
 refine⟨fun i m σ H=>m=xs.length-i/\i<=xs.length/\Pv i σ H,⟨xs.length,by simp,wt6 _,h0⟩,?_⟩;rintro i m σ H ⟨rfl,hi,p⟩;have q:=hl i σ H hi p
 by_cases hlt:i<xs.length
 ·refine .inr ⟨⟨xs,xs.reverse[i]'(by rw[vk1];exact hlt),q,rfl,wq9 _⟩,Pv (i+1),fun σ' H' p'=>⟨xs.length-(i+1),by(clear hi;lia),rfl,hlt,p'⟩,fun x H' y=>?_⟩;obtain⟨e,y⟩:=y;subst e;exact hs i x σ _ (y xs q) p
 ·have e:i=xs.length:=by lia
  subst e;exact .inl ⟨⟨xs,q,rfl,wr5 _⟩,hd σ H p⟩
theorem yw2:zd1 ["program","kind","deed","name"] ["program","kind","deed"] (zc2 ys9):=⟨rfl,rfl,rfl,by decide +kernel,rfl,by decide +kernel,by decide +kernel⟩
inductive yz9(vs:List V)(H:Hp)(Q:VK):Prop
 | mk(p:Addr)(n d:Str)(kd:Kd)(l:List Str)(h1:vs=[.ref p,.str n,.str d])(h2:DeedsAt H p kd)(h3:TrOk (trOf kd))(h4:(trOf kd).length<=12)(h5:Up (trOf kd) n l)(h6:∀(H':Hp),FrS [] H H'->Q (eldV (ansF kd d l)) H'):yz9 vs H Q
def zw5:Sp:=fun vs H Q _=>yz9 vs H Q
theorem xs3{k:Nat}(F:Fun K "answer" "answer" ys9 f fd)(T:Cal P w K mg base k "elders" ["program","kind"] zx0)(TD:Cal P w K mg base k "deed_of" ["program","kind","deed"] yk2)(mr:mg "reversed"=none):
  FnOk P w K mg base CX0 (k+1) f fd ["program","kind","deed"] zw5:=by
 obtain⟨g,gd,GT,bT,kT,mT⟩:=T.ex;obtain⟨g2,gd2,GD,bD,kD,mD⟩:=TD.ex;refine F.ok yw2 (fun vs H Q E h=>?_) (fun cdv A outer s H vs Q E hr h=>?_)
 ·obtain⟨p,n,d,kd,l,rfl,_⟩:=h;rfl
 obtain⟨p,n,d,kd,l,rfl,hK,ok,h12,hup,q⟩:=h;refine⟨_,zb3 (zf9 wv0 rfl (pi_rev rfl mr (zb0 (zb8 GT hr rfl mT kT bT .nil zc6 (zb0 (pv 0) (zb0 (pv 1) zb2))) zb2)) (zb9 (i:=3) yw2.nd rfl (wt1 rfl))
   (zb7 (zh3 (zs5 (zt8 (zb8 GD hr rfl mD kD bD .nil zc6 (zb0 (pv 0) (zb0 (pv 3) (zb0 (pv 2) zb2)))))) (zb7 (zd0 (pv 3))) zd5)))
  (zb7 (zd0 yq3)),?_⟩
 refine⟨_,rfl,_,rfl,p,n,trOf kd,l,rfl,hK.kinds,ok,h12,hup,fun a H' fr ha hH'=>?_⟩;refine⟨a,_,rfl,SqT.of hH',?_⟩;refine wm6 (xs:=l.reverse.map V.str) (fun i σ Hx=>Hx=H'/\(∃e,σ=[some (.ref p),some (.str n),some (.str d),e])/\∀x∈l.take i,¬HasD kd x d) ⟨rfl,⟨_,rfl⟩,fun z hz=>by cases hz⟩ (fun i σ Hx _ h=>by rw[h.1];exact SqT.of hH') ?_ ?_
 ·rintro i x σ Hx hx ⟨rfl,⟨e0,rfl⟩,hno⟩;rw[←List.map_reverse,List.reverse_reverse,wr3,wr6]at hx;obtain⟨z,hz,rfl⟩:=hx;refine⟨_,rfl,_,rfl,_,rfl,p,z,d,kd,rfl,hK.keep fr,fun hh g=>?_,fun hh=>?_⟩
  ·refine⟨_,rfl,?_⟩;show if (!decide (V.ref g=V.non))=true then _ else _
   rw[ww4 (by simp)];refine⟨_,rfl,?_⟩;have:=q _ fr;rw[wm1 hz hno hh]at this;exact this
  ·refine⟨_,rfl,?_⟩;show if (!decide (V.non=V.non))=true then _ else _
   rw[wv5 (by simp)];refine⟨rfl,⟨_,rfl⟩,fun x hx=>?_⟩;rw[ws7,hz]at hx;rcases wt9.mp hx with hx | hx
   ·exact hno x hx
   ·have e:x=z:=by simpa using hx
    rw[e];exact hh
 ·rintro σ Hx ⟨rfl,⟨e0,rfl⟩,hno⟩;rw[lqm,vk1,wr8 (wr5 _)]at hno;have e:ansF kd d l=none:=by
   unfold ansF;rw[vq5];exact fun x hx=>by simpa using hno x hx
  have:=q _ fr;rw[e]at this;exact this
def kdOf(ks:List (Str×List Dz))(tr:Tr):Kd:=(tr.zip ks).map fun q=>(q.1.1,q.1.2,q.2.2.map (·.1))
theorem xg9{ks:List (Str×List Dz)}{tr:Tr}(nm:ks.map (·.1)=tr.map (·.1)):ks.length=tr.length:=by
 have:=wx5 List.length nm;rwa [lqm,lqm]at this
theorem kd_at{ks:List (Str×List Dz)}{tr:Tr}(nm:ks.map (·.1)=tr.map (·.1)){j:Nat}{z:Str×Option Str×List Str}(h:(kdOf ks tr)[j]?=some z):∃y,ks[j]?=some y/\tr[j]?=some (z.1,z.2.1)/\z.2.2=y.2.map (·.1)/\y.1=z.1:=by
 unfold kdOf at h;rw[wr3,wr6]at h;obtain⟨q,hq,rfl⟩:=h;rw[vh8]at hq;have e1:(ks.map (·.1))[j]?=some q.2.1:=by rw[wr3,hq.2];rfl
 rw[nm,wr3,hq.1]at e1;exact⟨q.2,hq.2,hq.1,rfl,(wx7 e1).symm⟩
theorem tr_kd{ks:List (Str×List Dz)}{tr:Tr}(nm:ks.map (·.1)=tr.map (·.1)):trOf (kdOf ks tr)=tr:=by
 have hl:=xg9 nm;unfold trOf kdOf;rw[vc8];refine vq8 fun i=>?_;rw[wr3];rcases vj7 i tr.length with hi | hi
 ·rw[wq9 (l:=tr.zip ks) (by rw[vm5];lia),wq9 hi,List.getElem_zip];rfl
 ·rw[vf2 hi,vf2 (by rw[vm5];lia)];rfl
theorem has_kd{Z:Str->Str->Prop}{ks:List (Str×List Dz)}{tr:Tr}(L:Lnk Z ks tr){n d:Str}(h:∃y∈ks,y.1=n/\∃z∈y.2,z.1=d):HasD (kdOf ks tr) n d:=by
 obtain⟨y,hy,ey,z,hz,ez⟩:=h;obtain⟨j,hj⟩:=ww7.mp hy;have hjl:=(wr1.mp hj).1;have hl:=xg9 L.nm;have ht:tr[j]?=some tr[j]:=wq9 (by lia);have hk:(kdOf ks tr)[j]?=some (tr[j].1,tr[j].2,y.2.map (·.1)):=by
  unfold kdOf;have e0:(tr.zip ks)[j]?=some (tr[j],y):=vh8.mpr ⟨ht,hj⟩;rw[wr3,e0];rfl
 have en:y.1=tr[j].1:=by
  have e1:(ks.map (·.1))[j]?=some y.1:=by rw[wr3,hj];rfl
  rw[L.nm,wr3,ht]at e1;exact(wx7 e1).symm
 exact⟨_,ws4 hk,by rw[←ey,en],by rw[←ez];exact ws2.mpr ⟨z,hz,rfl⟩⟩
theorem ProgIs.deeds{Z:Str->Str->Prop}{H:Hp}{p:Addr}{ks:List (Str×List Dz)}{m0:Dz}{tr:Tr}(h:ProgIs Z H p ks m0)(hK:KindsAt H p tr)(nm:ks.map (·.1)=tr.map (·.1)):DeedsAt H p (kdOf ks tr):=by
 obtain⟨kt,us,lt,h1,h2,h3,h4,h5,h6⟩:=h;obtain⟨kt',ts,x,y,g1,g2,g3,g4⟩:=hK;rw[h1]at g1;have e1:kt=kt':=by
  injection g1 with g1;injection g1 with g1;injection g1 with g1 _;exact V.ref.inj g1
 subst e1;rw[h2]at g2;have e2:us=ts:=by
  injection g2 with g2;injection g2 with g2;exact yh4 g2
 subst e2;have hl:=xg9 nm;have hkl:(kdOf ks tr).length=tr.length:=by unfold kdOf;rw[lqm,vm5];lia
 refine⟨kt,us,lt,.ref m0.2.1,h1,h2,by lia,fun j u z hu hz=>?_⟩;obtain⟨yy,hy,ht,e3,e4⟩:=kd_at nm hz;obtain⟨e,dt,fs,k1,k2,k3,k4,k5⟩:=h4 j u yy hu hy;obtain⟨v,hv⟩:=g4 j u _ hu ht;rw[k1]at hv;have e5:e=eldV z.2.1:=by
  injection hv with hv;injection hv with hv;injection hv with _ hv;injection hv with hv _
 subst e5;refine⟨dt,by rw[←e4];exact k1,fs,k2,by rw[k3,e3,lqm],fun i f d hf hd=>?_⟩;rw[e3,wr3,wr6]at hd;obtain⟨dz,hdz,rfl⟩:=hd;obtain⟨pv,gv,q1,_⟩:=k4 i f dz hf hdz;exact⟨_,q1⟩
open Classical in
noncomputable def lineOf(tr:Tr)(x:Str):List Str:=if h:∃l,Up tr x l then h.choose else []
theorem yc8{tr:Tr}(ok:TrOk tr){x:Str}{l:List Str}(h:Up tr x l):lineOf tr x=l:=by
 unfold lineOf;rw[dif_pos ⟨l,h⟩];exact Up.inj ok (Exists.choose_spec (⟨l,h⟩:∃l,Up tr x l)) h
noncomputable def ansOf(kd:Kd)(tr:Tr)(x d:Str):Option Str:=ansF kd d (lineOf tr x)
theorem Up.suffix{tr:Tr}(ok:TrOk tr){x k:Str}{l lk:List Str}(h:Up tr x l)(hk:k∈l)(g:Up tr k lk):∀n∈lk,n∈l:=by
 induction h with
 | root hi=>
  intro n hn;have e:=wv1.mp hk;subst e;rw[Up.inj ok g (.root hi)]at hn;exact hn
 | @step i n' e l' hi hb ih=>
  intro n hn;rcases ws5.mp hk with e | hk
  ·subst e;rw[Up.inj ok g (.step hi hb)]at hn;exact hn
  ·exact ww6 _ (ih hk n hn)
open Classical in
theorem zt3{Z:Str->Str->Prop}{ks:List (Str×List Dz)}{tr:Tr}(L:Lnk Z ks tr)(ok:TrOk tr){k d x:Str}{l:List Str}(hz:Z k d)(hx:Up tr x l)(hk:k∈l):∃r,ansOf (kdOf ks tr) tr x d=some r/\r∈tr.map (·.1):=by
 obtain⟨_,n,lk,hup,hn,hy⟩:=L.hz k d hz;have hnl:=Up.suffix ok hx hk hup n hn;unfold ansOf;rw[yc8 ok hx];unfold ansF;cases e:l.find? fun x=>decide (HasD (kdOf ks tr) x d)with
 | some r=>exact⟨r,rfl,hx.mem r (vh9 e)⟩
 | none=>exact absurd (wt8 (has_kd L hy)) (vq5.mp e n hnl)
theorem FrS.old0{H H':Hp}{a:Addr}(f:FrS [] H H')(h:H' a=none):H a=none:=by
 cases e:H a with
 | none=>rfl
 | some o=>rw[f a o wr0 e]at h;cases h
def mkK(H:Hp)(a:Addr):Option Str:=match H a with
 | some (.tup [.str w,_,.str k])=>if w="make" then some k else none
 | _=>none
def clK(H:Hp)(a:Addr):Option (Str×Str):=match H a with
 | some (.tup [.str w,_,_,.str k,.str d,_])=>if w="call" then some (k,d) else none
 | _=>none
theorem xw9{Z:Str->Str->Prop}{H H':Hp}{a:Addr}(h:RowIs Z H a)(f:Tup H H'):mkK H' a=mkK H a/\clK H' a=clK H a:=by
 obtain⟨w,rest,h,_,_⟩:=h;unfold mkK clK;rw[h,f _ _ h];exact⟨rfl,rfl⟩
theorem yw8{Z:Str->Str->Prop}{H:Hp}{a:Addr}{w:Str}{rest:List V}(h:H a=some (.tup (.str w::rest)))(m:w="make"->∃x k:Str,rest=[.str x,.str k]):(w="make"/\∃x k:Str,rest=[.str x,.str k]/\mkK H a=some k)∨(w≠"make"/\mkK H a=none):=by
 by_cases e:w="make"
 ·obtain⟨x,k,rfl⟩:=m e;refine .inl ⟨e,x,k,rfl,?_⟩;unfold mkK;rw[h];exact ww4 e
 ·refine .inr ⟨e,?_⟩;unfold mkK;rw[h]
  split
  ·rename_i w' k' h'
   injection h' with h';injection h' with h';injection h' with h' _;rw[wv5];rw[←V.str.inj h'];exact e
  ·rfl
theorem zx3{Z:Str->Str->Prop}{H:Hp}{a:Addr}{w:Str}{rest:List V}(h:H a=some (.tup (.str w::rest)))(c:w="call"->CallR Z H a):(w="call"/\∃(x y k d:Str)(g:Addr),rest=[.str x,.str y,.str k,.str d,.ref g]/\clK H a=some (k,d)/\Z k d)∨(w≠"call"/\clK H a=none):=by
 by_cases e:w="call"
 ·obtain⟨x,y,k,d,g,ss,h2,_,_,hz⟩:=c e;have h3:=h;rw[h2]at h3;injection h3 with h3;injection h3 with h3;injection h3 with _ h3;refine .inl ⟨e,x,y,k,d,g,h3.symm,?_,hz⟩;unfold clK;rw[h2];exact ww4 rfl
 ·refine .inr ⟨e,?_⟩;unfold clK;rw[h]
  split
  ·rename_i w' k' d' h'
   injection h' with h';injection h' with h';injection h' with h' _;rw[wv5];rw[←V.str.inj h'];exact e
  ·rfl
def mkL(H:Hp)(ts:List Str)(a:Addr):List Str:=match mkK H a with
 | some k=>if k∈ts then [k] else []
 | none=>[]
noncomputable def clL(H:Hp)(kd:Kd)(tr:Tr)(ss:List Str)(a:Addr):List (Str×Str):=match clK H a with
 | some (k,d)=>(ss.filter (below tr k)).map fun x=>((ansOf kd tr x d).getD "",d)
 | none=>[]
abbrev yh3:Stmt:=top 14
abbrev zx7:Stmt:=top 15
inductive yk8(vs:List V)(H:Hp)(Q:VK):Prop
 | mk(th a:Addr)(ts:List Str)(Z:Str->Str->Prop)(h1:vs=[.ref th,.ref a])(h2:H th=some (.tup (ts.map V.str)))(h3:RowIs Z H a)(h4:∀(l:Addr)(H':Hp),FrS [] H H'->H l=none->H' l=some (.lst ((mkL H ts a).map V.str))->Q (.ref l) H'):yk8 vs H Q
def zx8:Sp:=fun vs H Q _=>yk8 vs H Q
theorem xp9:zd1 ["there","row"] ["there","row"] (zc2 yh3):=⟨rfl,rfl,rfl,by decide +kernel,rfl,by decide +kernel,by decide +kernel⟩
theorem xc2{k:Nat}(F:Fun K "kinds_by" "kinds_by" yh3 f fd):FnOk P w K mg base CX0 (k+1) f fd ["there","row"] zx8:=by
 refine F.ok xp9 (fun vs H Q E h=>?_) (fun cdv A outer s H vs Q E hr h=>?_)
 ·obtain⟨th,a,ts,Z,rfl,_⟩:=h;rfl
 obtain⟨th,a,ts,Z,rfl,hth,⟨w,rest,ha,hc,hm⟩,q⟩:=h;refine⟨_,zb7 (zd0 (xv6 (PW.pt (zk4 (zc4 zp3 (eT (pv 1) zb6) zd4 (zd6 _)) (zk0 (zc4 (show OpR _ _ (rIn K false) from zg6) (eT (pv 1) zb6) (pv 0) rfl)))) (zd7 (zb0 (eT (pv 1) zb6) zb2)) (zd7 zb2))),?_⟩
 first | dsimp only[cxOf,Cx.nox] | skip
 have nil:mkL H ts a=[]->(tLst tNil) [some (.ref th),some (.ref a)] H Q:=fun e=>⟨wt6 _,fun l hl=>q l _ (FrS.new hl) hl (by rw[e];exact zb1)⟩
 refine⟨_,rfl,a,_,_,.str w,rfl,rfl,SqT.of ha,yc2 _ _,rfl,_,rfl,?_⟩;rcases yw8 (Z:=Z) ha hm with ⟨rfl,x,kk,rfl,e⟩ | ⟨n,e⟩
 ·refine iteT ?_;refine⟨_,rfl,a,_,_,.str kk,rfl,rfl,SqT.of ha,rfl,_,rfl,th,_,rfl,.inr (SqT.of hth),rfl,zf8 _,_,rfl,?_⟩;rw[zj8];refine ite2 (fun c=>?_) (fun c=>?_)
  ·have c:kk∈ts:=by simpa using c
   refine⟨_,rfl,a,_,_,.str kk,rfl,rfl,SqT.of ha,rfl,?_⟩;refine⟨by show 1<=sizeLine;exact ws3 (zc0 (by decide)),fun l hl=>q l _ (FrS.new hl) hl ?_⟩;have e2:mkL H ts a=[kk]:=by unfold mkL;rw[e];exact ww4 c
   rw[e2,zb1];rfl
  ·have c:kk∉ts:=by simpa using c
   refine nil ?_;unfold mkL;rw[e];exact wv5 c
 ·have e1:(decide (V.str w=V.str "make"))=false:=wv8 fun z=>n (V.str.inj z);show if (decide (V.str w=V.str "make"))=true then _ else _
  rw[e1];refine iteF (iteF (nil ?_));unfold mkL;rw[e]
inductive yg2(vs:List V)(H:Hp)(Q:VK):Prop
 | mk(p kl a:Addr)(ks:List (Str×List Dz))(tr:Tr)(ss:List Str)(Z:Str->Str->Prop)(h1:vs=[.ref p,.ref kl,.ref a])(h2:DeedsAt H p (kdOf ks tr))(h3:Lnk Z ks tr)(h4:TrOk tr)(h5:tr.length<=12)(h6:H kl=some (.lst (ss.map V.str)))(h7:∀x∈ss,∃l,Up tr x l)(h8:ss.length<=64)(h9:RowIs Z H a)
  (h10:∀(l:Addr)(bs:List Addr)(H':Hp),FrS [] H H'->H l=none->H' l=some (.lst (bs.map V.ref))->A2 (fun b (n:Str×Str)=>H' b=some (.tup [.str n.1,.str n.2])) bs (clL H (kdOf ks tr) tr ss a)->Q (.ref l) H'):yg2 vs H Q
def zt9:Sp:=fun vs H Q _=>yg2 vs H Q
inductive BbI(H1:Hp)(p Dl a:Addr)(F:Str->Str×Str)(zs:List Str)(i:Nat)(σ:St)(Hx:Hp):Prop
 | mk(x:Option V)(bs:List Addr)(hσ:σ=[x,some (.ref p),some (.ref a)])(fr:FrS [] H1 Hx)(hD:Hx Dl=some (.lst (bs.map V.ref)))(ha:A2 (fun b (n:Str×Str)=>Hx b=some (.tup [.str n.1,.str n.2])) bs ((zs.take i).map F)):BbI H1 p Dl a F zs i σ Hx
abbrev zs1:List Str:=["program","kinds","row"]
theorem xc1:zd1 zs1 zs1 (zc2 zx7):=⟨rfl,rfl,rfl,by decide +kernel,rfl,by decide +kernel,by decide +kernel⟩
theorem yr1{k:Nat}(F:Fun K "bodies_by" "bodies_by" zx7 f fd)(AN:Cal P w K mg base k "answer" ["program","kind","deed"] zw5)(AB:Cal P w K mg base k "all_below" xt7 xp7):FnOk P w K mg base CX0 (k+1) f fd zs1 zt9:=by
 obtain⟨g,gd,GA,bA,kA,mA⟩:=AN.ex;obtain⟨g2,gd2,GB,bB,kB,mB⟩:=AB.ex;refine F.ok xc1 (fun vs H Q E h=>?_) (fun cdv A outer s H vs Q E hr h=>?_)
 ·obtain⟨p,kl,a,ks,tr,ss,Z,rfl,_⟩:=h;rfl
 obtain⟨p,kl,a,ks,tr,ss,Z,rfl,hD,hL,hT,h12,hkl,hU,h64,⟨w,rest,ha,hc,hm⟩,q⟩:=h;have nd3:(["kind","program","row"]:List Str).Nodup:=by decide +kernel
 refine⟨_,zb3 (zh3 (zc4 op_ne (eT (pv 2) zb6) zd4 (zd6 _)) (zb7 (zd0 (zd7 zb2))) zd5)
  (zb7 (zd0 (zh4 (N':=["kind","program","row"]) (src:=[none,some 0,some 2]) rfl ⟨rfl,by decide +kernel,by decide +kernel,rfl,rfl,rfl⟩ (zf7 (zb8 GB hr rfl mB kB bB .nil zc6 (zb0 (pv 0) (zb0 (pv 1) (zb0 (eT (pv 2) zb6) zb2)))))
   (g:=zd9 0) (fun _ _ _ _=>zb9 (i:=0) nd3 rfl (wt1 rfl) (wz3 rfl)) (fun _ _ _ _=>zg5)
   (te:=tTup (zc5 (zn6 zw5 [] E0 (zc5 (tVar 1) (zc5 (tVar 0) (zc5 (tOp (rIxT K) (tVar 2) (tC (.int 4))) tNil)))) (zc5 (tOp (rIxT K) (tVar 2) (tC (.int 4))) tNil)))
   (fun _ _ _ _=>zf0 (zb0 (zb8 GA hr rfl mA kA bA .nil zc6 (zb0 (pv 1) (zb0 (pv 0) (zb0 (eT (pv 2) zb6) zb2)))) (zb0 (eT (pv 2) zb6) zb2)))))),?_⟩
 first | dsimp only[cxOf,Cx.nox] | skip
 refine⟨_,rfl,a,_,_,.str w,rfl,rfl,SqT.of ha,yc2 _ _,rfl,_,rfl,?_⟩;rcases zx3 ha hc with ⟨rfl,x,y,kk,d,gg,rfl,e,hz⟩ | ⟨n,e⟩
 ·refine iteF ?_;have eT':=tr_kd hL.nm;have eC:clL H (kdOf ks tr) tr ss a=(ss.filter (below tr kk)).map fun x=>((ansOf (kdOf ks tr) tr x d).getD "",d):=by
   unfold clL;rw[e]
  rw[eC]at q;have hK:KindsAt H p tr:=by have:=hD.kinds;rwa [eT']at this
  refine⟨_,rfl,_,rfl,_,rfl,a,_,_,.str kk,rfl,rfl,SqT.of ha,rfl,p,kl,kk,tr,ss,rfl,hK,hT,h12,hkl,hU,h64,fun b H1 f1 hb=>⟨b,rfl,⟨_,SqL.of hb⟩,fun Dl hDl=>?_⟩⟩;have hfl:(ss.filter (below tr kk)).length<=64:=wx6 (vc3 _ _) h64;generalize hzs:ss.filter (below tr kk)=zs at q hb hfl;refine zh0 (xs:=zs.map V.str) (BbI H1 p Dl a (fun x=>((ansOf (kdOf ks tr) tr x d).getD "",d)) zs) ⟨_,[],rfl,(FrS.refl).put hDl,zb1,.nil⟩ ?_ ?_ ?_
  ·rintro i σ Hx hi ⟨_,_,_,fr,_⟩;exact SqL.of (fr _ _ wr0 hb)
  ·rintro i v σ Hx hv ⟨x0,bs,rfl,fr,hDx,hA⟩;rw[wr3,wr6]at hv;obtain⟨z,hzi,rfl⟩:=hv;have hzm:z∈ss.filter (below tr kk):=by rw[hzs];exact ws4 hzi
   obtain⟨hz1,hz2⟩:=wx8.mp hzm;obtain⟨l,hup⟩:=hU z hz1;have hkl':kk∈l:=by
    rw[←zr7 hT hup]at hz2;exact ws0 hz2
   obtain⟨r,er,_⟩:=zt3 hL hT hz hup hkl';have fr1:=f1.trans fr;have hax:=fr1 _ _ wr0 ha;refine⟨_,rfl,_,rfl,_,rfl,a,_,_,.str d,rfl,rfl,SqT.of hax,rfl,p,z,d,kdOf ks tr,l,rfl,hD.keep fr1,by rw[eT'];exact hT,by rw[eT'];exact h12,by rw[eT'];exact hup,fun Hy fy=>?_⟩;have e1:ansF (kdOf ks tr) d l=some r:=by
    unfold ansOf at er;rwa [yc8 hT hup]at er
   rw[e1];have hay:=fy _ _ wr0 hax;refine⟨_,rfl,a,_,_,.str d,rfl,rfl,SqT.of hay,rfl,by show 2<=sizeLine;exact ws3 (zc0 (by decide)),fun tp htp=>?_⟩;have hDy:=fy _ _ wr0 hDx;have hDt:Dl≠tp:=zb4 hDy htp;have hD6:upd Hy tp (.tup [eldV (some r),V.str d]) Dl=some (.lst (bs.map V.ref)):=by rw[zb5 hDt];exact hDy
   have hbl:bs.length<=64:=by
    have:=hA.len;rw[lqm,wt4]at this;lia
   have tp1:Tup Hx (upd (upd Hy tp (.tup [eldV (some r),V.str d])) Dl (.lst ((bs++[tp]).map V.ref))):=((Tup.of0 fy).trans (Tup.new htp)).trans (Tup.lst hD6);have ea:bs.map V.ref++[V.ref tp]=(bs++[tp]).map V.ref:=by rw[wr9];rfl
   refine⟨_,hD6,zc0 (by rw[lqm];lia),?_⟩;rw[ea];refine⟨_,bs++[tp],rfl,((fr.trans fy).trans (FrS.new htp)).put hDl,zb1,?_⟩;have e9:(zs.take (i+1)).map (fun x=>((ansOf (kdOf ks tr) tr x d).getD "",d))=(zs.take i).map (fun x=>((ansOf (kdOf ks tr) tr x d).getD "",d))++[((ansOf (kdOf ks tr) tr z d).getD "",d)]:=by
    rw[ws7,hzi,wr9];rfl
   rw[e9];refine(hA.imp fun b n h=>tp1 _ _ h).app (.cons ?_ .nil);show upd _ _ _ tp=some (.tup [.str ((ansOf (kdOf ks tr) tr z d).getD ""),.str d]);rw[er,zb5 (vb3 hDt),zb1];rfl
  ·rintro σ Hx ⟨x0,bs,rfl,fr,hDx,hA⟩;rw[lqm,wr8 (wr5 _)]at hA;exact q Dl bs Hx (f1.trans fr) (f1.old0 hDl) hDx hA
 ·have e1:(decide (V.str w=V.str "call"))=false:=wv8 fun z=>n (V.str.inj z);show if (!decide (V.str w=V.str "call"))=true then _ else _
  rw[e1];refine iteT ⟨wt6 _,fun l hl=>q l [] _ (FrS.new hl) hl zb1 ?_⟩;have eC:clL H (kdOf ks tr) tr ss a=[]:=by unfold clL;rw[e]
  rw[eC];exact .nil
section
variable{α:Type}[DecidableEq α]
def addU(l more:List α):List α:=more.foldl (fun acc k=>if k∈acc then acc else acc++[k]) l
theorem xx1(l:List α):addU l []=l:=rfl
theorem zn2(l:List α)(k:α)(more:List α):addU l (k::more)=addU (if k∈l then l else l++[k]) more:=rfl
theorem zk7:∀(more l:List α)(x:α),x∈addU l more↔x∈l∨x∈more
 | [],l,x=>by rw[xx1];simp
 | k::more,l,x=>by
  rw[zn2,zk7 more _ x]
  by_cases c:k∈l
  ·rw[ww4 c,ws5]
   constructor
   ·rintro(h | h)
    ·exact .inl h
    ·exact .inr (.inr h)
   ·rintro(h | rfl | h)
    ·exact .inl h
    ·exact .inl c
    ·exact .inr h
  ·rw[wv5 c,wt9,wv1,ws5,or_assoc]
theorem ys4:∀(more l:List α),l.Nodup->(addU l more).Nodup
 | [],l,h=>h
 | k::more,l,h=>by
  rw[zn2];refine ys4 more _ ?_
  by_cases c:k∈l
  ·rw[ww4 c];exact h
  ·rw[wv5 c];exact yd3 h c
theorem zw3:∀(more l:List α),l.length<=(addU l more).length/\((addU l more).length=l.length->addU l more=l)
 | [],l=>⟨wr5 _,fun _=>rfl⟩
 | k::more,l=>by
  rw[zn2]
  by_cases c:k∈l
  ·rw[ww4 c];exact zw3 more l
  ·rw[wv5 c];obtain⟨h1,h2⟩:=zw3 more (l++[k]);rw[wr2,ws8]at h1;exact⟨by lia,fun e=>by lia⟩
end
abbrev MN:Str×Str:=("","")
theorem wd0(ds:List Str):∀l:List Str,(l.flatMap fun r=>ds.map fun d=>(r,d)).length=l.length*ds.length
 | []=>by simp
 | r::l=>by rw[vm8,wr2,wd0 ds l,lqm,wt3,Nat.succ_mul,Nat.add_comm]
structure MdOk(H0:Hp)(kd:Kd)(tr:Tr)(L:List Fz)(ts:List Str)(come:List (Str×Str))(kinds:List Str):Prop where
 m0:MN∈come
 nk:kinds.Nodup
 nc:come.Nodup
 kt:∀k∈kinds,k∈ts/\∃q∈L,q.1∈come/\mkK H0 q.2=some k
 co:∀n∈come,n=MN∨∃q∈L,q.1∈come/\q.1≠n/\n∈clL H0 kd tr kinds q.2
def Sat(H0:Hp)(kd:Kd)(tr:Tr)(ts:List Str)(come:List (Str×Str))(kinds:List Str)(q:Fz):Prop:=q.1∈come->(∀k∈mkL H0 ts q.2,k∈kinds)/\∀n∈clL H0 kd tr kinds q.2,n∈come
theorem yg8{H0:Hp}{kd:Kd}{tr:Tr}{ss ss':List Str}{a:Addr}(h:∀x∈ss,x∈ss'):∀n∈clL H0 kd tr ss a,n∈clL H0 kd tr ss' a:=by
 intro n hn;unfold clL at hn ⊢;cases e:clK H0 a with
 | none=>rw[e]at hn;exact hn
 | some kd'=>
  obtain⟨k,d⟩:=kd';rw[e]at hn;obtain⟨x,hx,rfl⟩:=ws2.mp hn;obtain⟨h1,h2⟩:=wx8.mp hx;exact ws2.mpr ⟨x,wx8.mpr ⟨h x h1,h2⟩,rfl⟩
theorem zs8{H0:Hp}{ts:List Str}{a:Addr}{k:Str}:k∈mkL H0 ts a↔mkK H0 a=some k/\k∈ts:=by
 unfold mkL;cases e:mkK H0 a with
 | none=>exact⟨fun h=>(nomatch h),fun h=>(nomatch h.1)⟩
 | some k'=>
  show k∈(if k'∈ts then [k'] else [])↔_
  by_cases c:k'∈ts
  ·rw[ww4 c,wv1];exact⟨fun h=>⟨by rw[h],by rw[h];exact c⟩,fun h=>(wx7 h.1).symm⟩
  ·rw[wv5 c];exact⟨fun h=>(nomatch h),fun h=>absurd h.2 (by rw[←wx7 h.1];exact c)⟩
section
variable{H0:Hp}{kd:Kd}{tr:Tr}{L:List Fz}{ts:List Str}{come:List (Str×Str)}{kinds:List Str}
theorem MdOk.start:MdOk H0 kd tr L ts [MN] []:=⟨.head _,vd8,wx9.mpr ⟨wr0,vd8⟩,fun _ h=>(nomatch h),fun n h=>.inl (wv1.mp h)⟩
theorem MdOk.make(h:MdOk H0 kd tr L ts come kinds){q:Fz}(hq:q∈L)(hc:q.1∈come):MdOk H0 kd tr L ts come (addU kinds (mkL H0 ts q.2)):=by
 refine⟨h.m0,ys4 _ _ h.nk,h.nc,fun k hk=>?_,fun n hn=>?_⟩
 ·rcases(zk7 _ _ _).mp hk with hk | hk
  ·exact h.kt k hk
  ·obtain⟨e,ht⟩:=zs8.mp hk;exact⟨ht,q,hq,hc,e⟩
 ·rcases h.co n hn with e | ⟨r,hr,h1,h2,h3⟩
  ·exact .inl e
  ·exact .inr ⟨r,hr,h1,h2,yg8 (fun x hx=>(zk7 _ _ _).mpr (.inl hx)) n h3⟩
theorem MdOk.call(h:MdOk H0 kd tr L ts come kinds){q:Fz}(hq:q∈L)(hc:q.1∈come):MdOk H0 kd tr L ts (addU come (addU [] (clL H0 kd tr kinds q.2))) kinds:=by
 have mm:∀n,n∈come->n∈addU come (addU [] (clL H0 kd tr kinds q.2)):=fun n hn=>(zk7 _ _ _).mpr (.inl hn);refine⟨mm _ h.m0,h.nk,ys4 _ _ h.nc,fun k hk=>?_,fun n hn=>?_⟩
 ·obtain⟨h1,r,h2,h3,h4⟩:=h.kt k hk;exact⟨h1,r,h2,mm _ h3,h4⟩
 ·by_cases c:n∈come
  ·rcases h.co n c with e | ⟨r,hr,h1,h2,h3⟩
   ·exact .inl e
   ·exact .inr ⟨r,hr,mm _ h1,h2,h3⟩
  ·rcases(zk7 _ _ _).mp hn with hn | hn
   ·exact absurd hn c
   ·rcases(zk7 _ _ _).mp hn with hn | hn
    ·cases hn
    ·exact .inr ⟨q,hq,mm _ hc,fun e=>c (by rw[←e];exact hc),hn⟩
end
theorem MdOk.few{Z:Str->Str->Prop}{H0:Hp}{ks:List (Str×List Dz)}{tr:Tr}{L:List Fz}{ts:List Str}{come:List (Str×Str)}{kinds:List Str}(h:MdOk H0 (kdOf ks tr) tr L ts come kinds)(hL:Lnk Z ks tr)(ok:TrOk tr)(h12:tr.length<=12)(hR:∀q∈L,RowIs Z H0 q.2)(ht:ts.length<=12)(hU:∀x∈ts,∃l,Up tr x l):
  come.length<=73/\kinds.length<=12:=by
 obtain⟨ds,h6,hds⟩:=hL.dl;refine⟨?_,wx6 (yw0 kinds ts h.nk fun x hx=>(h.kt x hx).1) ht⟩;have:=yw0 come (MN::(tr.map (·.1)).flatMap fun r=>ds.map fun d=>(r,d)) h.nc fun n hn=>by
  rcases h.co n hn with rfl | ⟨q,hq,_,_,hc⟩
  ·exact .head _
  ·refine ww6 _ ?_;obtain⟨w,rest,ha,hcl,_⟩:=hR q hq;unfold clL at hc;rcases zx3 ha hcl with ⟨_,_,_,k,d,_,_,e,hz⟩ | ⟨_,e⟩
   ·rw[e]at hc;obtain⟨x,hx,rfl⟩:=ws2.mp hc;obtain⟨h1,h2⟩:=wx8.mp hx;obtain⟨l,hup⟩:=hU x (h.kt x h1).1;rw[←zr7 ok hup]at h2;obtain⟨r,er,hr⟩:=zt3 hL ok hz hup (ws0 h2);rw[er];exact vn8.mpr ⟨r,hr,ws2.mpr ⟨d,hds k d hz,rfl⟩⟩
   ·rw[e]at hc;cases hc
 have e:((tr.map (·.1)).flatMap fun r=>ds.map fun d=>(r,d)).length=tr.length*ds.length:=by
  rw[wd0,lqm]
 rw[wt3,e]at this;have h2:tr.length*ds.length<=12*6:=Nat.mul_le_mul h12 h6;lia
theorem yt3{K:PySem.W.Frag}{a:Addr}{xs:List V}{g:TG}{tt:TT}{tk te:TE}{D:Addr}{σ0:St}{H0:Hp}{Q:Hp->Prop}(Pv:Nat->St->Hp->Prop)(h0:Pv 0 σ0 H0)(hl:∀i σ H,i<=xs.length->Pv i σ H->SqL K H a xs)
  (hs:∀i x σ H,xs[i]?=some x->Pv i σ H->g x σ H fun σ2 H2=>tt σ2 H2 fun b H3=>if b=true then tk σ2 H3 fun kx H4=>te σ2 H4 fun v H5=>∃kvs k,kx=kV k/\H5 D=some (.dK kvs)/\kvs.length<sizeLine/\Pv (i+1) σ2 (upd H5 D (.dK (putK kvs k v))) else Pv (i+1) σ2 H3)
  (hd:∀σ H,Pv xs.length σ H->Q H):yx9 (Itl K a) g tt tk te D σ0 H0 Q:=by
 refine⟨fun i m σ H=>m=xs.length-i/\i<=xs.length/\Pv i σ H,⟨xs.length,by simp,wt6 _,h0⟩,?_⟩;rintro i m σ H ⟨rfl,hi,p⟩;have q:=hl i σ H hi p
 by_cases hlt:i<xs.length
 ·refine .inr ⟨⟨xs,xs[i],q,by simp[hlt]⟩,Pv (i+1),fun σ' H' p'=>⟨xs.length-(i+1),by lia,rfl,hlt,p'⟩,fun x H' y=>?_⟩;obtain⟨e,y⟩:=y;subst e;exact hs i x σ _ (y xs q) p
 ·have e:i=xs.length:=by lia
  subst e;exact .inl ⟨⟨xs,q,wr5 _⟩,hd σ H p⟩
theorem yt8{K:PySem.W.Frag}{a:Addr}{xs:List V}{g:TG}{tt:TT}{tk te:TE}{D:Addr}{σ0:St}{H0:Hp}{Q:Hp->Prop}(Pv:Nat->St->Hp->Prop)(h0:Pv 0 σ0 H0)(hl:∀i σ H,i<=xs.length->Pv i σ H->SqL K H a xs)
  (hs:∀i x σ H,xs[i]?=some x->Pv i σ H->g x σ H fun σ2 H2=>tt σ2 H2 fun b H3=>if b=true then tk σ2 H3 fun kx H4=>te σ2 H4 fun v H5=>∃kvs k b,kx=.ref b/\H5 b=some (.tup (k.map kV))/\H5 D=some (.dT kvs)/\kvs.length<sizeLine/\Pv (i+1) σ2 (upd H5 D (.dT (putK kvs k v))) else Pv (i+1) σ2 H3)
  (hd:∀σ H,Pv xs.length σ H->Q H):xj8 (Itl K a) g tt tk te D σ0 H0 Q:=by
 refine⟨fun i m σ H=>m=xs.length-i/\i<=xs.length/\Pv i σ H,⟨xs.length,by simp,wt6 _,h0⟩,?_⟩;rintro i m σ H ⟨rfl,hi,p⟩;have q:=hl i σ H hi p
 by_cases hlt:i<xs.length
 ·refine .inr ⟨⟨xs,xs[i],q,by simp[hlt]⟩,Pv (i+1),fun σ' H' p'=>⟨xs.length-(i+1),by lia,rfl,hlt,p'⟩,fun x H' y=>?_⟩;obtain⟨e,y⟩:=y;subst e;exact hs i x σ _ (y xs q) p
 ·have e:i=xs.length:=by lia
  subst e;exact .inl ⟨⟨xs,q,wr5 _⟩,hd σ H p⟩
def kvT(l:List Str):List (Key×V):=l.map fun k=>(Sum.inr k,V.bl true)
def kvP(l:List (Str×Str)):List (List Key×V):=l.map fun n=>(kyP n,V.bl true)
theorem wf6{κ α:Type}[DecidableEq κ][DecidableEq α](f:α->κ)(hf:∀a b,f a=f b->a=b)(l:List α)(k:α):putK (l.map fun a=>(f a,V.bl true)) (f k) (V.bl true)=(if k∈l then l else l++[k]).map fun a=>(f a,V.bl true):=by
 have hv:((l.map fun a=>(f a,V.bl true)).any fun kv=>decide (kv.1=f k))=decide (k∈l):=by
  rw[vd9,vk3,vk5]
  constructor
  ·rintro⟨kv,hkv,e⟩;obtain⟨a,ha,rfl⟩:=ws2.mp hkv;rw[←hf _ _ (ws0 e)];exact ha
  ·intro h;exact⟨(f k,V.bl true),ws2.mpr ⟨k,h,rfl⟩,wt8 rfl⟩
 unfold putK;rw[hv]
 by_cases c:k∈l
 ·rw[ww4 (wt8 c),ww4 c,vc8];refine vg8 fun a _=>?_;show(if f a=f k then(f a,V.bl true) else(f a,V.bl true))=_
  split <;> rfl
 ·rw[wv5 (by rw[wv8 c];exact wt2),wv5 c,wr9];rfl
theorem xk2(l:List Str)(k:Str):putK (kvT l) (Sum.inr k) (.bl true)=kvT (if k∈l then l else l++[k]):=wf6 (fun k=>(Sum.inr k:Key)) (fun _ _ h=>vk8 h) l k
theorem wp5(l:List (Str×Str))(k:Str×Str):putK (kvP l) (kyP k) (.bl true)=kvP (if k∈l then l else l++[k]):=by
 refine(wf6 kyP (fun _ _ h=>xk1 h) l k).trans ?_;unfold kvP
 by_cases c:k∈l
 ·simp only[ww4 c]
 ·simp only[wv5 c]
theorem yp7:∀(more l:List Str),zf6 (kvT l) (kvT more)=kvT (addU l more)
 | [],l=>rfl
 | k::more,l=>by
  show zf6 (putK (kvT l) (Sum.inr k) (.bl true)) (kvT more)=_;rw[xk2,yp7 more,zn2]
theorem yd1(l:List Str):(kvT l).length=l.length:=List.length_map _
theorem wg4(l:List (Str×Str)):(kvP l).length=l.length:=List.length_map _
theorem ym0{α:Type}[DecidableEq α](l more:List α)(k:α):addU l (more++[k])=if k∈addU l more then addU l more else addU l more++[k]:=by
 unfold addU;rw[List.foldl_append];rfl
theorem yb0{α:Type}[DecidableEq α]:∀(more l:List α),(addU l more).length<=l.length+more.length
 | [],l=>wr5 _
 | k::more,l=>by
  rw[zn2,wt3];have:=yb0 more (if k∈l then l else l++[k])
  by_cases c:k∈l
  ·rw[ww4 c]at this ⊢;lia
  ·rw[wv5 c]at this ⊢;rw[wr2,ws8]at this;lia
theorem xd0(qs:List (Pr×Addr))(q:Pr×Addr):(zt6 qs q).map (·.1)=if q.1∈qs.map (·.1) then qs.map (·.1) else qs.map (·.1)++[q.1]:=by
 unfold zt6
 split
 ·rfl
 ·rw[wr9];rfl
theorem zv9:∀(more:List (Pr×Addr))(qs:List (Pr×Addr)),(zk9 qs more).map (·.1)=addU (qs.map (·.1)) (more.map (·.1))
 | [],qs=>rfl
 | q::more,qs=>by
  show(zk9 (zt6 qs q) more).map (·.1)=_;rw[zv9 more,xd0,ww3,zn2]
  by_cases c:q.1∈qs.map (·.1)
  ·simp only[ww4 c]
  ·simp only[wv5 c]
theorem zz9:∀(more:List (Pr×Addr))(qs:List (Pr×Addr)),∀x∈zk9 qs more,x∈qs∨x∈more
 | [],qs,x,h=>.inl h
 | q::more,qs,x,h=>by
  rcases zz9 more (zt6 qs q) x h with h | h
  ·unfold zt6 at h
   split at h
   ·exact .inl h
   ·rcases wt9.mp h with h | h
    ·exact .inl h
    ·exact .inr (by rw[wv1.mp h];exact .head _)
  ·exact .inr (.tail _ h)
theorem Tup.ext{H:Hp}{p:Addr}{o:HO}{φ:Heap->Prop}(hp:H p=some (.ext φ)):Tup H (upd H p o):=fun b xs h=>by
 rw[zb5 (fun z=>by rw[z,hp]at h;cases h)];exact h
theorem xj9{α β:Type}:∀{l:List α}{m:List β},m.length=l.length->(l.zip m).map (·.1)=l
 | [],_,_=>by simp
 | a::l,[],h=>by simp at h
 | a::l,b::m,h=>by
  rw[vq3,ww3,xj9 (by simpa using h)]
theorem _root_.L2.A2.zip{α β:Type}{R:α->β->Prop}{as:List α}{bs:List β}(h:A2 R as bs):∀q∈bs.zip as,R q.2 q.1:=by
 induction h with
 | nil=>intro q hq;cases hq
 | cons r _ ih=>
  intro q hq;rw[vq3]at hq;rcases ws5.mp hq with rfl | hq
  ·exact r
  ·exact ih q hq
abbrev wp0:Stmt:=top 16
section
variable{H0:Hp}{kd:Kd}{tr:Tr}{L:List Fz}{ts:List Str}{come come':List (Str×Str)}{kinds kinds':List Str}
theorem MdOk.perm(h:MdOk H0 kd tr L ts come kinds)(hc:come'.Perm come)(hk:kinds'.Perm kinds):MdOk H0 kd tr L ts come' kinds':=by
 refine⟨hc.mem_iff.mpr h.m0,hk.nodup_iff.mpr h.nk,hc.nodup_iff.mpr h.nc,fun k hk'=>?_,fun n hn=>?_⟩
 ·obtain⟨h1,q,h2,h3,h4⟩:=h.kt k (hk.mem_iff.mp hk');exact⟨h1,q,h2,hc.mem_iff.mpr h3,h4⟩
 ·rcases h.co n (hc.mem_iff.mp hn)with e | ⟨q,h1,h2,h3,h4⟩
  ·exact .inl e
  ·exact .inr ⟨q,h1,hc.mem_iff.mpr h2,h3,yg8 (fun x hx=>hk.mem_iff.mpr hx) n h4⟩
theorem Sat.perm{q:Fz}(h:Sat H0 kd tr ts come kinds q)(hc:come'.Perm come)(hk:kinds'.Perm kinds):Sat H0 kd tr ts come' kinds' q:=fun hq=>by
 obtain⟨h1,h2⟩:=h (hc.mem_iff.mp hq);exact⟨fun k hk'=>hk.mem_iff.mpr (h1 k hk'),fun n hn=>hc.mem_iff.mpr (h2 n (yg8 (fun x hx=>hk.mem_iff.mp hx) n hn))⟩
end
theorem yh2{Z:Str->Str->Prop}{H H':Hp}{a:Addr}{ts ss:List Str}{kd:Kd}{tr:Tr}(h:RowIs Z H a)(f:Tup H H'):mkL H' ts a=mkL H ts a/\clL H' kd tr ss a=clL H kd tr ss a:=by
 obtain⟨e1,e2⟩:=xw9 h f;unfold mkL clL;rw[e1,e2];exact⟨rfl,rfl⟩
theorem yq5{H:Hp}{ts:List Str}{a:Addr}:mkL H ts a=[]∨∃k,mkL H ts a=[k]:=by
 unfold mkL
 split
 ·split
  ·exact .inr ⟨_,rfl⟩
  ·exact .inl rfl
 ·exact .inl rfl
theorem wp4{H:Hp}{ts:List Str}{a:Addr}:(mkL H ts a).length<=1:=by
 rcases yq5 (H:=H) (ts:=ts) (a:=a)with e | ⟨k,e⟩ <;> rw[e] <;> simp
theorem xw8{H:Hp}{ts:List Str}{a:Addr}:addU [] (mkL H ts a)=mkL H ts a:=by
 rcases yq5 (H:=H) (ts:=ts) (a:=a)with e | ⟨k,e⟩ <;> rw[e] <;> rfl
theorem wp8{H:Hp}{kd:Kd}{tr:Tr}{ss:List Str}{a:Addr}:(clL H kd tr ss a).length<=ss.length:=by
 unfold clL
 split
 ·rw[lqm];exact vc3 _ _
 ·exact wt6 _
inductive MdIs(K:PySem.W.Frag)(H H':Hp)(r:Addr)(kd:Kd)(tr:Tr)(L:List Fz)(ss:List Str)(qs:List (Pr×Addr))(kinds:List Str):Prop
 | mk(ca ka:Addr)(h1:H' r=some (.tup [.ref ca,.ref ka]))(h2:H' ca=some (.tup (qs.map fun q=>V.ref q.2)))(h3:∀q∈qs,BT K H' q.2 q.1)(h4:H' ka=some (.tup (kinds.map V.str)))(h5:MdOk H kd tr L ss (qs.map (·.1)) kinds)(h6:∀q∈L,Sat H kd tr ss (qs.map (·.1)) kinds q)(h7:PyProof.Rows.sortedS kinds=true):MdIs K H H' r kd tr L ss qs kinds
inductive wd4(K:PySem.W.Frag)(vs:List V)(H:Hp)(Q:VK):Prop
 | mk(p a:Addr)(ks:List (Str×List Dz))(m0:Dz)(tr:Tr)(ss:List Str)(Z:Str->Str->Prop)(h1:vs=[.ref p,.ref a])(h2:ProgIs Z H p ks m0)(h3:KindsAt H p tr)(h4:TrOk tr)(h5:tr.length<=12)(h6:Lnk Z ks tr)(h7:H a=some (.tup (ss.map V.str)))(h8:∀x∈ss,∃l,Up tr x l)(h9:ss.length<=12)
  (h10:∀(r:Addr)(qs:List (Pr×Addr))(kinds:List Str)(H':Hp),FrS [] H H'->MdIs K H H' r (kdOf ks tr) tr (zj6 (zh2 ks m0)) ss qs kinds->Q (.ref r) H'):wd4 K vs H Q
def xh8(K:PySem.W.Frag):Sp:=fun vs H Q _=>wd4 K vs H Q
inductive MdI(P:Program)(w:World)(K:PySem.W.Frag)(H H1:Hp)(p a cm kn rw:Addr)(kd:Kd)(tr:Tr)(L:List Fz)(ss:List Str)(m i:Nat)(σ:St)(Hx:Hp):Prop
 | mk(x6 x7 x8:Option V)(qs:List (Pr×Addr))(kinds:List Str)(hσ:σ=[some (.ref p),some (.ref a),some (.ref cm),some (.ref kn),some (.ref rw),some (.int (m:Int)),x6,x7,x8])(fr:FrS [] H Hx)(tp:Tup H1 Hx)(hc:Hx cm=some (pdO P w cm qs))(hq:∀q∈qs,BT K Hx q.2 q.1)(hk:Hx kn=some (.dK (kvT kinds)))
  (md:MdOk H kd tr L ss (qs.map (·.1)) kinds) (l1:m<=qs.length+kinds.length) (l2:qs.length+kinds.length=m->∀z∈L.take i,Sat H kd tr ss (qs.map (·.1)) kinds z):MdI P w K H H1 p a cm kn rw kd tr L ss m i σ Hx
inductive KuI(H1:Hp)(Dl:Addr)(zs:List Str)(i:Nat)(σ:St)(Hx:Hp):Prop
 | mk(x:Option V)(hσ:σ=[x])(fr:FrS [] H1 Hx)(hD:Hx Dl=some (.dK (kvT (addU [] (zs.take i))))):KuI H1 Dl zs i σ Hx
inductive CuI(H1:Hp)(Dl:Addr)(zs:List (Str×Str))(i:Nat)(σ:St)(Hx:Hp):Prop
 | mk(x:Option V)(hσ:σ=[x])(fr:FrS [] H1 Hx)(hD:Hx Dl=some (.dT (kvP (addU [] (zs.take i))))):CuI H1 Dl zs i σ Hx
def muMade(σ:St)(_:Hp):Nat:=match (σ[5]?:Option (Option V))with | some (some (V.int m))=>(1000-m).toNat | _=>0
theorem BT.pd{K:PySem.W.Frag}{H:Hp}{qs:List (Pr×Addr)}(h:∀q∈qs,BT K H q.2 q.1):PdOk K H qs:=fun q hq=>(h q hq).sq
abbrev wg0:List Str:=["program","there"]
theorem zs0:zd1 ["program","there","come","kinds","rows","many","number","body","row"] wg0 (zc2 wp0):=⟨rfl,rfl,rfl,by decide +kernel,rfl,by decide +kernel,by decide +kernel⟩
set_option maxHeartbeats 8000000 in
theorem wn1{k:Nat}{am:Addr}(F:Fun K "made_paper" "made_paper" wp0 f fd)(NU:Cal P w K mg base k "numbered" ["program"] (xg3 K))(KB:Cal P w K mg base k "kinds_by" ["there","row"] zx8)(BB:Cal P w K mg base k "bodies_by" zs1 zt9)(mM:mg "MAIN"=some (.ref am))(hM:∀H,SqT K H am [.str "",.str ""])
  (mtu:mg "tuple"=none) (mso:mg "sorted"=none) (mle:mg "len"=none) (mli:mg "list"=none):FnOk P w K mg base CX0 (k+1) f fd wg0 (xh8 K):=by
 obtain⟨g,gd,GN,bN,kN,mN⟩:=NU.ex;obtain⟨g2,gd2,GK,bK,kK,mK⟩:=KB.ex;obtain⟨g3,gd3,GB,bB,kB,mB⟩:=BB.ex;refine F.ok zs0 (fun vs H Q E h=>?_) (fun cdv A outer s H vs Q E hr h=>?_)
 ·obtain⟨p,a,ks,m0,tr,ss,Z,rfl,_⟩:=h;rfl
 obtain⟨p,a,ks,m0,tr,ss,Z,rfl,hP,hK,hT,h12,hL,ha,hU,hsl,q⟩:=h;have hu:=zn1 hr;have hu':=vg4 hu;have nd1:(["kind"]:List Str).Nodup:=by decide +kernel
 have nd1':(["one"]:List Str).Nodup:=by decide +kernel
 refine⟨_,zb3 (zc3 (i:=2) zs0.nd rfl (wt1 rfl) (pe_pd1 hu' (yr7 (v:=.ref am) rfl mM rfl) zw1))
  (zb3 (zc3 (i:=3) zs0.nd rfl (wt1 rfl) zp9)
  (zb3 (zc3 (i:=4) zs0.nd rfl (wt1 rfl) (zb8 GN hr rfl mN kN bN .nil zc6 (zb0 (pv 0) zb2)))
  (zb3 (zc3 (i:=5) zs0.nd rfl (wt1 rfl) zb6)
  (zb3 (zx4 wv0 (zc4 xc7 (pv 5) (zf4 zn0 (zf2 ym3 rfl mle vb1 (zb0 (pv 2) zb2)) (zf2 ym7 rfl mle vb1 (zb0 (pv 3) zb2))) (zd6 _))
   (zb3 (zc3 (i:=5) zs0.nd rfl (wt1 rfl) (zf4 zn0 (zf2 ym3 rfl mle vb1 (zb0 (pv 2) zb2)) (zf2 ym7 rfl mle vb1 (zb0 (pv 3) zb2))))
   (zb7 (zf9 wv0 rfl (zh5 (pv 4)) (zh8 (n:=3) rfl (zc1 (zb9 (i:=6) zs0.nd rfl (wt1 rfl)) (zc1 (zb9 (i:=7) zs0.nd rfl (wt1 rfl)) (zc1 (zb9 (i:=8) zs0.nd rfl (wt1 rfl)) zg2))))
    (zb7 (zh3 (zs5 (pc_pin hu (pv 7) (pv 2)))
     (zb3 (zg1 (zm9 wz9 PySem.F.slot_dict_update PySem.F.type_dict_update wq1 (pv 3) (zb0 (xs9 (N':=["kind"]) (src:=[none]) rfl ⟨rfl,by decide +kernel,by decide +kernel,rfl,rfl,rfl⟩ (zf7 (zb8 GK hr rfl mK kK bK .nil zc6 (zb0 (pv 1) (zb0 (pv 8) zb2))))
       (g:=zd9 0) (fun _ _ _ _=>zb9 (i:=0) nd1 rfl (wt1 rfl) (wz3 rfl)) (fun _ _ _ _=>zg5) (fun _ _ _ _=>pv 0) (te:=tC (.bl true)) (fun _ _ _ _=>zw1)) zb2)))
     (zb7 (zg1 (wm8 hu (pv 2) (xt6 (N':=["one"]) (src:=[none]) rfl hu' ⟨rfl,by decide +kernel,by decide +kernel,rfl,rfl,rfl⟩ (zf7 (zb8 GB hr rfl mB kB bB .nil zc6 (zb0 (pv 0) (zb0 (zd2 (zq1 rfl) rfl mli (by decide +kernel) (zb0 (pv 3) zb2)) (zb0 (pv 8) zb2)))))
       (g:=zd9 0) (fun _ _ _ _=>zb9 (i:=0) nd1' rfl (wt1 rfl) (wz3 rfl)) (fun _ _ _ _=>zg5) (fun _ _ _ _=>pv 0) (te:=tC (.bl true)) (fun _ _ _ _=>zw1)) ⟨rfl,rfl,rfl,rfl⟩)))) zd5))))))
  (zb7 (zd0 (zf0 (zb0 (zd2 zd3 rfl mtu (by decide +kernel) (zb0 (zf2 (yq1 rfl) rfl mso (by decide +kernel) (zb0 (pv 2) zb2)) zb2)) (zb0 (zd2 zd3 rfl mtu (by decide +kernel) (zb0 (zf2 (yp8 rfl) rfl mso (by decide +kernel) (zb0 (pv 3) zb2)) zb2)) zb2))))))))),?_⟩
 first | dsimp only[cxOf,Cx.nox] | skip
 have hI:=yj0 hP.rows;have s2:2<=sizeLine:=ws3 (zc0 (by decide));refine fun cm hcm=>⟨am,MN,rfl,zb1,hM _,?_⟩;rw[zq5];refine fun kn hkn=>?_;have f01:FrS [] H (upd (upd H cm (pdO P w cm [(MN,am)])) kn (.dK [])):=(FrS.new hcm).trans (FrS.new hkn);have hcm1:upd H cm (pdO P w cm [(MN,am)]) cm=some (pdO P w cm [(MN,am)]):=zb1;have hck:cm≠kn:=zb4 hcm1 hkn;have hknH:H kn=none:=by rw[zb5 (vb3 hck)]at hkn;exact hkn
 refine⟨_,rfl,p,ks,m0,rfl,hP.keep (Tup.of0 f01),fun rw' ns H1 f1 hrw hA=>?_⟩;have fr1:=f01.trans f1;have hc1:H1 cm=some (pdO P w cm [(MN,am)]):=f1 _ _ wr0 (by rw[zb5 hck];exact zb1);have hk1:H1 kn=some (.dK (kvT [])):=f1 _ _ wr0 zb1;have hAl:=hA.len;rw[vk7]at hAl;have hkd:∀{Hx:Hp},FrS [] H Hx->DeedsAt Hx p (kdOf ks tr):=fun fx=>(hP.deeds hK hL.nm).keep fx;generalize hLL:zj6 (zh2 ks m0)=L at *;generalize hKD:kdOf ks tr=kd at *;refine zx2 (fun σ Hx=>∃m,MdI P w K H H1 p a cm kn rw' kd tr L ss m L.length σ Hx) muMade ⟨0,_,_,_,[(MN,am)],[],rfl,fr1,(fun _ _ h=>h),hc1,(fun q hq=>by rw[wv1.mp hq];exact .inr hM),hk1,MdOk.start,wt6 _,fun e=>nomatch e⟩ ?_ ?_
 ·rintro σ Hx ⟨m,x6,x7,x8,qs,kinds,rfl,fr,tp,hc,hq,hk,md,l1,l2⟩;subst hKD;obtain⟨few1,hkl⟩:=md.few hL hT h12 hI hsl hU;rw[lqm]at few1;refine⟨_,rfl,_,rfl,cm,qs,rfl,hc,_,rfl,kn,_,rfl,hk,_,_,rfl,rfl,_,_,rfl,rfl,_,rfl,?_⟩;rw[yd1,←Int.natCast_add];refine ite2 (fun c=>?_) (fun c=>?_)
  ·have c:((m:Nat):Int)<((qs.length+kinds.length:Nat):Int):=ws0 c;refine⟨_,rfl,cm,qs,rfl,hc,_,rfl,kn,_,rfl,hk,_,_,rfl,rfl,?_⟩;refine⟨_,rfl,rw',rfl,⟨_,SqT.of (tp _ _ hrw)⟩,?_⟩;refine zj4 (xs:=ns.map V.ref) (MdI P w K H H1 p a cm kn rw' (kdOf ks tr) tr L ss (qs.length+kinds.length)) ⟨x6,x7,x8,qs,kinds,(by show [some (V.ref p),some (V.ref a),some (V.ref cm),some (V.ref kn),some (V.ref rw'),some (V.int ((qs.length:Int)+((kvT kinds).length:Int))),x6,x7,x8]=_;rw[yd1,Int.natCast_add]),fr,tp,hc,hq,hk,md,wr5 _,fun _ z hz=>nomatch hz⟩ ?_ ?_ ?_
   ·rintro i σ Hy hi ⟨_,_,_,_,_,_,_,tp,_⟩;exact SqT.of (tp _ _ hrw)
   ·clear l1 l2 few1 hkl hc hk hq md tp fr c;generalize qs.length+kinds.length=m1;rintro i x σ Hx hx ⟨x6,x7,x8,qs,kinds,rfl,fr,tp,hc,hq,hk,md,l1,l2⟩;rw[wr3,wr6]at hx;obtain⟨u,hu2,rfl⟩:=hx;obtain⟨z,hz,bd,u1,u2⟩:=hA.get hu2;rw[List.getElem?_zipIdx]at hz;obtain⟨z,hzL,rfl⟩:=wr6.mp hz;have hzm:z∈L:=ws4 hzL;have hrow:=hI z hzm;obtain⟨few1,hkl⟩:=md.few hL hT h12 hI hsl hU;rw[lqm]at few1;refine⟨u,_,rfl,SqT.of (tp _ _ u1),rfl,_,_,rfl,_,_,rfl,_,_,rfl,rfl,?_⟩;refine⟨_,rfl,_,rfl,cm,bd,qs,z.1,rfl,rfl,hc,BT.pd hq,(u2.keep tp).sq,_,rfl,?_⟩;refine ite2 (fun c=>?_) (fun c=>?_)
    rotate_left
    ·refine⟨_,_,_,qs,kinds,rfl,fr,tp,hc,hq,hk,md,l1,fun e y hy=>?_⟩;rw[ws7,hzL]at hy;rcases wt9.mp hy with hy | hy
     ·exact l2 e y hy
     ·have ey:y=z:=by simpa using hy
      rw[ey];exact fun h=>absurd (wt8 h) c
    have hcome:z.1∈qs.map (·.1):=ws0 c;have tx:=Tup.of0 fr;refine⟨_,rfl,.inr (.inr (.inl ⟨rfl,.inl ⟨_,hk⟩⟩)),?_⟩;refine⟨_,rfl,_,rfl,a,z.2,ss,Z,rfl,fr _ _ wr0 ha,hrow.keep tx,fun l Hy fy hln hl=>⟨l,rfl,⟨_,SqL.of hl⟩,fun D1 hD1=>?_⟩⟩;rw[(yh2 (kd:=[]) (tr:=[]) (ss:=[]) hrow tx).1]at hl;have hml:(mkL H ss z.2).length<=1:=wp4;have eml:addU [] (mkL H ss z.2)=mkL H ss z.2:=xw8;have md1:=md.make hzm hcome;generalize hmk:mkL H ss z.2=zs at hl hml eml md1;refine yt3 (xs:=zs.map V.str) (KuI Hy D1 zs) ⟨_,rfl,(FrS.refl).put hD1,zb1⟩ ?_ ?_ ?_
    ·rintro j σ Hz hj ⟨_,_,fz,_⟩;exact SqL.of (fz _ _ wr0 hl)
    ·rintro j x σ Hz hx ⟨x0,rfl,fz,hDz⟩;rw[wr3,wr6]at hx;obtain⟨y,hy,rfl⟩:=hx;refine⟨_,rfl,_,Sum.inr y,rfl,hDz,zc0 ?_,_,rfl,fz.put hD1,?_⟩
     ·have h1:=yb0 (zs.take j) [];rw[wt4,vb9]at h1;rw[yd1];lia
     ·rw[zb1,xk2,ws7,hy];show _=some (HO.dK (kvT (addU [] (zs.take j++[y]))));rw[ym0]
    rintro σ Hz ⟨x0,rfl,fz,hDz⟩;rw[lqm,wr8 (wr5 _),eml]at hDz;have fxz:FrS [] Hx Hz:=fy.trans fz;have hkz:=fxz _ _ wr0 hk;refine⟨kn,D1,_,_,rfl,rfl,zb4 (fy _ _ wr0 hk) hD1,hkz,hDz,ws3 (zc0 (by rw[yd1,yd1];lia)),?_⟩;rw[yp7];have hkl1:(addU kinds zs).length<=13:=by have:=yb0 zs kinds;lia
    have kin:∀k∈zs,k∈addU kinds zs:=fun k h=>(zk7 _ _ _).mpr (.inr h);have kle:=zw3 zs kinds;generalize addU kinds zs=kinds1 at md1 hkl1 kin kle;have fr3:FrS [] H (upd Hz kn (.dK (kvT kinds1))):=(fr.trans fxz).put hknH;have tk3:Tup Hx (upd Hz kn (.dK (kvT kinds1))):=(Tup.of0 fxz).trans (Tup.dk hkz);have hk3:upd Hz kn (.dK (kvT kinds1)) kn=some (.dK (kvT kinds1)):=zb1;have hc3:upd Hz kn (.dK (kvT kinds1)) cm=some (pdO P w cm qs):=by rw[zb5 hck];exact fxz _ _ wr0 hc
    generalize upd Hz kn (.dK (kvT kinds1))=H3 at fr3 tk3 hk3 hc3;refine⟨_,rfl,cm,qs,rfl,hc3,?_⟩;have hU1:∀x∈kinds1,∃l,Up tr x l:=fun x hx=>hU x (md1.kt x hx).1;refine⟨_,rfl,_,rfl,kn,_,rfl,Rd.of hk3,fun l4 hl4=>?_⟩;have f4:FrS [] H3 (upd H3 l4 (.lst ((kvT kinds1).map fun kv=>kV kv.1))):=FrS.new hl4;have hl4':upd H3 l4 (.lst ((kvT kinds1).map fun kv=>kV kv.1)) l4=some (.lst (kinds1.map V.str)):=by
     rw[zb1];unfold kvT;rw[vc8];rfl
    generalize upd H3 l4 (.lst ((kvT kinds1).map fun kv=>kV kv.1))=H4 at f4 hl4';have fr4:=fr3.trans f4;have t4:=Tup.of0 fr4;refine⟨_,rfl,p,l4,z.2,ks,tr,kinds1,Z,rfl,hkd fr4,hL,hT,h12,hl4',hU1,by lia,hrow.keep t4,fun l5 bs H5 f5 hl5n hl5 hA5=>⟨l5,rfl,⟨_,SqL.of hl5⟩,fun D2 hD2=>?_⟩⟩;rw[(yh2 (ts:=ss) (kd:=kdOf ks tr) (tr:=tr) (ss:=kinds1) hrow t4).2]at hA5;have md2:=md1.call hzm hcome;have hA5l:=hA5.len;have hcl5:(clL H (kdOf ks tr) tr kinds1 z.2).length<=13:=wx6 wp8 hkl1;generalize hcn:clL H (kdOf ks tr) tr kinds1 z.2=nms at hA5 hA5l hcl5 md2;refine yt8 (xs:=bs.map V.ref) (CuI H5 D2 nms) ⟨_,rfl,(FrS.refl).put hD2,zb1⟩ ?_ ?_ ?_
    ·rintro j σ Hz hj ⟨_,_,fz,_⟩;exact SqL.of (fz _ _ wr0 hl5)
    ·rintro j x σ Hz hx ⟨x0,rfl,fz,hDz⟩;rw[wr3,wr6]at hx;obtain⟨b,hb,rfl⟩:=hx;obtain⟨n,hn,hbn⟩:=hA5.get hb;refine⟨_,rfl,_,kyP n,b,rfl,fz _ _ wr0 hbn,hDz,zc0 ?_,_,rfl,fz.put hD2,?_⟩
     ·have h1:=yb0 (nms.take j) [];rw[wt4,vb9]at h1;rw[wg4];lia
     ·rw[zb1,wp5,ws7,hn];show _=some (HO.dT (kvP (addU [] (nms.take j++[n]))));rw[ym0]
      by_cases c:n∈addU [] (nms.take j)
      ·simp only[ww4 c]
      ·simp only[wv5 c]
    rintro σ H6 ⟨x0,rfl,f6,hDz⟩;rw[lqm,hA5l,wr8 (wr5 _)]at hDz;have f36:FrS [] H3 H6:=f4.trans (f5.trans f6);have hc6:=f36 _ _ wr0 hc3;have tx6:Tup Hx H6:=tk3.trans (Tup.of0 f36);have hq6:∀q∈qs,BT K H6 q.2 q.1:=fun q h=>(hq q h).keep tx6;have hml6:(addU [] nms).length<=13:=by have:=yb0 nms [];rw[vb9]at this;lia
    have min:∀n∈nms,n∈addU (qs.map (·.1)) (addU [] nms):=fun n h=>(zk7 _ _ _).mpr (.inr ((zk7 _ _ _).mpr (.inr h)));refine⟨cm,D2,qs,addU [] nms,rfl,rfl,hc6,(fun e=>by rw[e]at hcome;cases hcome),BT.pd hq6,hDz,ws3 (zc0 (by lia)),fun bs2 hB2=>?_⟩;have eK:(zk9 qs ((addU [] nms).zip bs2)).map (·.1)=addU (qs.map (·.1)) (addU [] nms):=by rw[zv9,xj9 hB2.len]
    have tc6:Tup H6 (upd H6 cm (pdO P w cm (zk9 qs ((addU [] nms).zip bs2)))):=Tup.ext hc6;have cle:=zw3 (addU [] nms) (qs.map (·.1));rw[←eK]at cle md2 min;have hqm:=zz9 ((addU [] nms).zip bs2) qs;have hzp:=hB2.zip;generalize zk9 qs ((addU [] nms).zip bs2)=qs1 at eK tc6 cle md2 min hqm;rw[lqm,lqm]at cle;refine⟨_,_,_,qs1,kinds1,rfl,(fr3.trans f36).put hcm,tp.trans (tx6.trans tc6),zb1,fun q h=>?_,?_,md2,by lia,fun e y hy=>?_⟩
    ·rcases hqm q h with h | h
     ·exact(hq6 q h).keep tc6
     ·exact .inl (tc6 _ _ (hzp q h))
    ·rw[zb5 (vb3 hck)];exact f36 _ _ wr0 hk3
    ·rw[ws7,hzL]at hy;rcases wt9.mp hy with hy | hy
     ·have e1:=cle.2 (by lia);have e2:=kle.2 (by lia);rw[e1,e2];exact l2 (by lia) y hy
     ·have ey:y=z:=by simpa using hy
      rw[ey];exact fun _=>⟨by rw[hmk];exact kin,by rw[hcn];exact min⟩
   ·rintro σ Hy ⟨y6,y7,y8,qs',kinds',rfl,fr',tp',hc',hq',hk',md',l1',l2'⟩;rw[lqm,hAl]at l2';refine⟨⟨_,y6,y7,y8,qs',kinds',rfl,fr',tp',hc',hq',hk',md',l1',l2'⟩,?_⟩;show(1000-((qs.length+kinds.length:Nat):Int)).toNat<(1000-((m:Nat):Int)).toNat;lia
  ·have c:¬((m:Nat):Int)<((qs.length+kinds.length:Nat):Int):=fun h=>c (wt8 h);have e:qs.length+kinds.length=m:=by lia
   have sat:=l2 e;rw[wr8 (wr5 _)]at sat;refine⟨_,rfl,cm,qs,rfl,hc,BT.pd hq,by lia,fun la qs' hla pq=>⟨la,_,rfl,.inl ⟨SqL.of zb1,fun ca hca=>?_⟩⟩⟩;have fA:FrS [] Hx (upd (upd Hx la (.lst (qs'.map fun q=>V.ref q.2))) ca (.tup (qs'.map fun q=>V.ref q.2))):=(FrS.new hla).trans (FrS.new hca);have hcA:upd (upd Hx la (.lst (qs'.map fun q=>V.ref q.2))) ca (.tup (qs'.map fun q=>V.ref q.2)) ca=some (.tup (qs'.map fun q=>V.ref q.2)):=zb1;generalize upd (upd Hx la (.lst (qs'.map fun q=>V.ref q.2))) ca (.tup (qs'.map fun q=>V.ref q.2))=HA at fA hcA;refine⟨_,rfl,kn,kinds,_,rfl,fA _ _ wr0 hk,by unfold kvT;rw[vc8];rfl,by lia,fun lb kinds' hlb pk sk=>⟨lb,_,rfl,.inl ⟨SqL.of zb1,fun ka hka=>⟨s2,fun r hr'=>?_⟩⟩⟩⟩;have fB:FrS [] HA (upd (upd HA lb (.lst (kinds'.map V.str))) ka (.tup (kinds'.map V.str))):=(FrS.new hlb).trans (FrS.new hka);have hkB:upd (upd HA lb (.lst (kinds'.map V.str))) ka (.tup (kinds'.map V.str)) ka=some (.tup (kinds'.map V.str)):=zb1;generalize upd (upd HA lb (.lst (kinds'.map V.str))) ka (.tup (kinds'.map V.str))=HB at fB hkB hr';have fC:FrS [] HB (upd HB r (.tup [V.ref ca,V.ref ka])):=FrS.new hr';have fx:=fA.trans (fB.trans fC);refine q r qs' kinds' _ (fr.trans fx) ⟨ca,ka,zb1,(fB.trans fC) _ _ wr0 hcA,fun q hq'=>(hq q (pq.mem_iff.mp hq')).keep (Tup.of0 fx),fC _ _ wr0 hkB,md.perm (pq.map _) pk,fun y hy=>(sat y hy).perm (pq.map _) pk,sk⟩
 ·intro σ Hx R R' hR hc;obtain⟨v1,h1,v2,h2,a1,q1,e1,e2,v3,h3,a2,k2,e3,e4,i1,j1,e5,e6,i2,j2,e7,e8,b,e9,hq⟩:=hc;exact⟨v1,h1,v2,h2,a1,q1,e1,e2,v3,h3,a2,k2,e3,e4,i1,j1,e5,e6,i2,j2,e7,e8,b,e9,hR _ _ hq⟩
abbrev xn0:Stmt:=top 40
theorem xh7:∀(kvs:List (Key×V))(j:Nat)(k:Key)(v:V),(kvs.map (·.1)).Nodup->kvs[j]?=some (k,v)->valV kvs k=some v
 | [],j,k,v,_,h=>by simp at h
 | kv::kvs,0,k,v,_,h=>by
  have e:kv=(k,v):=by simpa using h
  unfold valV;rw[List.find?_cons_of_pos (by rw[e];exact wt8 rfl),e];rfl
 | kv::kvs,j+1,k,v,nd,h=>by
  have h':kvs[j]?=some (k,v):=by simpa using h
  rw[ww3,wx9]at nd;have hne:kv.1≠k:=fun e=>nd.1 (by rw[e];exact ws2.mpr ⟨(k,v),ws4 h',rfl⟩)
  have:=xh7 kvs j k v nd.2 h';unfold valV at this ⊢;rw[List.find?_cons_of_neg (by simpa using hne)];exact this
theorem HasD.of{kd:Kd}(nd:(kd.map (·.1)).Nodup){j:Nat}{z:Str×Option Str×List Str}(hz:kd[j]?=some z)(d:Str):decide (d∈z.2.2)=decide (HasD kd z.1 d):=by
 rw[vd9,vk5,vk5]
 constructor
 ·exact fun h=>⟨z,ws4 hz,rfl,h⟩
 ·rintro⟨y,hy,e,h⟩;obtain⟨i,hi⟩:=ww7.mp hy;have h1:(kd.map (·.1))[i]?=some z.1:=by rw[wr3,hi,←e];rfl
  have h2:(kd.map (·.1))[j]?=some z.1:=by rw[wr3,hz];rfl
  have hl:i<(kd.map (·.1)).length:=(wr1.mp h1).1;have eij:i=j:=(List.getElem?_inj hl nd).mp (h1.trans h2.symm);subst eij;rw[hi]at hz;cases hz;exact h
inductive PnIs(D:Addr)(H:Hp)(u:Addr)(z:Str×Option Str×List Str):Prop
 | mk(l:Addr)(h1:H u=some (.tup [.str z.1,.ref l]))(h2:H l=some (.lst (z.2.2.map V.str)))(h3:l≠D):PnIs D H u z
def KzIs(H:Hp)(kv:Key×V)(z:Str×Option Str×List Str):Prop:=kv.1=Sum.inr z.1/\∃l,kv.2=.ref l/\H l=some (.lst (z.2.2.map V.str))
theorem pn_kvs{D:Addr}{H:Hp}{us:List Addr}{kd:Kd}(h:A2 (PnIs D H) us kd):∃kvs:List (Key×V),A2 (fun u kv=>H u=some (.tup [kV kv.1,kv.2])) us kvs/\A2 (KzIs H) kvs kd:=by
 induction h with
 | nil=>exact⟨[],.nil,.nil⟩
 | @cons u z us kd g _ ih=>
  obtain⟨l,h1,h2,_⟩:=g;obtain⟨kvs,a,b⟩:=ih;exact⟨(Sum.inr z.1,.ref l)::kvs,.cons h1 a,.cons ⟨rfl,l,rfl,h2⟩ b⟩
theorem wk5{H:Hp}{kvs:List (Key×V)}{kd:Kd}(h:A2 (KzIs H) kvs kd):kvs.map (·.1)=(kd.map (·.1)).map Sum.inr:=by
 induction h with
 | nil=>rfl
 | cons g _ ih=>rw[ww3,ww3,ww3,ih,g.1]
theorem kz_at{H:Hp}{kvs:List (Key×V)}{kd:Kd}(h:A2 (KzIs H) kvs kd):∀{j:Nat}{z:Str×Option Str×List Str},kd[j]?=some z->∃kv,kvs[j]?=some kv/\KzIs H kv z:=by
 induction h with
 | nil=>intro j z hz;simp at hz
 | cons g _ ih=>
  intro j z hz;cases j with
  | zero=>cases hz;exact⟨_,rfl,g⟩
  | succ j=>exact ih hz
inductive xj7(vs:List V)(H:Hp)(Q:VK):Prop
 | mk(p:Addr)(n d r:Str)(kd:Kd)(l:List Str)(h1:vs=[.ref p,.str n,.str d])(h2:DeedsAt H p kd)(h3:TrOk (trOf kd))(h4:(trOf kd).length<=12)(h5:Up (trOf kd) n l)(h6:ansF kd d l=some r)(h7:∀z∈kd,z.2.2.length<=80)(h8:∀(H':Hp),FrS [] H H'->Q (.str r) H'):xj7 vs H Q
def yt0:Sp:=fun vs H Q _=>xj7 vs H Q
inductive FnO(H1:Hp)(Dl:Addr)(kd:Kd)(i:Nat)(σ:St)(Hx:Hp):Prop
 | mk(x y z:Option V)(us:List Addr)(hσ:σ=[x,y,z])(fr:FrS [] H1 Hx)(hD:Hx Dl=some (.lst (us.map V.ref)))(ha:A2 (PnIs Dl Hx) us (kd.take i)):FnO H1 Dl kd i σ Hx
inductive FnJ(H1:Hp)(Dl:Addr)(ds:List Str)(i:Nat)(σ:St)(Hx:Hp):Prop
 | mk(x:Option V)(hσ:σ=[x])(fr:FrS [] H1 Hx)(hD:Hx Dl=some (.lst ((ds.take i).map V.str))):FnJ H1 Dl ds i σ Hx
inductive FnS(H1:Hp)(Dl Dp:Addr)(d:Str)(kd:Kd)(l:List Str)(i:Nat)(σ:St)(Hx:Hp):Prop
 | mk(x:Option V)(hσ:σ=[x,some (.str d),some (.ref Dp)])(fr:FrS [] H1 Hx)(hD:Hx Dl=some (.lst (((l.take i).filter fun x=>decide (HasD kd x d)).map V.str))):FnS H1 Dl Dp d kd l i σ Hx
abbrev xk3:List Str:=["_law_program_here","_law_kind","_law_deed_here"]
theorem xk4:zd1 ["_law_program_here","_law_kind","_law_deed_here","_law_has_here"] xk3 (zc2 xn0):=⟨rfl,rfl,rfl,by decide +kernel,rfl,by decide +kernel,by decide +kernel⟩
set_option maxHeartbeats 4000000 in
theorem xw3{k:Nat}(F:Fun K "_law_finds" "_law_finds" xn0 f fd)(UP:Cal P w K mg base k "_law_up" pUp spUp)(mdi:mg "dict"=none):FnOk P w K mg base CX0 (k+1) f fd xk3 yt0:=by
 obtain⟨g,gd,GU,bU,kU,mU⟩:=UP.ex;refine F.ok xk4 (fun vs H Q E h=>?_) (fun cdv A outer s H vs Q E hr h=>?_)
 ·obtain⟨p,n,d,r,kd,l,rfl,_⟩:=h;rfl
 obtain⟨p,n,d,r,kd,l,rfl,hD,ok,h12,hup,hans,h80,q⟩:=h;have hu:=zn1 hr;have hKK:=hD.kinds;have ndk:(kd.map (·.1)).Nodup:=by have:=ok.nd;unfold trOf at this;rwa [vc8]at this
 have hkl:(trOf kd).length=kd.length:=by unfold trOf;rw[lqm]
 have hl12:l.length<=12:=by
  obtain⟨i,g,hi⟩:=hup.at;have:=Up.len ok i n g l hi hup;obtain⟨h1,_⟩:=wr1.mp hi;lia
 have hmem:∀x∈l,∃(j:Nat)(z:Str×Option Str×List Str),kd[j]?=some z/\z.1=x:=fun x hx=>by
  have:=hup.mem x hx;unfold trOf at this;rw[vc8]at this;obtain⟨z,hz,e⟩:=ws2.mp this;obtain⟨j,hj⟩:=ww7.mp hz;exact⟨j,z,hj,e⟩
 obtain⟨kt,ts,x,y,hp,hk,hlen,hts⟩:=id hD;have nd3:(["_law_name","_law_elder","_law_deeds"]:List Str).Nodup:=by decide +kernel
 have nd1:(["_law_one"]:List Str).Nodup:=by decide +kernel
 have nd3':(["_law_name","_law_deed_here","_law_has_here"]:List Str).Nodup:=by decide +kernel
 refine⟨_,zb3 (zc3 (i:=3) xk4.nd rfl (wz3 rfl) (zd2 (zh6 rfl) rfl mdi (by decide +kernel) (zb0 (zh4 (N':=["_law_name","_law_elder","_law_deeds"]) (src:=[none,none,none]) rfl ⟨rfl,by decide +kernel,by decide +kernel,rfl,rfl,rfl⟩
   (zh5 (eT (pv 0) zb6))
   (g:=gTup K 3 (zk6 (zd9 0) (zk6 (zd9 1) (zk6 (zd9 2) gNil)))) (fun _ _ _ _=>zh8 (n:=3) rfl (zc1 (zb9 (i:=0) nd3 rfl (wt1 rfl) (wz3 rfl)) (zc1 (zb9 (i:=1) nd3 rfl (wt1 rfl) (wz3 rfl)) (zc1 (zb9 (i:=2) nd3 rfl (wt1 rfl) (wz3 rfl)) zg2))))
   (fun _ _ _ _=>zg5) (te:=tTup (zc5 (tVar 0) (zc5 (xq2 (iTup K (tVar 2)) [none] (zd9 0) tAll (tOp (rIxT K) (tVar 0) (tC (.int 0)))) tNil)))
   (fun _ _ _ _=>zf0 (zb0 (pv 0) (zb0 (zh4 (N':=["_law_one"]) (src:=[none]) rfl ⟨rfl,by decide +kernel,by decide +kernel,rfl,rfl,rfl⟩ (zh5 (pv 2)) (g:=zd9 0) (fun _ _ _ _=>zb9 (i:=0) nd1 rfl (wt1 rfl) (wz3 rfl)) (fun _ _ _ _=>zg5) (te:=tOp (rIxT K) (tVar 0) (tC (.int 0))) (fun _ _ _ _=>yn8 (show IxR _ (rIxT K) from yn4) (pv 0) zb6 (fun _ _=>rfl))) zb2)))) zb2)))
  (zb7 (zd0 (eI (zh4 (N':=["_law_name","_law_deed_here","_law_has_here"]) (src:=[none,some 2,some 3]) rfl ⟨rfl,by decide +kernel,by decide +kernel,rfl,rfl,rfl⟩ (zf7 (zb8 GU hr rfl mU kU bU .nil zc6 (zb0 (pv 0) (zb0 (pv 1) zb2))))
   (g:=zd9 0) (fun _ _ _ _=>zb9 (i:=0) nd3' rfl (wt1 rfl) (wz3 rfl)) (tt:=zn4 (tOp (rIn K false) (tVar 1) (yt6 (tVar 2) (tVar 0))))
   (fun _ _ _ _=>zm7 (zc4 (show OpR _ _ (rIn K false) from zg6) (pv 1) (zc9 hu (pv 2) (pv 0) (fun _ _=>rfl)) rfl)) (fun _ _ _ _=>pv 0)) zb6))),?_⟩
 first | dsimp only[cxOf,Cx.nox] | skip
 have s2:2<=sizeLine:=ws3 (zc0 (by decide));refine⟨_,rfl,p,_,_,_,rfl,rfl,SqT.of hp,rfl,kt,rfl,⟨_,SqT.of hk⟩,fun Dl hDl=>?_⟩;refine zm0 (xs:=ts.map V.ref) (FnO H Dl kd) ⟨_,_,_,[],rfl,(FrS.refl).put hDl,zb1,.nil⟩ ?_ ?_ ?_
 ·rintro i σ Hx hi ⟨_,_,_,_,_,fr,_⟩;exact SqT.of (fr _ _ wr0 hk)
 ·rintro i x σ Hx hx ⟨_,_,_,us,rfl,fr,hDx,hA⟩;rw[wr3,wr6]at hx;obtain⟨u,hu',rfl⟩:=hx;have hi:i<kd.length:=by rw[←hlen];exact(wr1.mp hu').1
  have hz:kd[i]?=some kd[i]:=wq9 hi;obtain⟨dt,hv,fs,h2,hfl,hfs⟩:=hts i u _ hu' hz;have h80':=h80 kd[i] (ww5 hi);have hul:us.length<=12:=by
   have:=hA.len;rw[wt4]at this;lia
  generalize kd[i]=z at hz hv hfs hfl h80';refine⟨u,_,rfl,SqT.of (fr _ _ wr0 hv),rfl,_,_,rfl,_,_,rfl,_,_,rfl,rfl,?_⟩;refine⟨_,rfl,_,rfl,dt,rfl,⟨_,SqT.of (fr _ _ wr0 h2)⟩,fun De hDe=>?_⟩;have hDDe:Dl≠De:=zb4 hDx hDe;refine zm0 (xs:=fs.map V.ref) (FnJ Hx De z.2.2) ⟨_,rfl,(FrS.refl).put hDe,zb1⟩ ?_ ?_ ?_
  ·rintro j σ Hy hj ⟨_,_,fy,_⟩;exact SqT.of ((fr.trans fy) _ _ wr0 h2)
  ·rintro j x σ Hy hx ⟨_,rfl,fy,hDy⟩;rw[wr3,wr6]at hx;obtain⟨g,hg,rfl⟩:=hx;have hj:j<z.2.2.length:=by rw[←hfl];exact(wr1.mp hg).1
   have hd':z.2.2[j]?=some z.2.2[j]:=wq9 hj;obtain⟨rest,hr'⟩:=hfs j g _ hg hd';refine⟨_,rfl,g,_,_,.str z.2.2[j],rfl,rfl,SqT.of ((fr.trans fy) _ _ wr0 hr'),yc2 _ _,_,hDy,zc0 (by rw[lqm,wt4];lia),_,rfl,fy.put hDe,?_⟩;rw[zb1,ws7,hd',wr9];rfl
  ·rintro σ Hy ⟨_,rfl,fy,hDy⟩;rw[lqm,hfl,wr8 (wr5 _)]at hDy;refine⟨s2,fun te hte=>?_⟩;have fn:FrS [] Hy (upd Hy te (.tup [V.str z.1,V.ref De])):=FrS.new hte;have hDn:=fn _ _ wr0 (fy _ _ wr0 hDx);have hDe':=fn _ _ wr0 hDy;have hte':upd Hy te (.tup [V.str z.1,V.ref De]) te=some (.tup [V.str z.1,V.ref De]):=zb1;generalize upd Hy te (.tup [V.str z.1,V.ref De])=Hn at fn hDn hDe' hte';have fxn:=fy.trans fn;refine⟨_,hDn,zc0 (by rw[lqm];lia),_,_,_,us++[te],rfl,(fr.trans fxn).put hDl,by rw[zb1,wr9];rfl,?_⟩;have hup':∀{b:Addr}{o:HO},Hn b=some o->b≠Dl->upd Hn Dl (.lst (us.map V.ref++[V.ref te])) b=some o:=fun h n=>by rw[zb5 n];exact h
   have htD:te≠Dl:=fun e=>by rw[e]at hte';rw[hDn]at hte';cases hte'
   rw[ws7,hz];refine A2.snoc ?_ ⟨De,hup' hte' htD,hup' hDe' (vb3 hDDe),vb3 hDDe⟩;refine hA.imp fun u' z' h=>?_;obtain⟨l',g1,g2,g3⟩:=h;refine⟨l',hup' (fxn _ _ wr0 g1) (fun e=>?_),hup' (fxn _ _ wr0 g2) g3,g3⟩;rw[e,hDx]at g1;cases g1
 ·rintro σ H1 ⟨_,_,_,us,rfl,f1,hD1,hA⟩;rw[lqm,hlen,wr8 (wr5 _)]at hA;obtain⟨kvs,hA1,hA2⟩:=pn_kvs hA;have ndv:(kvs.map (·.1)).Nodup:=by
   rw[wk5 hA2];unfold List.Nodup;rw[List.pairwise_map];exact List.Pairwise.imp (fun h e=>h (vk8 e)) ndk
  have hvl:=hA2.len;refine⟨Dl,us,kvs,rfl,SqL.of hD1,hA1.len,zc0 (by lia),fun j t kv ht hkv=>?_,fun Dp hDp=>?_⟩
  ·obtain⟨kv',hkv',h⟩:=hA1.get ht;rw[hkv]at hkv';cases hkv';exact SqT.of h
  rw[show zf6 [] kvs=kvs from yh0 kvs [] ndv];have f12:FrS [] H1 (upd H1 Dp (.dK kvs)):=FrS.new hDp;have hDp2:upd H1 Dp (.dK kvs) Dp=some (.dK kvs):=zb1;generalize upd H1 Dp (.dK kvs)=H2 at f12 hDp2;have f2:=f1.trans f12;refine⟨_,rfl,_,rfl,p,n,trOf kd,l,rfl,hKK.keepT (Tup.of0 f2),ok,h12,hup,fun la H3 f3 hla=>⟨la,rfl,⟨_,SqL.of hla⟩,fun Ds hDs=>?_⟩⟩;refine zh0 (xs:=l.map V.str) (FnS H3 Ds Dp d kd l) ⟨_,rfl,(FrS.refl).put hDs,zb1⟩ ?_ ?_ ?_
  ·rintro j σ Hy hj ⟨_,_,fy,_⟩;exact SqL.of (fy _ _ wr0 hla)
  ·rintro j x σ Hy hx ⟨x0,rfl,fy,hDy⟩;rw[wr3,wr6]at hx;obtain⟨y,hy,rfl⟩:=hx;obtain⟨jj,z,hz,rfl⟩:=hmem y (ws4 hy);obtain⟨kv,hkv,e1,lj,e2,hlj⟩:=kz_at hA2 hz;have hkv':kvs[jj]?=some (Sum.inr z.1,V.ref lj):=by rw[hkv,←e1,←e2]
   have f3y:=f3.trans fy;have hg:=DGet.k (k:=(Sum.inr z.1:Key)) (f3y _ _ wr0 hDp2);rw[xh7 kvs jj _ _ ndv hkv']at hg;have hljy:=(f12.trans f3y) _ _ wr0 hlj;have hfl2:((l.take j).filter fun x=>decide (HasD kd x d)).length<=12:=by
    have h2:=vc3 (fun x=>decide (HasD kd x d)) (l.take j);rw[wt4]at h2;lia
   have eF2:(l.take (j+1)).filter (fun x=>decide (HasD kd x d))=(l.take j).filter (fun x=>decide (HasD kd x d))++[z.1].filter (fun x=>decide (HasD kd x d)):=by
    rw[ws7,hy,vk6];rfl
   refine⟨_,rfl,_,rfl,_,rfl,Dp,_,rfl,hg,lj,_,rfl,.inl (SqL.of hljy),rfl,zf8 _,_,rfl,?_⟩;show if inV (.str d) (z.2.2.map V.str)=true then _ else _
   rw[zj8,HasD.of ndk hz d];refine ite2 (fun c=>?_) (fun c=>?_)
   ·refine⟨_,rfl,_,hDy,zc0 (by rw[lqm];lia),_,rfl,fy.put hDs,?_⟩;rw[zb1,eF2,vg1 (p:=fun x=>decide (HasD kd x d)) c,vd0,wr9];rfl
   ·refine⟨_,rfl,fy,?_⟩;rw[eF2,vg0 (p:=fun x=>decide (HasD kd x d)) c,vd0,wx1];exact hDy
  ·rintro σ Hy ⟨x0,rfl,fy,hDy⟩;rw[lqm,wr8 (wr5 _)]at hDy;have hh:(l.filter fun x=>decide (HasD kd x d)).head?=some r:=by rw[List.head?_filter];exact hans
   obtain⟨rest,er⟩:∃rest,(l.filter fun x=>decide (HasD kd x d))=r::rest:=by
    cases hf:(l.filter fun x=>decide (HasD kd x d))with
    | nil=>rw[hf]at hh;cases hh
    | cons b rest=>rw[hf]at hh;cases hh;exact⟨rest,rfl⟩
   rw[er,ww3]at hDy;exact⟨Ds,_,_,.str r,rfl,rfl,SqL.of hDy,yc2 _ _,q _ ((f2.trans f3).trans fy)⟩
abbrev yq9:Stmt:=top 41
theorem pi_or{X:Cx}{tg l:Expr}{w1 w2:TI}(h1:PI X tg l w1)(h2:PI X tg l w2):PI X tg l (fun σ H R=>w1 σ H R∨w2 σ H R):=fun pins s σ H R I h=>h.elim (h1 pins s σ H R I) (h2 pins s σ H R I)
theorem for_or{K:PySem.W.Frag}{a:Addr}{xs:List V}{g:TG}{tb:TS}{D:Ends}{σ:St}{H:Hp}{j:Nat}(hv:σ[j]?=some (some (V.ref a)))(hq:H a=some (.lst xs)∨H a=some (.tup xs))(Pv:Nat->St->Hp->Prop)(h0:Pv 0 σ H)(hl:∀i σ H',i<=xs.length->Pv i σ H'->FrS [] H H')
  (hs:∀i x σ H,xs[i]?=some x->Pv i σ H->g x σ H fun σ2 H2=>tb {D with nx:=Pv (i+1),ct:=Pv (i+1),bk:=D.nx} σ2 H2) (hd:∀σ H,Pv xs.length σ H->D.nx σ H):
  tFor (fun σ H R=>wk6 K (tVar j) σ H R∨iTup K (tVar j) σ H R) g tb D σ H:=by
 rcases hq with hq | hq
 ·exact .inl ⟨_,hv,a,rfl,⟨_,SqL.of hq⟩,zm4 (xs:=xs) Pv h0 (fun i σ' H' hi p=>SqL.of (hl i σ' H' hi p _ _ wr0 hq)) hs hd⟩
 ·exact .inr ⟨_,hv,a,rfl,⟨_,SqT.of hq⟩,zj4 (xs:=xs) Pv h0 (fun i σ' H' hi p=>SqT.of (hl i σ' H' hi p _ _ wr0 hq)) hs hd⟩
theorem ProgIs.dlen{Z:Str->Str->Prop}{H:Hp}{p:Addr}{ks:List (Str×List Dz)}{m0:Dz}{tr:Tr}(h:ProgIs Z H p ks m0)(nm:ks.map (·.1)=tr.map (·.1)):∀z∈kdOf ks tr,z.2.2.length<=80:=by
 obtain⟨kt,us,lt,h1,h2,h3,h4,h5,h6⟩:=h;intro z hz;obtain⟨j,hj⟩:=ww7.mp hz;obtain⟨y,hy,_,e,_⟩:=kd_at nm hj;have hjl:j<us.length:=by rw[h3];exact(wr1.mp hy).1
 obtain⟨_,dt,fs,_,_,k3,_,k5⟩:=h4 j us[j] y (wq9 hjl) hy;rw[e,lqm];lia
theorem Sat.keep{Z:Str->Str->Prop}{H H':Hp}{kd:Kd}{tr:Tr}{ts:List Str}{come:List (Str×Str)}{kinds:List Str}{q:Fz}(f:Tup H H')(hr:RowIs Z H q.2):Sat H' kd tr ts come kinds q↔Sat H kd tr ts come kinds q:=by
 obtain⟨e1,e2⟩:=yh2 (ts:=ts) (kd:=kd) (tr:=tr) (ss:=kinds) hr f;unfold Sat;rw[e1,e2]
def LT(H:Hp)(a:Addr)(xs:List V):Prop:=H a=some (.lst xs)∨H a=some (.tup xs)
theorem LT.keep{H H':Hp}{a:Addr}{xs:List V}(h:LT H a xs)(f:FrS [] H H'):LT H' a xs:=h.imp (f _ _ wr0) (f _ _ wr0)
theorem LT.sq{K:PySem.W.Frag}{H:Hp}{a:Addr}{xs:List V}(h:LT H a xs):SqL K H a xs∨SqT K H a xs:=h.imp SqL.of SqT.of
inductive yx7(K:PySem.W.Frag)(vs:List V)(H:Hp)(Q:VK):Prop
 | mk(p t s kk:Addr)(ks:List (Str×List Dz))(m0:Dz)(tr:Tr)(ts:List Str)(qs:List (Pr×Addr))(kinds:List Str)(Z:Str->Str->Prop)(h1:vs=[.ref p,.ref t,.ref s,.ref kk])(h2:ProgIs Z H p ks m0)(h3:KindsAt H p tr)(h4:TrOk tr)(h5:tr.length<=12)(h6:Lnk Z ks tr)(h7:H t=some (.tup (ts.map V.str)))
  (h8:LT H s (qs.map fun q=>V.ref q.2)) (h9:∀q∈qs,BT K H q.2 q.1) (h10:LT H kk (kinds.map V.str)) (h11:∀x∈kinds,∃l,Up tr x l)
  (h12:∀(b:Bool)(H':Hp),FrS [] H H'->(b=true↔∀q∈zj6 (zh2 ks m0),Sat H (kdOf ks tr) tr ts (qs.map (·.1)) kinds q)->Q (.bl b) H'):yx7 K vs H Q
def yj8(K:PySem.W.Frag):Sp:=fun vs H Q _=>yx7 K vs H Q
inductive ClI(H H1:Hp)(p t s kk:Addr)(kd:Kd)(tr:Tr)(L:List Fz)(ts:List Str)(come:List (Str×Str))(kinds:List Str)(i:Nat)(σ:St)(Hx:Hp):Prop
 | mk(x4 x5 x6 x7:Option V)(hσ:σ=[some (.ref p),some (.ref t),some (.ref s),some (.ref kk),x4,x5,x6,x7])(fx:FrS [] H1 Hx)(hs:∀q∈L.take i,Sat H kd tr ts come kinds q):ClI H H1 p t s kk kd tr L ts come kinds i σ Hx
inductive ClJ(H1:Hp)(p t s kk bd a:Addr)(n:V)(kd:Kd)(tr:Tr)(k d:Str)(come:List (Str×Str))(kinds:List Str)(i:Nat)(σ:St)(Hx:Hp):Prop
 | mk(x7:Option V)(hσ:σ=[some (.ref p),some (.ref t),some (.ref s),some (.ref kk),some n,some (.ref bd),some (.ref a),x7])(fx:FrS [] H1 Hx)(hs:∀x∈kinds.take i,below tr k x=true->((ansOf kd tr x d).getD "",d)∈come):ClJ H1 p t s kk bd a n kd tr k d come kinds i σ Hx
abbrev yr8:List Str:=["_law_program_here","_law_there_here","_law_some","_law_kinds"]
theorem zr0:zd1 ["_law_program_here","_law_there_here","_law_some","_law_kinds","_law_number","_law_body","_law_row_here","_law_kind"] yr8 (zc2 yq9):=⟨rfl,rfl,rfl,by decide +kernel,rfl,by decide +kernel,by decide +kernel⟩
set_option maxHeartbeats 8000000 in
theorem xn1{k:Nat}(F:Fun K "_law_closed" "_law_closed" yq9 f fd)(NU:Cal P w K mg base k "_law_numbered" ["_law_program_here"] (xf2 K))(UP:Cal P w K mg base k "_law_up" pUp spUp)(FI:Cal P w K mg base k "_law_finds" xk3 yt0):FnOk P w K mg base CX0 (k+1) f fd yr8 (yj8 K):=by
 obtain⟨g,gd,GN,bN,kN,mN⟩:=NU.ex;obtain⟨g2,gd2,GU,bU,kU,mU⟩:=UP.ex;obtain⟨g3,gd3,GF,bF,kF,mF⟩:=FI.ex;refine F.ok zr0 (fun vs H Q E h=>?_) (fun cdv A outer s H vs Q E hr h=>?_)
 ·obtain⟨p,t,s,kk,ks,m0,tr,ts,qs,kinds,Z,rfl,_⟩:=h;rfl
 obtain⟨p,t,sa,kk,ks,m0,tr,ts,qs,kinds,Z,rfl,hP,hK,hT,h12,hL,ht,hS,hq,hkk,hU,q⟩:=h;have hu:=zn1 hr;refine⟨_,zb3 (zf9 wv0 rfl (zf7 (zb8 GN hr rfl mN kN bN .nil zc6 (zb0 (pv 0) zb2))) (zh8 (n:=3) rfl (zc1 (zb9 (i:=4) zr0.nd rfl (wt1 rfl)) (zc1 (zb9 (i:=5) zr0.nd rfl (wt1 rfl)) (zc1 (zb9 (i:=6) zr0.nd rfl (wt1 rfl)) zg2))))
   (zb3 (zh3 (PW.pt (zk4 (zc4 (wd1 hu) (pv 5) (pv 2) rfl) (zk4 (zc4 zp3 (eT (pv 6) zb6) zd4 (zd6 _)) (zk4 (zc4 zg6 (eT (pv 6) zb6) (pv 1) rfl) (zk0 (zc4 zm1 (eT (pv 6) zb6) (pv 3) rfl)))))) (zb7 (zd0 zw1)) zd5)
   (zb7 (zh3 (PW.pt (zk4 (zc4 (wd1 hu) (pv 5) (pv 2) rfl) (zk0 (zc4 zp3 (eT (pv 6) zb6) zd4 (zd6 _)))))
    (zb7 (zf9 wv0 rfl (pi_or (zf7 (pv 3)) (zh5 (pv 3))) (zb9 (i:=7) zr0.nd rfl (wt1 rfl))
     (zb7 (zh3 (zc4 zg6 (eT (pv 6) zb6) (zb8 GU hr rfl mU kU bU .nil zc6 (zb0 (pv 0) (zb0 (pv 7) zb2))) rfl)
      (zb7 (zh3 (zc4 (xr3 hu) (zf0 (zb0 (zb8 GF hr rfl mF kF bF .nil zc6 (zb0 (pv 0) (zb0 (pv 7) (zb0 (eT (pv 6) zb6) zb2)))) (zb0 (eT (pv 6) zb6) zb2))) (pv 2) rfl) (zb7 (zd0 zw1)) zd5)) zd5)))) zd5))))
  (zb7 (zd0 zw1)),?_⟩
 first | dsimp only[cxOf,Cx.nox] | skip
 have hI:=yj0 hP.rows;have hDD:=hP.deeds hK hL.nm;have eT':=tr_kd hL.nm;have h80:=hP.dlen hL.nm;have s2:2<=sizeLine:=ws3 (zc0 (by decide));refine⟨_,rfl,p,ks,m0,rfl,hP,fun b ns H1 f1 hbn hb hA=>⟨b,rfl,⟨_,SqL.of hb⟩,?_⟩⟩;have hAl:=hA.len;rw[vk7]at hAl;generalize hLL:zj6 (zh2 ks m0)=L at *;generalize hKD:kdOf ks tr=kd at *;refine zm4 (xs:=ns.map V.ref) (ClI H H1 p t sa kk kd tr L ts (qs.map (·.1)) kinds) ⟨_,_,_,_,rfl,FrS.refl,fun _ h=>nomatch h⟩ ?_ ?_ ?_
 ·rintro i σ Hx hi ⟨_,_,_,_,_,fx,_⟩;exact SqL.of (fx _ _ wr0 hb)
 ·rintro i x σ Hx hx ⟨x4,x5,x6,x7,rfl,fx,hsat⟩;rw[wr3,wr6]at hx;obtain⟨u,hu2,rfl⟩:=hx;obtain⟨z,hz,bd,u1,u2⟩:=hA.get hu2;rw[List.getElem?_zipIdx]at hz;obtain⟨z,hzL,rfl⟩:=wr6.mp hz;have hzm:z∈L:=ws4 hzL;obtain⟨w,rest,ha,hcl,hmk⟩:=hI z hzm;have fr:=f1.trans fx;have tHx:=Tup.of0 fr;have hax:=tHx _ _ ha;have hbd:=(u2.keep (Tup.of0 fx)).sq;have hsx:=(hS.keep fr).sq (K:=K);have hqx:PdOk K Hx qs:=BT.pd fun q hq'=>(hq q hq').keep tHx;have snoc:Sat H kd tr ts (qs.map (·.1)) kinds z->∀y∈L.take (i+1),Sat H kd tr ts (qs.map (·.1)) kinds y:=fun h y hy=>by
   rw[ws7,hzL]at hy;rcases wt9.mp hy with hy | hy
   ·exact hsat y hy
   ·have ey:y=z:=by simpa using hy
    rw[ey];exact h
  refine⟨u,_,rfl,SqT.of (fx _ _ wr0 u1),rfl,_,_,rfl,_,_,rfl,_,_,rfl,rfl,?_⟩;refine⟨_,rfl,_,rfl,bd,sa,z.1,qs,rfl,rfl,hbd,hsx,hqx,_,rfl,?_⟩;rw[vn3];refine ite2 (fun c=>?_) (fun c=>?_)
  rotate_left
  ·refine iteF ?_;refine⟨_,rfl,_,rfl,bd,sa,z.1,qs,rfl,rfl,hbd,hsx,hqx,_,rfl,?_⟩;rw[vn3];refine ite2 (fun c2=>absurd c2 c) (fun _=>iteF ?_);exact⟨_,_,_,_,rfl,fx,snoc fun h=>absurd (wt8 h) c⟩
  have hcome:z.1∈qs.map (·.1):=ws0 c;refine⟨_,rfl,z.2,_,_,.str w,rfl,rfl,SqT.of hax,yc2 _ _,rfl,_,rfl,?_⟩;rcases yw8 (Z:=Z) ha hmk with ⟨rfl,mx,mk,rfl,e⟩ | ⟨n,e⟩
  ·have ec:clK H z.2=none:=by
    rcases zx3 ha hcl with ⟨h,_⟩ | ⟨_,h⟩
    ·exact absurd h (by decide +kernel)
    ·exact h
   have hcn:∀n,n∉clL H kd tr kinds z.2:=fun n h=>by unfold clL at h;rw[ec]at h;cases h
   refine iteT ?_;refine⟨_,rfl,z.2,_,_,.str mk,rfl,rfl,SqT.of hax,rfl,_,rfl,t,_,rfl,.inr (SqT.of (tHx _ _ ht)),rfl,zf8 _,_,rfl,?_⟩;show if inV (.str mk) (ts.map V.str)=true then _ else _
   rw[zj8];refine ite2 (fun c2=>?_) (fun c2=>?_)
   ·have c2:mk∈ts:=ws0 c2;refine⟨_,rfl,z.2,_,_,.str mk,rfl,rfl,SqT.of hax,rfl,_,rfl,kk,_,rfl,(hkk.keep fr).sq,rfl,zf8 _,_,rfl,?_⟩;show if (!inV (.str mk) (kinds.map V.str))=true then _ else _
    rw[zj8];refine ite2 (fun c3=>?_) (fun c3=>?_)
    ·have c3:mk∉kinds:=by simpa using c3
     refine q false Hx fr ⟨fun h=>(nomatch h),fun h=>?_⟩;exact absurd ((h z hzm hcome).1 mk (zs8.mpr ⟨e,c2⟩)) c3
    ·have c3:mk∈kinds:=by simpa using c3
     refine⟨_,rfl,_,rfl,bd,sa,z.1,qs,rfl,rfl,hbd,hsx,hqx,_,rfl,?_⟩;rw[vn3,wt8 hcome];refine iteT ⟨_,rfl,z.2,_,_,.str "make",rfl,rfl,SqT.of hax,yc2 _ _,rfl,_,rfl,iteF ?_⟩;refine⟨_,_,_,_,rfl,fx,snoc fun _=>⟨fun k hk=>?_,fun n h=>absurd h (hcn n)⟩⟩;have:=(zs8.mp hk).1;rw[e]at this;rw[←wx7 this];exact c3
   ·have c2:mk∉ts:=fun h=>c2 (wt8 h);refine iteF ?_;refine⟨_,rfl,_,rfl,bd,sa,z.1,qs,rfl,rfl,hbd,hsx,hqx,_,rfl,?_⟩;rw[vn3,wt8 hcome];refine iteT ⟨_,rfl,z.2,_,_,.str "make",rfl,rfl,SqT.of hax,yc2 _ _,rfl,_,rfl,iteF ?_⟩;refine⟨_,_,_,_,rfl,fx,snoc fun _=>⟨fun k hk=>?_,fun n h=>absurd h (hcn n)⟩⟩;obtain⟨e1,e2⟩:=zs8.mp hk;rw[e]at e1;rw[←wx7 e1]at e2;exact absurd e2 c2
  ·have hmn:∀k,k∉mkL H ts z.2:=fun k h=>by
    have:=(zs8.mp h).1;rw[e]at this;cases this
   have e1:(decide (V.str w=V.str "make"))=false:=wv8 fun z=>n (V.str.inj z);show if (decide (V.str w=V.str "make"))=true then _ else _
   rw[e1];refine iteF (iteF ?_);refine⟨_,rfl,_,rfl,bd,sa,z.1,qs,rfl,rfl,hbd,hsx,hqx,_,rfl,?_⟩;rw[vn3,wt8 hcome];refine iteT ⟨_,rfl,z.2,_,_,.str w,rfl,rfl,SqT.of hax,yc2 _ _,rfl,_,rfl,?_⟩;rcases zx3 ha hcl with ⟨rfl,cx,cy,ck,cd,cg,rfl,ec,hzz⟩ | ⟨n2,ec⟩
   rotate_left
   ·have e2:(decide (V.str w=V.str "call"))=false:=wv8 fun z=>n2 (V.str.inj z);show if (decide (V.str w=V.str "call"))=true then _ else _
    rw[e2];refine iteF ⟨_,_,_,_,rfl,fx,snoc fun _=>⟨fun k hk=>absurd hk (hmn k),fun n h=>?_⟩⟩;unfold clL at h;rw[ec]at h;cases h
   refine iteT ?_;have hcl':∀n,n∈clL H kd tr kinds z.2↔∃x∈kinds,below tr ck x=true/\n=((ansOf kd tr x cd).getD "",cd):=fun n=>by
    unfold clL;rw[ec]
    constructor
    ·intro h;obtain⟨x,hx,rfl⟩:=ws2.mp h;obtain⟨h1,h2⟩:=wx8.mp hx;exact⟨x,h1,h2,rfl⟩
    ·rintro⟨x,h1,h2,rfl⟩;exact ws2.mpr ⟨x,wx8.mpr ⟨h1,h2⟩,rfl⟩
   refine for_or (a:=kk) (xs:=kinds.map V.str) rfl (hkk.keep fr) (ClJ Hx p t sa kk bd z.2 _ kd tr ck cd (qs.map (·.1)) kinds) ⟨_,rfl,FrS.refl,fun _ h=>nomatch h⟩ ?_ ?_ ?_
   ·rintro j σ Hy hj ⟨_,_,fy,_⟩;exact fy
   ·rintro j x σ Hy hx ⟨x7',rfl,fy,hjs⟩;rw[wr3,wr6]at hx;obtain⟨y,hy,rfl⟩:=hx;have hym:=ws4 hy;obtain⟨l,hup⟩:=hU y hym;have fHy:=fr.trans fy;have tHy:=Tup.of0 fHy;have snocJ:(below tr ck y=true->((ansOf kd tr y cd).getD "",cd)∈qs.map (·.1))->∀x∈kinds.take (j+1),below tr ck x=true->((ansOf kd tr x cd).getD "",cd)∈qs.map (·.1):=fun h x hx=>by
     rw[ws7,hy]at hx;rcases wt9.mp hx with hx | hx
     ·exact hjs x hx
     ·have ey:x=y:=by simpa using hx
      rw[ey];exact h
    refine⟨_,rfl,z.2,_,_,.str ck,rfl,rfl,SqT.of (tHy _ _ ha),rfl,_,rfl,_,rfl,p,y,tr,l,rfl,hK.keepT tHy,hT,h12,hup,fun la Hz fz hla=>⟨la,_,rfl,.inl (SqL.of hla),rfl,zf8 _,_,rfl,?_⟩⟩;show if inV (.str ck) (l.map V.str)=true then _ else _
    rw[zj8];have fHz:=fHy.trans fz;have tHz:=Tup.of0 fHz;refine ite2 (fun c4=>?_) (fun c4=>?_)
    rotate_left
    ·rw[zr7 hT hup]at c4;exact⟨_,rfl,fy.trans fz,snocJ fun h=>absurd h c4⟩
    have hkl:ck∈l:=ws0 c4;rw[zr7 hT hup]at c4;subst hKD;obtain⟨r,er,_⟩:=zt3 hL hT hzz hup hkl;have e5:ansF (kdOf ks tr) cd l=some r:=by
     unfold ansOf at er;rwa [yc8 hT hup]at er
    refine⟨_,rfl,_,rfl,_,rfl,z.2,_,_,.str cd,rfl,rfl,SqT.of (tHz _ _ ha),rfl,p,y,cd,r,kdOf ks tr,l,rfl,hDD.keep fHz,by rw[eT'];exact hT,by rw[eT'];exact h12,by rw[eT'];exact hup,e5,h80,fun Hv fv=>?_⟩;have fHv:=fHz.trans fv;refine⟨_,rfl,z.2,_,_,.str cd,rfl,rfl,SqT.of ((Tup.of0 fHv) _ _ ha),rfl,s2,fun tp htp=>?_⟩;have fw:=fHv.trans (FrS.new (o:=.tup [V.str r,V.str cd]) htp);have tw:=Tup.of0 fw;refine⟨_,rfl,tp,sa,(r,cd),qs,rfl,rfl,SqT.of zb1,(hS.keep fw).sq,BT.pd fun q hq'=>(hq q hq').keep tw,_,rfl,?_⟩;rw[Bool.true_xor];refine ite2 (fun c5=>?_) (fun c5=>?_)
    ·have c5:(r,cd)∉qs.map (·.1):=by simpa using c5
     refine q false _ fw ⟨fun h=>(nomatch h),fun h=>?_⟩;refine absurd ((h z hzm hcome).2 (r,cd) ((hcl' _).mpr ⟨y,hym,c4,?_⟩)) c5;rw[er];rfl
    ·have c5:(r,cd)∈qs.map (·.1):=by simpa using c5
     refine⟨_,rfl,(fy.trans (fz.trans fv)).trans (FrS.new htp),snocJ fun _=>?_⟩;rw[er];exact c5
   ·rintro σ Hy ⟨x7',rfl,fy,hjs⟩;rw[lqm,wr8 (wr5 _)]at hjs;refine⟨_,_,_,_,rfl,fx.trans fy,snoc fun _=>⟨fun k hk=>absurd hk (hmn k),fun n h=>?_⟩⟩;obtain⟨x,h1,h2,rfl⟩:=(hcl' n).mp h;exact hjs x h1 h2
 ·rintro σ Hx ⟨_,_,_,_,rfl,fx,hsat⟩;rw[lqm,hAl,wr8 (wr5 _)]at hsat;exact q true Hx (f1.trans fx) ⟨fun _=>hsat,fun _=>rfl⟩
abbrev sLaw:Stmt:=top 42
section
variable{H0:Hp}{kd:Kd}{tr:Tr}{L:List Fz}{ts:List Str}{come come':List (Str×Str)}{kinds kinds':List Str}
theorem MdOk.noBody(md:MdOk H0 kd tr L ts come kinds){n:Str×Str}(hn:n∈come)(h0:n≠MN)(hc:∀m,m∈come'↔m∈come/\m≠n):¬∀q∈L,Sat H0 kd tr ts come' kinds q:=fun h=>by
 rcases md.co n hn with e | ⟨q,h1,h2,h3,h4⟩
 ·exact h0 e
 ·exact((hc n).mp ((h q h1 ((hc q.1).mpr ⟨h2,h3⟩)).2 n h4)).2 rfl
theorem MdOk.noKind(md:MdOk H0 kd tr L ts come kinds){k:Str}(hk:k∈kinds)(hn:k∉kinds'):¬∀q∈L,Sat H0 kd tr ts come kinds' q:=fun h=>by
 obtain⟨h1,q,h2,h3,h4⟩:=md.kt k hk;exact hn ((h q h2 h3).1 k (zs8.mpr ⟨h4,h1⟩))
end
inductive SpLaw(K:PySem.W.Frag)(vs:List V)(H:Hp)(Q:VK):Prop
 | mk(a:Addr)(ns:List Int)(h1:vs=[.ref a])(h2:SqL K H a (ns.map V.int))(h3:ns.length<=63)(h4:∀H',Q (.bl true) H'):SpLaw K vs H Q
def xz0(K:PySem.W.Frag):Sp:=fun vs H Q _=>SpLaw K vs H Q
inductive LawI(K:PySem.W.Frag)(a:Addr)(ns:List Int)(i:Nat)(σ:St)(Hx:Hp):Prop
 | mk(x1 x2 x3 x4 x5 x6 x7 x8:Option V)(h1:σ=[some (.ref a),x1,x2,x3,x4,x5,x6,x7,x8])(h2:SqL K Hx a (ns.map V.int)):LawI K a ns i σ Hx
inductive SomI(H3:Hp)(xs:List (Option V))(i:Nat)(σ:St)(Hx:Hp):Prop
 | mk(x7 x8:Option V)(h1:σ=xs++[x7,x8])(fx:FrS [] H3 Hx):SomI H3 xs i σ Hx
inductive NoI(H3:Hp)(Dl t:Addr)(i:Nat)(σ:St)(Hx:Hp):Prop
 | mk(x:Option V)(h1:σ=[x,some (.ref t)])(fx:FrS [] H3 Hx)(hD:Hx Dl=some (.lst [])):NoI H3 Dl t i σ Hx
inductive RsI(H3:Hp)(Dl:Addr)(y:V)(qs:List (Pr×Addr))(F:Pr×Addr->Bool)(i:Nat)(σ:St)(Hx:Hp):Prop
 | mk(x:Option V)(h1:σ=[x,some y])(fx:FrS [] H3 Hx)(hD:Hx Dl=some (.lst (((qs.take i).filter F).map fun q=>V.ref q.2))):RsI H3 Dl y qs F i σ Hx
inductive RkI(H3:Hp)(Dl:Addr)(y:V)(ks:List Str)(F:Str->Bool)(i:Nat)(σ:St)(Hx:Hp):Prop
 | mk(x:Option V)(h1:σ=[x,some y])(fx:FrS [] H3 Hx)(hD:Hx Dl=some (.lst (((ks.take i).filter F).map V.str))):RkI H3 Dl y ks F i σ Hx
theorem yb8:zd1 ["_law_script","_law_k","_law_hand_here","_law_program_here","_law_there_here","_law_some","_law_kinds","_law_one","_law_rest"] ["_law_script"] (zc2 sLaw):=⟨rfl,rfl,rfl,by decide +kernel,rfl,by decide +kernel,by decide +kernel⟩
set_option maxHeartbeats 8000000 in
theorem ok_law{k:Nat}(F:Fun K "law" "law" sLaw f fd)(HN:Cal P w K mg base k "_law_hand" ["_law_script","_law_k"] (xj4 K))(PR:Cal P w K mg base k "_law_program" ["_law_hand_here","_law_most"] xh6)(O:Cal P w K mg base k "_law_of" ["_law_hand_here","_law_some"] (spOf K))
  (TH:Cal P w K mg base k "_law_there" xq9 yt9) (MP:Cal P w K mg base k "made_paper" wg0 (xh8 K)) (CL:Cal P w K mg base k "_law_closed" yr8 (yj8 K))
  (ml:mg "len"=none) (mr:mg "range"=none) (mx:mg "max"=none) (mn:mg "min"=none):FnOk P w K mg base CX0 (k+1) f fd ["_law_script"] (xz0 K):=by
 obtain⟨g,gd,GH,bH,kH,mH⟩:=HN.ex;obtain⟨g2,gd2,GP,bP,kP,mP⟩:=PR.ex;obtain⟨g3,gd3,GO,bO,kO,mO⟩:=O.ex;obtain⟨g4,gd4,GT,bT,kT,mT⟩:=TH.ex;obtain⟨g5,gd5,GM,bM,kM,mM⟩:=MP.ex;obtain⟨g6,gd6,GC,bC,kC,mC⟩:=CL.ex;refine F.ok yb8 (fun vs H Q E h=>?_) (fun cdv A outer s H vs Q E hr h=>?_)
 ·obtain⟨a,ns,rfl,_⟩:=h;rfl
 obtain⟨a,ns,rfl,hS,h63,q⟩:=h;have hu:=zn1 hr;have hu':=vg4 hu;have nda:(["_law_kind","_law_there_here"]:List Str).Nodup:=by decide +kernel
 have ndb:(["_law_body","_law_one"]:List Str).Nodup:=by decide +kernel
 have ndc:(["_law_kind","_law_one"]:List Str).Nodup:=by decide +kernel
 refine⟨_,zb3 (zf9 wv0 rfl (zn3 rfl mr (zb0 (zf2 (xs4 rfl) rfl mx (by decide +kernel) (zb0 zb6 (zb0 (zf2 (xr7 rfl) rfl mn (by decide +kernel) (zb0 (zf2 zg3 rfl ml vb1 (zb0 (pv 0) zb2)) (zb0 zb6 zb2))) zb2))) zb2)) (zb9 (i:=1) yb8.nd rfl (wt1 rfl))
   (zb3 (zc3 (i:=2) yb8.nd rfl (wt1 rfl) (zb8 GH hr rfl mH kH bH .nil zc6 (zb0 (pv 0) (zb0 (pv 1) zb2))))
   (zb3 (zc3 (i:=3) yb8.nd rfl (wt1 rfl) (zb8 GP hr rfl mP kP bP .nil zc6 (zb0 (pv 2) (zb0 (zb8 GO hr rfl mO kO bO .nil zc6 (zb0 (pv 2) (zb0 (zd7 (zf3 (zf3 (zf3 zb2)))) zb2))) zb2))))
   (zb3 (zc3 (i:=4) yb8.nd rfl (wz3 rfl) (zb8 GT hr rfl mT kT bT .nil zc6 (zb0 (pv 2) (zb0 (pv 3) zb2))))
   (zb3 (zr1 (zb8 GM hr rfl mM kM bM .nil zc6 (zb0 (pv 3) (zb0 (pv 4) zb2))) (zh8 (n:=2) rfl (zc1 (zb9 (i:=5) yb8.nd rfl (wt1 rfl)) (zc1 (zb9 (i:=6) yb8.nd rfl (wt1 rfl)) zg2))))
   (zb3 (zh3 (PW.pt (xq7 (zc4 (xr3 hu) (zf0 (yb5 (yb5 zb2))) (pv 5) rfl) (yn1 (zc4 (zx1 hu') (zh4 (N':=["_law_kind","_law_there_here"]) (src:=[none,some 4]) rfl ⟨rfl,by decide +kernel,by decide +kernel,rfl,rfl,rfl⟩ (zh5 (pv 6))
     (g:=zd9 0) (fun _ _ _ _=>zb9 (i:=0) nda rfl (wt1 rfl) (wz3 rfl)) (tt:=zn4 (tOp (rIn K true) (tVar 0) (tVar 1))) (fun _ _ _ _=>zm7 (zc4 (show OpR _ _ (rIn K true) from zm1) (pv 0) (pv 1) rfl)) (fun _ _ _ _=>pv 0)) (zd7 zb2) (zd6 _))))) (zb7 (zd0 zw1)) zd5)
   (zb3 (zh3 (pt_not (yg1 (zb8 GC hr rfl mC kC bC .nil zc6 (zb0 (pv 3) (zb0 (pv 4) (zb0 (pv 5) (zb0 (pv 6) zb2))))))) (zb7 (zd0 zw1)) zd5)
   (zb3 (zf9 wv0 rfl (zh5 (pv 5)) (zb9 (i:=7) yb8.nd rfl (wz3 rfl))
    (zb3 (zh1 (i:=8) (N':=["_law_body","_law_one"]) (src:=[none,some 7]) rfl yb8.nd rfl rfl ⟨rfl,by decide +kernel,by decide +kernel,rfl,rfl,rfl⟩ (zh5 (pv 5))
     (g:=zd9 0) (fun _ _ _ _=>zb9 (i:=0) ndb rfl (wt1 rfl) (wz3 rfl)) (tt:=zn4 (tOp (rNeS K) (tVar 0) (tVar 1))) (fun _ _ _ _=>zm7 (zc4 (show OpR _ _ (rNeS K) from wb5 hu') (pv 0) (pv 1) (zd6 _))) (fun _ _ _ _=>pv 0))
    (zb7 (zh3 (PW.pt (zk4 (zc4 (wb5 hu') (pv 7) (zf0 (yb5 (yb5 zb2))) (zd6 _)) (zk0 (yg1 (zb8 GC hr rfl mC kC bC .nil zc6 (zb0 (pv 3) (zb0 (pv 4) (zb0 (pv 8) (zb0 (pv 6) zb2))))))))) (zb7 (zd0 zw1)) zd5))))
   (zb7 (zf9 wv0 rfl (zh5 (pv 6)) (zb9 (i:=7) yb8.nd rfl (wz3 rfl))
    (zb3 (zh1 (i:=8) (N':=["_law_kind","_law_one"]) (src:=[none,some 7]) rfl yb8.nd rfl rfl ⟨rfl,by decide +kernel,by decide +kernel,rfl,rfl,rfl⟩ (zh5 (pv 6))
     (g:=zd9 0) (fun _ _ _ _=>zb9 (i:=0) ndc rfl (wt1 rfl) (wz3 rfl)) (tt:=zn4 (tOp rNe (tVar 0) (tVar 1))) (fun _ _ _ _=>zm7 (zc4 (show OpR _ _ rNe from op_ne) (pv 0) (pv 1) (zd6 _))) (fun _ _ _ _=>pv 0))
    (zb7 (zh3 (yg1 (zb8 GC hr rfl mC kC bC .nil zc6 (zb0 (pv 3) (zb0 (pv 4) (zb0 (pv 5) (zb0 (pv 8) zb2)))))) (zb7 (zd0 zw1)) zd5)))))))))))))
  (zb7 (zd0 zw1)),?_⟩
 first | dsimp only[cxOf,Cx.nox] | skip
 have s3:3<=sizeLine:=ws3 (zc0 (by decide));have s2:2<=sizeLine:=ws3 (zc0 (by decide));refine⟨_,rfl,a,_,rfl,.inl hS,_,_,rfl,_,_,rfl,?_⟩;obtain⟨nk,enk,hnk⟩:∃nk:Int,(if (if (4:Int)<(((ns.map V.int).length:Nat):Int) then(4:Int) else(((ns.map V.int).length:Nat):Int)) > 1 then(if (4:Int)<(((ns.map V.int).length:Nat):Int) then(4:Int) else(((ns.map V.int).length:Nat):Int)) else 1)=nk/\nk<=4/\1<=nk:=by
  refine⟨_,rfl,?_,?_⟩
  ·split <;> (try split) <;> lia
  ·split <;> (try split) <;> lia
 rw[enk];refine⟨nk,rfl,by lia,by lia,?_⟩;refine zr4 (lo:=0) (n:=nk.toNat) (LawI K a ns) ⟨_,_,_,_,_,_,_,_,rfl,hS⟩ ?_ (fun σ Hx _=>q Hx);rintro i σ Hx hi ⟨x1,x2,x3,x4,x5,x6,x7,x8,rfl,hSx⟩;refine⟨_,rfl,_,rfl,a,ns,i,by rw[Int.zero_add];rfl,hSx,h63,by lia,fun hd d m hhd hok=>?_⟩;generalize V.int (0+(i:Nat))=kx';have hh0:Hand (upd Hx hd (hl d m 0 0)) hd d m 0 0:=Hand.at hok;refine⟨_,rfl,_,rfl,s3,fun pi hpi=>?_⟩;have hpid:pi≠hd:=fun z=>by rw[z,hh0.1]at hpi;cases hpi
 have hh1:Hand (upd (upd Hx hd (hl d m 0 0)) pi (.lst [V.int 12,V.int 30,V.int 80])) hd d m 0 0:=⟨by rw[zb5 (vb3 hpid)];exact hh0.1,hh0.2⟩;refine⟨hd,pi,d,m,0,0,_,rfl,hh1,by decide,hpid,SqL.of zb1,by simp,by show 3<1000;decide,fun y db mb tb hy cb eb=>?_⟩;obtain⟨mo,rfl,hmo⟩:∃mo:Int,y=.int mo/\0<=mo/\mo<=80:=by
  simp only[ws5,wr0,vb0]at hy;rcases hy with rfl | rfl | rfl
  ·exact⟨12,rfl,by decide,by decide⟩
  ·exact⟨30,rfl,by decide,by decide⟩
  ·exact⟨80,rfl,by decide,by decide⟩
 have hpiX:Hx pi=none:=by rw[zb5 hpid]at hpi;exact hpi
 refine⟨hd,mo,db,mb,tb,0,rfl,hmo,Hand.at cb,by lia,fun p ks m0 tr Z H1 d1 m1 t1 r1 f1 hP hK hT h12 hLa hL hh ht=>?_⟩;have k1:∀b o,Hx b=some o->H1 b=some o:=fun b o e=>by
  have nb:b≠hd:=zb4 e hhd;have np:b≠pi:=zb4 e hpiX;refine f1 b o (by simpa using nb) ?_;rw[zb5 nb,zb5 np,zb5 nb];exact e
 refine⟨_,rfl,_,rfl,hd,p,d1,m1,t1,r1,tr,rfl,hh,by lia,hK,hT,h12,hLa,fun aa ss H2 d2 m2 t2 f2 haa hsl hU hso hh2 ht2=>?_⟩;have tp2:Tup H1 H2:=f2.tup1 hh.1;have k2:∀b o,Hx b=some o->H2 b=some o:=fun b o e=>f2 b o (by simpa using zb4 e hhd) (k1 b o e)
 have hP2:=hP.keep tp2;have hK2:=hK.keepT tp2;have hI:=yj0 hP2.rows;refine⟨_,rfl,_,rfl,p,aa,ks,m0,tr,ss,Z,rfl,hP2,hK2,hT,h12,hL,haa,hU,hsl,fun r qs kinds H3 f3 ⟨ca,ka,hr3,hca,hqs,hka,md,sat,_⟩=>?_⟩;have t3:=Tup.of0 f3;have hP3:=hP2.keep t3;have hK3:=hK2.keepT t3;have haa3:=t3 _ _ haa;have hUk:∀x∈kinds,∃l,Up tr x l:=fun x hx=>hU x (md.kt x hx).1;have hkn:kinds.length<=12:=(md.few hL hT h12 hI hsl hU).2;have hqn:qs.length<=73:=by have:=(md.few hL hT h12 hI hsl hU).1;rwa [lqm]at this
 have satK:∀{Hy:Hp}{come:List (Str×Str)}{kds:List Str},FrS [] H2 Hy->((∀z∈zj6 (zh2 ks m0),Sat Hy (kdOf ks tr) tr ss come kds z)↔∀z∈zj6 (zh2 ks m0),Sat H2 (kdOf ks tr) tr ss come kds z):=fun fy=>⟨fun h z hz=>(Sat.keep (Tup.of0 fy) (hI z hz)).mp (h z hz),fun h z hz=>(Sat.keep (Tup.of0 fy) (hI z hz)).mpr (h z hz)⟩;refine⟨r,_,rfl,SqT.of hr3,rfl,_,_,rfl,_,_,rfl,rfl,?_⟩;refine⟨s2,fun pd hpd=>⟨_,rfl,pd,ca,MN,qs,rfl,rfl,SqT.of zb1,.inr (SqT.of ((Tup.new hpd) _ _ hca)),BT.pd fun q hq=>(hqs q hq).keep (Tup.new hpd),_,rfl,?_⟩⟩;rw[wt8 md.m0];refine iteF ?_;have f4:FrS [] H3 (upd H3 pd (.tup [.str "",.str ""])):=FrS.new hpd;generalize upd H3 pd (.tup [.str "",.str ""])=H4 at f4;refine⟨_,rfl,ka,rfl,⟨_,SqT.of (f4 _ _ wr0 hka)⟩,fun Dl hDl=>?_⟩;refine zm0 (xs:=kinds.map V.str) (NoI H4 Dl aa) ⟨_,rfl,(FrS.refl).put hDl,zb1⟩ ?_ ?_ ?_
 ·rintro j σ Hy hj ⟨_,_,fy,_⟩;exact SqT.of ((f4.trans fy) _ _ wr0 hka)
 ·rintro j x σ Hy hx ⟨x0,rfl,fy,hDy⟩;rw[wr3,wr6]at hx;obtain⟨y,hy,rfl⟩:=hx;refine⟨_,rfl,_,rfl,aa,_,rfl,.inr (SqT.of ((f4.trans fy) _ _ wr0 haa3)),rfl,zf8 _,_,rfl,?_⟩;show if (!inV (.str y) (ss.map V.str))=true then _ else _
  rw[zj8,wt8 (md.kt y (ws4 hy)).1];exact iteF ⟨_,rfl,fy,hDy⟩
 rintro σ H5 ⟨x0,rfl,f5,hD5⟩;refine⟨wt6 _,fun De hDe=>⟨Dl,De,[],rfl,rfl,zb4 hD5 hDe,SqL.of (by rw[zb5 (zb4 hD5 hDe)];exact hD5),SqL.of zb1,_,rfl,?_⟩⟩;refine iteF ?_;have f35:FrS [] H3 (upd H5 De (.lst [])):=f4.trans (f5.trans (FrS.new hDe));generalize upd H5 De (.lst [])=H6 at f35;have t36:=Tup.of0 f35;refine⟨_,rfl,_,rfl,_,rfl,_,rfl,p,aa,ca,ka,ks,m0,tr,ss,qs,kinds,Z,rfl,hP3.keep t36,hK3.keepT t36,hT,h12,hL,t36 _ _ haa3,.inr (t36 _ _ hca),fun q hq=>(hqs q hq).keep t36,.inr (t36 _ _ hka),hUk,fun b H7 f7 hb=>⟨_,rfl,?_⟩⟩;have eb':b=true:=hb.mpr ((satK (f3.trans f35)).mpr sat);subst eb';refine iteF ?_;have f37:=f35.trans f7;have t37:=Tup.of0 f37;refine⟨_,rfl,ca,rfl,⟨_,SqT.of (t37 _ _ hca)⟩,?_⟩;refine zj4 (xs:=qs.map fun q=>V.ref q.2) (SomI H7 [some (.ref a),some kx',some (.ref hd),some (.ref p),some (.ref aa),some (.ref ca),some (.ref ka)]) ⟨_,_,rfl,FrS.refl⟩ ?_ ?_ ?_
 ·rintro j σ Hy hj ⟨_,_,_,fy⟩;exact SqT.of ((f37.trans fy) _ _ wr0 hca)
 ·rintro j x σ Hy hx ⟨x7,x8,rfl,fy⟩;rw[wr3,wr6]at hx;obtain⟨q0,hq0,rfl⟩:=hx;have hq0m:=ws4 hq0;have f3y:=f37.trans fy;have hcy:=f3y _ _ wr0 hca;refine⟨_,rfl,ca,rfl,⟨_,SqT.of hcy⟩,fun Dl hDl=>?_⟩;refine zm0 (xs:=qs.map fun q=>V.ref q.2) (RsI Hy Dl (.ref q0.2) qs (fun q=>!decide ([q.1.1,q.1.2]=[q0.1.1,q0.1.2]))) ⟨_,rfl,(FrS.refl).put hDl,zb1⟩ ?_ ?_ ?_
  ·rintro l σ Hz hl ⟨_,_,fz,_⟩;exact SqT.of (fz _ _ wr0 hcy)
  ·rintro l x σ Hz hx ⟨x0,rfl,fz,hDz⟩;rw[wr3,wr6]at hx;obtain⟨q1,hq1,rfl⟩:=hx;have t3z:=Tup.of0 (f3y.trans fz);have eF:(qs.take (l+1)).filter (fun q=>!decide ([q.1.1,q.1.2]=[q0.1.1,q0.1.2]))=(qs.take l).filter (fun q=>!decide ([q.1.1,q.1.2]=[q0.1.1,q0.1.2]))++[q1].filter (fun q=>!decide ([q.1.1,q.1.2]=[q0.1.1,q0.1.2])):=by
    rw[ws7,hq1,vk6];rfl
   have hfl:((qs.take l).filter (fun q=>!decide ([q.1.1,q.1.2]=[q0.1.1,q0.1.2]))).length<=73:=by
    have h2:=vc3 (fun q:Pr×Addr=>!decide ([q.1.1,q.1.2]=[q0.1.1,q0.1.2])) (qs.take l);rw[wt4]at h2;lia
   refine⟨_,rfl,_,rfl,q1.2,q0.2,[q1.1.1,q1.1.2],[q0.1.1,q0.1.2],rfl,rfl,((hqs q1 (ws4 hq1)).keep t3z).sq,((hqs q0 hq0m).keep t3z).sq,_,rfl,?_⟩;refine ite2 (fun c=>?_) (fun c=>?_)
   ·refine⟨_,rfl,_,hDz,zc0 (by rw[lqm];lia),_,rfl,fz.put hDl,?_⟩;rw[zb1,eF,vg1 (p:=fun q:Pr×Addr=>!decide ([q.1.1,q.1.2]=[q0.1.1,q0.1.2])) c,vd0,wr9];rfl
   ·refine⟨_,rfl,fz,?_⟩;rw[eF,vg0 (p:=fun q:Pr×Addr=>!decide ([q.1.1,q.1.2]=[q0.1.1,q0.1.2])) c,vd0,wx1];exact hDz
  rintro σ Hz ⟨x0,rfl,fz,hDz⟩;rw[lqm,wr8 (wr5 _)]at hDz;have hmem:∀m',m'∈(qs.filter (fun q=>!decide ([q.1.1,q.1.2]=[q0.1.1,q0.1.2]))).map (·.1)↔m'∈qs.map (·.1)/\m'≠q0.1:=fun m'=>by
   constructor
   ·intro h;obtain⟨q1,h1,rfl⟩:=ws2.mp h;obtain⟨h1,h2⟩:=wx8.mp h1;refine⟨ws2.mpr ⟨q1,h1,rfl⟩,fun e=>?_⟩;rw[e]at h2;simp at h2
   ·rintro⟨h,hne⟩;obtain⟨q1,h1,rfl⟩:=ws2.mp h;refine ws2.mpr ⟨q1,wx8.mpr ⟨h1,?_⟩,rfl⟩;have:¬[q1.1.1,q1.1.2]=[q0.1.1,q0.1.2]:=fun e=>hne (by
     injection e with e1 e2;injection e2 with e2 _;exact Prod.ext e1 e2)
    rw[wv8 this];rfl
  generalize hrs:qs.filter (fun q=>!decide ([q.1.1,q.1.2]=[q0.1.1,q0.1.2]))=rs at hDz hmem;have hrq:∀q∈rs,q∈qs:=fun q hq=>by rw[←hrs]at hq;exact(wx8.mp hq).1
  have f3z:=f3y.trans fz;refine⟨_,rfl,s2,fun pe hpe=>?_⟩;have f3e:=f3z.trans (FrS.new (o:=.tup [.str "",.str ""]) hpe);have t3e:=Tup.of0 f3e;have hDe:=(FrS.new (S:=[]) (o:=.tup [.str "",.str ""]) hpe) _ _ wr0 hDz;refine⟨q0.2,pe,[q0.1.1,q0.1.2],["",""],rfl,rfl,((hqs q0 hq0m).keep t3e).sq,SqT.of zb1,_,rfl,?_⟩;have fze:=(fy.trans fz).trans (FrS.new (o:=.tup [.str "",.str ""]) hpe);generalize upd Hz pe (.tup [.str "",.str ""])=H8 at f3e t3e hDe fze;refine ite2 (fun c=>?_) (fun c=>?_)
  rotate_left
  ·exact iteF ⟨_,_,rfl,fze⟩
  have hne:q0.1≠MN:=fun e=>by rw[e]at c;simp at c
  refine⟨_,rfl,_,rfl,_,rfl,_,rfl,p,aa,Dl,ka,ks,m0,tr,ss,rs,kinds,Z,rfl,hP3.keep t3e,hK3.keepT t3e,hT,h12,hL,t3e _ _ haa3,.inl hDe,fun q hq=>(hqs q (hrq q hq)).keep t3e,.inr (t3e _ _ hka),hUk,fun b H9 f9 hb=>⟨_,rfl,?_⟩⟩;refine ite2 (fun c2=>?_) (fun _=>⟨_,_,rfl,fze.trans f9⟩);exact absurd ((satK (f3.trans f3e)).mp (hb.mp c2)) (md.noBody (ws2.mpr ⟨q0,hq0m,rfl⟩) hne hmem)
 rintro σ H8 ⟨x7,x8,rfl,f8⟩;have f38:=f37.trans f8;have t38:=Tup.of0 f38;refine⟨_,rfl,ka,rfl,⟨_,SqT.of (t38 _ _ hka)⟩,?_⟩;refine zj4 (xs:=kinds.map V.str) (SomI H8 [some (.ref a),some kx',some (.ref hd),some (.ref p),some (.ref aa),some (.ref ca),some (.ref ka)]) ⟨_,_,rfl,FrS.refl⟩ ?_ ?_ ?_
 ·rintro j σ Hy hj ⟨_,_,_,fy⟩;exact SqT.of ((f38.trans fy) _ _ wr0 hka)
 ·rintro j x σ Hy hx ⟨x7,x8,rfl,fy⟩;rw[wr3,wr6]at hx;obtain⟨k0,hk0,rfl⟩:=hx;have hk0m:=ws4 hk0;have f3y:=f38.trans fy;have hky:=f3y _ _ wr0 hka;refine⟨_,rfl,ka,rfl,⟨_,SqT.of hky⟩,fun Dl hDl=>?_⟩;refine zm0 (xs:=kinds.map V.str) (RkI Hy Dl (.str k0) kinds (fun x=>!decide (V.str x=V.str k0))) ⟨_,rfl,(FrS.refl).put hDl,zb1⟩ ?_ ?_ ?_
  ·rintro l σ Hz hl ⟨_,_,fz,_⟩;exact SqT.of (fz _ _ wr0 hky)
  ·rintro l x σ Hz hx ⟨x0,rfl,fz,hDz⟩;rw[wr3,wr6]at hx;obtain⟨y,hy,rfl⟩:=hx;have eF:(kinds.take (l+1)).filter (fun x=>!decide (V.str x=V.str k0))=(kinds.take l).filter (fun x=>!decide (V.str x=V.str k0))++[y].filter (fun x=>!decide (V.str x=V.str k0)):=by
    rw[ws7,hy,vk6];rfl
   have hfl:((kinds.take l).filter (fun x=>!decide (V.str x=V.str k0))).length<=73:=by
    have h2:=vc3 (fun x=>!decide (V.str x=V.str k0)) (kinds.take l);rw[wt4]at h2;lia
   refine⟨_,rfl,_,rfl,rfl,_,rfl,?_⟩;refine ite2 (fun c=>?_) (fun c=>?_)
   ·refine⟨_,rfl,_,hDz,zc0 (by rw[lqm];lia),_,rfl,fz.put hDl,?_⟩;rw[zb1,eF,vg1 (p:=fun x=>!decide (V.str x=V.str k0)) c,vd0,wr9];rfl
   ·refine⟨_,rfl,fz,?_⟩;rw[eF,vg0 (p:=fun x=>!decide (V.str x=V.str k0)) c,vd0,wx1];exact hDz
  rintro σ Hz ⟨x0,rfl,fz,hDz⟩;rw[lqm,wr8 (wr5 _)]at hDz;have f3z:=f3y.trans fz;have t3z:=Tup.of0 f3z;refine⟨_,rfl,_,rfl,_,rfl,_,rfl,p,aa,ca,Dl,ks,m0,tr,ss,qs,_,Z,rfl,hP3.keep t3z,hK3.keepT t3z,hT,h12,hL,t3z _ _ haa3,.inr (t3z _ _ hca),fun q hq=>(hqs q hq).keep t3z,.inl hDz,fun x hx=>hUk x (wx8.mp hx).1,fun b H9 f9 hb=>⟨_,rfl,?_⟩⟩;refine ite2 (fun c2=>?_) (fun _=>⟨_,_,rfl,(fy.trans fz).trans f9⟩);refine absurd ((satK (f3.trans f3z)).mp (hb.mp c2)) (md.noKind hk0m fun h=>?_);have:=(wx8.mp h).2;simp at this
 rintro σ H9 ⟨x7,x8,rfl,f9⟩;exact⟨_,_,_,_,_,_,_,_,rfl,wn4 hSx fun b o e=>(f3.trans (f38.trans f9)) b o wr0 (k2 b o e)⟩
section
variable{k:Nat}{nm:Str}{st:Stmt}{ps:List Str}{sp:Sp}
inductive Fx(K:PySem.W.Frag)(nm:Str)(st:Stmt):Prop
 | mk {f:Addr} {od an:Option Addr} {sl:Array (Option Value)} {oc kV dc pm cd ct:Value} (a:PySem.W.nsIn K mainGlobals nm=some (some (.ref f))) (l:K.lookup f=some ⟨oc,od,.func (PySem.W.fnOf nm nm (zq2 st) (zg9 st) (zc2 st) .none kV dc pm an cd ct),sl⟩) (c:PySem.W.codeIn K cd nm=true) (k:PySem.W.keepIn K (.ref f)=true):Fx K nm st
structure Fy(K:PySem.W.Frag)(mg:Str->Option Value)(nm:Str)(st:Stmt)(ps:List Str)(f:Addr)(fd:FuncData):Prop where
 F:Fun K nm nm st f fd
 b:Binds K fd ps []
 k:PySem.W.keepIn K (.ref f)=true
 m:mg nm=some (.ref f)
theorem Fx.y{h:Heap}(p:Fx K nm st)(X:K.In h)(G:h.Ns mainGlobals mg)(hb:∀(kV doc pm:Value)(an:Option Addr)(cdv ct:Value)(us:List Value),us.length=ps.length->bindArgs (PySem.W.fnOf nm nm (zq2 st) (zg9 st) (zc2 st) .none kV doc pm an cdv ct) ⟨us,[]⟩=pure (ps.zip us)):∃f fd,Fy K mg nm st ps f fd:=by
 obtain⟨a,l,c,k⟩:=p;have F:=wc1 (st:=st) l c k;exact⟨_,_,F,F.binds hb,k,PySem.W.mg_of X G a⟩
theorem Fy.c(y:Fy K mg nm st ps f fd)(h:FnOk P w K mg base CX0 k f fd ps sp):Cal P w K mg base k nm ps sp:=⟨f,fd,h,y.b,y.k,y.m⟩
theorem ln1{P:List Value->Prop}(h:∀a,P [a])(us:List Value)(hl:us.length=1):P us:=match us,hl with | [a],_=>h a
theorem ln2{P:List Value->Prop}(h:∀a b,P [a,b])(us:List Value)(hl:us.length=2):P us:=match us,hl with | [a,b],_=>h a b
theorem ln3{P:List Value->Prop}(h:∀a b c,P [a,b,c])(us:List Value)(hl:us.length=3):P us:=match us,hl with | [a,b,c],_=>h a b c
theorem ln4{P:List Value->Prop}(h:∀a b c d,P [a,b,c,d])(us:List Value)(hl:us.length=4):P us:=match us,hl with | [a,b,c,d],_=>h a b c d
theorem ln5{P:List Value->Prop}(h:∀a b c d e,P [a,b,c,d,e])(us:List Value)(hl:us.length=5):P us:=match us,hl with | [a,b,c,d,e],_=>h a b c d e
theorem ln6{P:List Value->Prop}(h:∀a b c d e f,P [a,b,c,d,e,f])(us:List Value)(hl:us.length=6):P us:=match us,hl with | [a,b,c,d,e,f],_=>h a b c d e f
theorem xx0(F:Fun K "_law_rows" "_law_rows" xv3 f fd):FnOk P w K mg base CX0 (k+1) f fd yd5 (yd0 0):=F.ok yv9 (fun _ _ _ _ h=>h.elim) fun _ _ _ _ _ _ _ _ _ h=>h.elim
theorem xj2(F:Fun K "_law_flat" "_law_flat" xz4 f fd):FnOk P w K mg base CX0 (k+1) f fd pLis (yn7 0):=F.ok zs7 (fun _ _ _ _ h=>h.elim) fun _ _ _ _ _ _ _ _ _ h=>h.elim
theorem xd9(F:Fun K "lay" "lay" sLay f fd):FnOk P w K mg base CX0 (k+1) f fd pLay (xp1 0):=F.ok xk7 (fun _ _ _ _ h=>h.elim) fun _ _ _ _ _ _ _ _ _ h=>h.elim
end
theorem xf5{K:PySem.W.Frag}{a:Addr}{od:Option Addr}{x y:Str}{t1 t2 n:Nat}{sl:Array (Option Value)}(l:K.lookup a=some ⟨.type "tuple",od,.seq #[.str x t1,.str y t2] n,sl⟩)(H:Hp):SqT K H a [.str x,.str y]:=
 .inr ⟨_,_,_,l,rfl,rfl,by show 2<=sizeLine;exact ws3 (zc0 (by decide)),.cons ⟨_,rfl⟩ (.cons ⟨_,rfl⟩ .nil)⟩
set_option maxHeartbeats 4000000 in
theorem all_mk{l:PySem.W.OpenLaw}{w:World}{K:PySem.W.Frag}{h:Heap}{mg:Str->Option Value}{fa:Addr}(X:K.In h)(G:h.Ns mainGlobals mg)(hfa:mg "law"=some (.ref fa))
  {am ah:Addr} {odm odh:Option Addr} {slm slh:Array (Option Value)} {tm1 tm2 nm th1 th2 nh:Nat}
  (p1:Fx K "elders" ys1)
  (p2:Fx K "is_below" xm1)
  (p3:Fx K "all_below" wn6)
  (p4:Fx K "deed_of" yr4)
  (p5:Fx K "answer" ys9)
  (p6:Fx K "bodies" ys0)
  (p7:Fx K "rows_within" yv0)
  (p8:Fx K "lay" sLay)
  (p9:Fx K "numbered" wn7)
  (p10:Fx K "kinds_by" yh3)
  (p11:Fx K "bodies_by" zx7)
  (p12:Fx K "made_paper" wp0)
  (p13:Fx K "_law_hand" wm4)
  (p14:Fx K "_law_take" wk3)
  (p15:Fx K "_law_of" sOf)
  (p16:Fx K "_law_words" zs6)
  (p17:Fx K "_law_tree" wj8)
  (p18:Fx K "_law_world" zv7)
  (p19:Fx K "_law_line" wq7)
  (p20:Fx K "_law_has" sHas)
  (p21:Fx K "_law_variable" sVar)
  (p22:Fx K "_law_target" sTgt)
  (p23:Fx K "_law_make" wh9)
  (p24:Fx K "_law_args" wj0)
  (p25:Fx K "_law_call" wg1)
  (p26:Fx K "_law_field" xg6)
  (p27:Fx K "_law_row" sRow)
  (p28:Fx K "_law_rows" xv3)
  (p29:Fx K "_law_deed" wh2)
  (p30:Fx K "_law_program" wp9)
  (p31:Fx K "_law_there" xg0)
  (p32:Fx K "_law_flat" xz4)
  (p33:Fx K "_law_numbered" wq2)
  (p34:Fx K "_law_up" sUp)
  (p35:Fx K "_law_finds" xn0)
  (p36:Fx K "_law_closed" yq9)
  (p37:Fx K "law" sLaw)
  (aM:PySem.W.nsIn K mainGlobals "MAIN"=some (some (.ref am))) (lM:K.lookup am=some ⟨.type "tuple",odm,.seq #[.str "" tm1,.str "" tm2] nm,slm⟩)
  (aH:PySem.W.nsIn K mainGlobals "HOLDERS"=some (some (.ref ah))) (lH:K.lookup ah=some ⟨.type "tuple",odh,.seq #[.str "either" th1,.str "again" th2] nh,slh⟩)
  (z:∀x∈(["len","abs","int","range","tuple","dict","list","any","zip","enumerate","sorted","max","min","reversed"]:List Str),PySem.W.nsIn K mainGlobals x=some none):
  ∃fd:FuncData,(∀(s:Shared)(v:Value),BindsTo s fd ⟨[v],[]⟩ [("_law_script",v)])/\∀base:Heap,K.In base->base.Ns mainGlobals mg->FnOk l.prog w K mg base CX0 65 fa fd ["_law_script"] (xz0 K):=by
 have mM:=PySem.W.mg_of X G aM;have mH:=PySem.W.mg_of X G aH;obtain⟨_,_,y1⟩:=p1.y (ps:=["program","kind"]) X G fun _ _ _ _ _ _=>ln2 fun _ _=>rfl;obtain⟨_,_,y2⟩:=p2.y (ps:=["program","one","other"]) X G fun _ _ _ _ _ _=>ln3 fun _ _ _=>rfl;obtain⟨_,_,y3⟩:=p3.y (ps:=["program","kinds","other"]) X G fun _ _ _ _ _ _=>ln3 fun _ _ _=>rfl;obtain⟨_,_,y4⟩:=p4.y (ps:=["program","kind","deed"]) X G fun _ _ _ _ _ _=>ln3 fun _ _ _=>rfl;obtain⟨_,_,y5⟩:=p5.y (ps:=["program","kind","deed"]) X G fun _ _ _ _ _ _=>ln3 fun _ _ _=>rfl;obtain⟨_,_,y6⟩:=p6.y (ps:=["program"]) X G fun _ _ _ _ _ _=>ln1 fun _=>rfl;obtain⟨_,_,y7⟩:=p7.y (ps:=["row"]) X G fun _ _ _ _ _ _=>ln1 fun _=>rfl;obtain⟨_,_,y8⟩:=p8.y (ps:=["body","rows","found"]) X G fun _ _ _ _ _ _=>ln3 fun _ _ _=>rfl;obtain⟨_,_,y9⟩:=p9.y (ps:=["program"]) X G fun _ _ _ _ _ _=>ln1 fun _=>rfl;obtain⟨_,_,y10⟩:=p10.y (ps:=["there","row"]) X G fun _ _ _ _ _ _=>ln2 fun _ _=>rfl;obtain⟨_,_,y11⟩:=p11.y (ps:=["program","kinds","row"]) X G fun _ _ _ _ _ _=>ln3 fun _ _ _=>rfl;obtain⟨_,_,y12⟩:=p12.y (ps:=["program","there"]) X G fun _ _ _ _ _ _=>ln2 fun _ _=>rfl;obtain⟨_,_,y13⟩:=p13.y (ps:=["_law_script","_law_k"]) X G fun _ _ _ _ _ _=>ln2 fun _ _=>rfl;obtain⟨_,_,y14⟩:=p14.y (ps:=["_law_hand_here","_law_many"]) X G fun _ _ _ _ _ _=>ln2 fun _ _=>rfl;obtain⟨_,_,y15⟩:=p15.y (ps:=["_law_hand_here","_law_some"]) X G fun _ _ _ _ _ _=>ln2 fun _ _=>rfl;obtain⟨_,_,y16⟩:=p16.y (ps:=["_law_hand_here","_law_many"]) X G fun _ _ _ _ _ _=>ln2 fun _ _=>rfl;obtain⟨_,_,y17⟩:=p17.y (ps:=["_law_hand_here"]) X G fun _ _ _ _ _ _=>ln1 fun _=>rfl;obtain⟨_,_,y18⟩:=p18.y (ps:=["_law_hand_here"]) X G fun _ _ _ _ _ _=>ln1 fun _=>rfl;obtain⟨_,_,y19⟩:=p19.y (ps:=["_law_world_here","_law_kind"]) X G fun _ _ _ _ _ _=>ln2 fun _ _=>rfl;obtain⟨_,_,y20⟩:=p20.y (ps:=["_law_world_here","_law_kind","_law_deed_here"]) X G fun _ _ _ _ _ _=>ln3 fun _ _ _=>rfl;obtain⟨_,_,y21⟩:=p21.y (ps:=["_law_hand_here","_law_world_here","_law_env"]) X G fun _ _ _ _ _ _=>ln3 fun _ _ _=>rfl;obtain⟨_,_,y22⟩:=p22.y (ps:=["_law_hand_here","_law_world_here","_law_env"]) X G fun _ _ _ _ _ _=>ln3 fun _ _ _=>rfl;obtain⟨_,_,y23⟩:=p23.y (ps:=["_law_hand_here","_law_world_here","_law_env"]) X G fun _ _ _ _ _ _=>ln3 fun _ _ _=>rfl;obtain⟨_,_,y24⟩:=p24.y (ps:=["_law_hand_here","_law_world_here","_law_env","_law_above","_law_deed_here"]) X G fun _ _ _ _ _ _=>ln5 fun _ _ _ _ _=>rfl;obtain⟨_,_,y25⟩:=p25.y (ps:=["_law_hand_here","_law_world_here","_law_env","_law_level"]) X G fun _ _ _ _ _ _=>ln4 fun _ _ _ _=>rfl;obtain⟨_,_,y26⟩:=p26.y (ps:=["_law_hand_here","_law_world_here","_law_env"]) X G fun _ _ _ _ _ _=>ln3 fun _ _ _=>rfl;obtain⟨_,_,y27⟩:=p27.y (ps:=["_law_hand_here","_law_world_here","_law_env","_law_level","_law_deep"]) X G fun _ _ _ _ _ _=>ln5 fun _ _ _ _ _=>rfl;obtain⟨_,_,y28⟩:=p28.y (ps:=["_law_hand_here","_law_world_here","_law_env","_law_level","_law_deep","_law_most"]) X G fun _ _ _ _ _ _=>ln6 fun _ _ _ _ _ _=>rfl;obtain⟨_,_,y29⟩:=p29.y (ps:=["_law_hand_here","_law_world_here","_law_kind","_law_level"]) X G fun _ _ _ _ _ _=>ln4 fun _ _ _ _=>rfl;obtain⟨_,_,y30⟩:=p30.y (ps:=["_law_hand_here","_law_most"]) X G fun _ _ _ _ _ _=>ln2 fun _ _=>rfl;obtain⟨_,_,y31⟩:=p31.y (ps:=["_law_hand_here","_law_program_here"]) X G fun _ _ _ _ _ _=>ln2 fun _ _=>rfl;obtain⟨_,_,y32⟩:=p32.y (ps:=["_law_rows_here"]) X G fun _ _ _ _ _ _=>ln1 fun _=>rfl;obtain⟨_,_,y33⟩:=p33.y (ps:=["_law_program_here"]) X G fun _ _ _ _ _ _=>ln1 fun _=>rfl;obtain⟨_,_,y34⟩:=p34.y (ps:=["_law_program_here","_law_kind"]) X G fun _ _ _ _ _ _=>ln2 fun _ _=>rfl;obtain⟨_,_,y35⟩:=p35.y (ps:=["_law_program_here","_law_kind","_law_deed_here"]) X G fun _ _ _ _ _ _=>ln3 fun _ _ _=>rfl;obtain⟨_,_,y36⟩:=p36.y (ps:=["_law_program_here","_law_there_here","_law_some","_law_kinds"]) X G fun _ _ _ _ _ _=>ln4 fun _ _ _ _=>rfl;have zz:∀x∈(["len","abs","int","range","tuple","dict","list","any","zip","enumerate","sorted","max","min","reversed"]:List Str),mg x=none:=fun x hx=>PySem.W.mg_none_of X G (z x hx);simp only[List.forall_mem_cons]at zz;obtain⟨z1,z2,z3,z4,z5,z6,z7,z8,z9,z10,z11,z12,z13,z14,_⟩:=zz;obtain @⟨_,_,an,_,_,kV,dc,pm,cd,ct,a,ll,c,kk⟩:=p37;cases hfa.symm.trans (PySem.W.mg_of X G a);refine⟨PySem.W.fnOf "law" "law" (zq2 sLaw) (zg9 sLaw) (zc2 sLaw) .none kV dc pm an cd ct,fun s v=>.of_eq rfl,fun base _ _=>?_⟩;have Tk:∀k:Nat,Cal l.prog w K mg base (k+1) _ _ zj0:=fun k=>y14.c (wn5 y14.F);have Of:∀k:Nat,Cal l.prog w K mg base (k+2) _ _ (spOf K):=fun k=>y15.c (ok_of y15.F (Tk k) z1);have Wd:∀k:Nat,Cal l.prog w K mg base (k+2) _ _ yh7:=fun k=>y16.c (xt3 y16.F (Tk k) z1 z4 z3);have Tr:∀k:Nat,Cal l.prog w K mg base (k+3) _ _ xq6:=fun k=>y17.c (wh6 y17.F (Tk (k+1)) (Of k) (Wd k) z1 z10);have Wo:∀k:Nat,Cal l.prog w K mg base (k+4) _ _ yr6:=fun k=>y18.c (xx6 y18.F (Tk (k+2)) (Of (k+1)) (Wd (k+1)) (Tr k) z6 z4 z3);have Li:∀k:Nat,Cal l.prog w K mg base (k+1) _ _ ym2:=fun k=>y19.c (wj4 y19.F z6);have Ha:∀k:Nat,Cal l.prog w K mg base (k+2) _ _ wj6:=fun k=>y20.c (ok_has y20.F (Li k) z8);have Va:∀k:Nat,Cal l.prog w K mg base (k+3) _ _ ym5:=fun k=>y21.c (ok_var y21.F (Tk (k+1)) (Of k) z7);have Tg:∀k:Nat,Cal l.prog w K mg base (k+3) _ _ yt7:=fun k=>y22.c (ok_tgt y22.F (Of k));have Ma:∀k:Nat,Cal l.prog w K mg base (k+4) _ _ yx8:=fun k=>y23.c (wj9 y23.F (Tk (k+2)) (Of (k+1)) (Tg k));have Ar:∀k:Nat,Cal l.prog w K mg base (k+4) _ _ xr4:=fun k=>y24.c (wk7 y24.F (Tk (k+2)) (Of (k+1)) (Va k) (Li (k+2)) z5);have Ca:∀k:Nat,Cal l.prog w K mg base (k+5) _ _ ym8:=fun k=>y25.c (wm7 y25.F (Tk (k+3)) (Of (k+2)) (Va (k+1)) (Li (k+3)) (Tg (k+1)) (Ha (k+2)) (Ma k) (Ar k));have Fi:∀k:Nat,Cal l.prog w K mg base (k+4) _ _ yt4:=fun k=>y26.c (xw5 y26.F (Tk (k+2)) (Of (k+1)) (Va k) (Tg k));have Rn:∀k:Nat,Cal l.prog w K mg base (k+1) _ _ (yd0 0):=fun k=>y28.c (xx0 y28.F);have Row:∀(n k:Nat),Cal l.prog w K mg base (k+5) "_law_rows" yd5 (yd0 n)->Cal l.prog w K mg base (k+6) "_law_row" pRow (wm9 n):=fun n k R=>y27.c (ok_row y27.F (Tk (k+4)) (Of (k+3)) (Va (k+2)) (Tg (k+2)) (Ma (k+1)) (Fi (k+1)) (Ca k) R z4 z1 z5);have Rows:∀(n k:Nat),Cal l.prog w K mg base (k+7+2*n) "_law_rows" yd5 (yb1 n):=by
  intro n
  induction n with
  | zero=>intro k;exact y28.c (xh9 y28.F (Tk (k+5)) (Row 0 k (Rn (k+4))) z4 z5)
  | succ n ih=>
   intro k;have R1:=Row (n+1) (k+2+2*n) (by have:=ih k;rwa [show k+2+2*n+5=k+7+2*n by lia]);have R2:Cal l.prog w K mg base (k+2+2*n+6+1) "_law_rows" yd5 (yb1 (n+1)):=y28.c (xh9 y28.F (by have:=Tk (k+2+2*n+5);exact this) R1 z4 z5);rwa [show k+7+2*(n+1)=k+2+2*n+6+1 by lia]
 have R4:∀k:Nat,Cal l.prog w K mg base (k+15) "_law_rows" yd5 (yb1 4):=fun k=>Rows 4 k;have De:∀k:Nat,Cal l.prog w K mg base (k+16) _ _ yw5:=fun k=>y29.c (wp3 y29.F (Tk (k+14)) (Of (k+13)) (Va (k+12)) (R4 k) z1 z7 z9 z6 z5);have Pr:∀k:Nat,Cal l.prog w K mg base (k+17) _ _ xh6:=fun k=>y30.c (wj7 y30.F (Tk (k+15)) (Of (k+14)) (Wo (k+12)) (De k) (R4 (k+1)) z1 z4 z5 z11);have Hn:∀k:Nat,Cal l.prog w K mg base (k+1) _ _ (xj4 K):=fun k=>y13.c (wj3 y13.F z1 z2 z3);have Bo:∀k:Nat,Cal l.prog w K mg base (k+1) _ _ (yg5 K):=fun k=>y6.c (xn3 y6.F mM (xf5 lM) z5);have Wi:∀k:Nat,Cal l.prog w K mg base (k+1) _ _ yj2:=fun k=>y7.c (xh2 y7.F mH (xf5 lH));have Ly:∀(n k:Nat),Cal l.prog w K mg base (k+2+n) "lay" pLay (xz1 n):=by
  intro n
  induction n with
  | zero=>intro k;exact y8.c (wd2 y8.F (Wi k) (y8.c (xd9 y8.F)) z1 z5)
  | succ n ih=>intro k;exact y8.c (wd2 y8.F (by have:=Wi (k+1+n);rwa [show k+1+n+1=k+2+n by lia]at this) (ih k) z1 z5)
 have Ls:∀(n k:Nat),Cal l.prog w K mg base (k+2+n) "_law_flat" pLis (zw6 n):=by
  intro n
  induction n with
  | zero=>intro k;exact y32.c (yp6 y32.F (y32.c (xj2 y32.F)))
  | succ n ih=>intro k;exact y32.c (yp6 y32.F (ih k))
 have Nu:∀k:Nat,Cal l.prog w K mg base (k+7) _ _ (xg3 K):=fun k=>y9.c (wq4 y9.F (Bo (k+5)) (Ly 4 k) z5);have El:∀k:Nat,Cal l.prog w K mg base (k+1) _ _ zx0:=fun k=>y1.c (xs1 y1.F z5);have Be:∀k:Nat,Cal l.prog w K mg base (k+2) _ _ yk1:=fun k=>y2.c (xx2 y2.F (El k));have AB:∀k:Nat,Cal l.prog w K mg base (k+3) _ _ xp7:=fun k=>y3.c (wq3 y3.F (Be k));have Th:∀k:Nat,Cal l.prog w K mg base (k+2) _ _ yt9:=fun k=>y31.c (xx9 y31.F (Tk k) z5 z11);have N2:∀k:Nat,Cal l.prog w K mg base (k+7) _ _ (xf2 K):=fun k=>y33.c (wh4 y33.F (Ls 4 k) z10);have Up:∀k:Nat,Cal l.prog w K mg base (k+1) _ _ spUp:=fun k=>y34.c (ok_up y34.F z6);have DO:∀k:Nat,Cal l.prog w K mg base (k+1) _ _ yk2:=fun k=>y4.c (xp8 y4.F);have An:∀k:Nat,Cal l.prog w K mg base (k+2) _ _ zw5:=fun k=>y5.c (xs3 y5.F (El k) (DO k) z14);have KB:∀k:Nat,Cal l.prog w K mg base (k+1) _ _ zx8:=fun k=>y10.c (xc2 y10.F);have BB:∀k:Nat,Cal l.prog w K mg base (k+4) _ _ zt9:=fun k=>y11.c (yr1 y11.F (An (k+1)) (AB k));have MP:∀k:Nat,Cal l.prog w K mg base (k+8) _ _ (xh8 K):=fun k=>y12.c (wn1 y12.F (Nu k) (KB (k+6)) (BB (k+3)) mM (xf5 lM) z5 z11 z1 z7);have Fn:∀k:Nat,Cal l.prog w K mg base (k+2) _ _ yt0:=fun k=>y35.c (xw3 y35.F (Up k) z6);have Cl:∀k:Nat,Cal l.prog w K mg base (k+8) _ _ (yj8 K):=fun k=>y36.c (xn1 y36.F (N2 k) (Up (k+6)) (Fn (k+5)));exact ok_law (wc1 (st:=sLaw) ll c kk) (Hn 63) (Pr 47) (Of 62) (Th 62) (MP 56) (Cl 56) z1 z4 z12 z13
theorem walk{l:PySem.W.OpenLaw}{q:Program}{loose:List Str}{XP:(Str->Option Value)->Heap->Prop}{YP:World->Heap->Prop}{d:DefRec}{K:Params->PySem.W.Frag}(hn:l.most=some 63)(hdf:d.params.defaults=[])
  (hY:∀(w:World)(h:Heap),YP w h->(K w.params).In h)
  (F:∀(w:World)(mg:Str->Option Value)(fa:Addr)(h:Heap),(K w.params).In h->h.Ns mainGlobals mg->mg d.name=some (.ref fa)->
   ∃fd:FuncData,(∀(s:Shared)(u:Value),BindsTo s fd ⟨[u],[]⟩ [("_law_script",u)])/\∀base:Heap,(K w.params).In base->base.Ns mainGlobals mg->FnOk l.prog w (K w.params) mg base CX0 65 fa fd ["_law_script"] (xz0 (K w.params))):
  PySem.W.WalkO q loose XP YP l.row.toRowW d [] (fun f vs=>PySem.call f vs):=
 L2.wf9 (n:=63) (k:=65) (x:="_law_script") (CX:=fun _=>CX0) (sp:=fun w=>xz0 (K w.params)) hn (by decide) hdf ⟨rfl,by decide,by decide⟩ hY F (fun _ _ a ns hl _ hS=>⟨a,ns,rfl,hS,hl,fun _=>rfl⟩) fun _ _ _ _ _ z=>z
end Gn
def PySem.W.Fast.tw16711415068286199901 : Unit := ()
def PySem.W.Fast.tw1237574955777355384 : Unit := ()
def PySem.W.Fast.tw18370516088585610335 : Unit := ()
def PySem.W.Fast.tw178587634636953121 : Unit := ()
def PySem.W.Fast.tw5308496055671499115 : Unit := ()
def PySem.W.Fast.tw16052159283250919314 : Unit := ()
def PySem.W.Fast.tw10282884868250425223 : Unit := ()
def PySem.W.Fast.tw3051041200249252207 : Unit := ()
def PySem.W.Fast.tw5837489950165240860 : Unit := ()
def PySem.W.Fast.tw14716402846017199556 : Unit := ()
def PySem.W.Fast.tw9383723153873672248 : Unit := ()
def PySem.W.Fast.tw16831489960130664304 : Unit := ()
def PySem.W.Fast.tw14497034620600336260 : Unit := ()
def PySem.W.Fast.tw4287040981898522014 : Unit := ()
def PySem.W.Fast.tw10850034816869920123 : Unit := ()
def PySem.W.Fast.tw3070033745963274171 : Unit := ()
def PySem.W.Fast.tw1558113239047686854 : Unit := ()
def PySem.W.Fast.tw2464171619892567931 : Unit := ()
def PySem.W.Fast.tw18266338575918633947 : Unit := ()
def PySem.W.Fast.tw4521672284851858669 : Unit := ()
def PySem.W.Fast.tw5395267243140508959 : Unit := ()
def PySem.W.Fast.tw6152630868818075856 : Unit := ()
def PySem.W.Fast.tw1659527108069411112 : Unit := ()
def PySem.W.Fast.tw17584726687471227091 : Unit := ()
def PySem.W.Fast.tw9514746878371750889 : Unit := ()
def PySem.W.Fast.tw13835950575335934608 : Unit := ()
def PySem.W.Fast.tw9202166674481102975 : Unit := ()
def PySem.W.Fast.tw9734750939595817686 : Unit := ()
def PySem.W.Fast.tw8506812090071880427 : Unit := ()
def PySem.W.Fast.tw2840788130132987964 : Unit := ()
def PySem.W.Fast.tw14483826298813362414 : Unit := ()
def PySem.W.Fast.tw13237016275617901697 : Unit := ()
def PySem.W.Fast.tw6679487886124986078 : Unit := ()
def PySem.W.Fast.tw12761882350103765961 : Unit := ()
def PySem.W.Fast.tw6447419144917494427 : Unit := ()
def PySem.W.Fast.tw17424145154598910182 : Unit := ()
def PySem.W.Fast.tw10186109948908108066 : Unit := ()
def PySem.W.Fast.tw4742855785100744913 : Unit := ()
def PySem.W.Fast.tw17083538289284932420 : Unit := ()
def PySem.W.Fast.tw11998433566432007720 : Unit := ()
def PySem.W.Fast.tw1186933541031068905 : Unit := ()
def PySem.W.Fast.tw9169571852583379911 : Unit := ()
def PySem.W.Fast.tw17595766203003913788 : Unit := ()
def PySem.W.Fast.tw702053712458008010 : Unit := ()
def PySem.W.Fast.tw2973804007561757585 : Unit := ()
def PySem.W.Fast.tw13394565284014865244 : Unit := ()
def PySem.W.Fast.tw8962292035013206299 : Unit := ()
def PySem.W.Fast.tw16967312319265475656 : Unit := ()
def PySem.W.Fast.tw18410566320837169511 : Unit := ()
def PySem.W.Fast.tw6667862645313919673 : Unit := ()
def PySem.W.Fast.tw17286282893432759865 : Unit := ()
def PySem.W.Fast.tw9937017305374430601 : Unit := ()
def PySem.W.Fast.twPySem.W.Fast.tw1237574955777355384 : Unit := ()
def PySem.W.Fast.tw14460695026160126216 : Unit := ()
def PySem.W.Fast.tw990329002132600360 : Unit := ()
def PySem.W.Fast.tw1357451634539925964 : Unit := ()
def PySem.W.Fast.tw14752344494802514933 : Unit := ()
def PySem.W.Fast.tw12044917562323652808 : Unit := ()
def PySem.W.Fast.twPySem.W.Fast.tw10282884868250425223 : Unit := ()
def PySem.W.Fast.tw1252458869173814577 : Unit := ()
def PySem.W.Fast.tw6964730770137409103 : Unit := ()
def PySem.W.Fast.tw1036915419610802674 : Unit := ()
def PySem.W.Fast.tw5959668765739724515 : Unit := ()
def PySem.W.Fast.tw9127356676283860608 : Unit := ()
def PySem.W.Fast.tw12899243240529251790 : Unit := ()
def PySem.W.Fast.tw9426333364116346312 : Unit := ()
def PySem.W.Fast.tw12809973068937303401 : Unit := ()
def PySem.W.Fast.twPySem.W.Fast.tw1659527108069411112 : Unit := ()
def PySem.W.Fast.tw2906647483850058756 : Unit := ()
def PySem.W.Fast.tw7473253929447960848 : Unit := ()
def PySem.W.Fast.tw5250623437296282125 : Unit := ()
def PySem.W.Fast.tw17503004607029514705 : Unit := ()
def PySem.W.Fast.tw11186785009305831638 : Unit := ()
def PySem.W.Fast.tw2388932145809841002 : Unit := ()
def PySem.W.Fast.tw17834534966758074266 : Unit := ()
def PySem.W.Fast.tw6335900730348541622 : Unit := ()
def PySem.W.Fast.tw15605888646907523253 : Unit := ()
def PySem.W.Fast.tw9335883573826394244 : Unit := ()
def PySem.W.Fast.tw4084303571746029806 : Unit := ()
def PySem.W.Fast.tw15968663263328925235 : Unit := ()
def PySem.W.Fast.tw13102406657875892281 : Unit := ()
def PySem.W.Fast.twPySem.W.Fast.tw6152630868818075856 : Unit := ()
def PySem.W.Fast.tw7793169972620504128 : Unit := ()
def PySem.W.Fast.twPySem.W.Fast.tw178587634636953121 : Unit := ()
def PySem.W.Fast.tw2081746501250365637 : Unit := ()
def PySem.W.Fast.tw10576334950084512453 : Unit := ()
def PySem.W.Fast.tw1949578926042194303 : Unit := ()
def PySem.W.Fast.twPySem.W.Fast.tw5308496055671499115 : Unit := ()
def PySem.W.Fast.tw7555699114234447494 : Unit := ()
def PySem.W.Fast.tw14124219409902604773 : Unit := ()
def PySem.W.Fast.tw11795561902798178992 : Unit := ()
open PySem PySem.W PyProof.Rows
set_option maxRecDepth 100000 in
set_option maxHeartbeats 0 in
theorem PySem.Challenge.cw_surecall_k16_whole_made_is_least_holds : PySem.Challenge.rw_surecall_k16_whole_made_is_least.Holds := by
 w_on;o_law;k_head;(case hw=>w_witness2)
 k_fill
 refine Gn.walk (l:=PySem.Challenge.rw_surecall_k16_whole_made_is_least) rfl rfl (fun w h Y=>PySem.W.kIn_of Y) ?F
 case F=>
  intro w mg fa h KX G hmg;refine' Gn.all_mk KX G hmg ⟨?a1,?l1,?c1,?k1⟩ ⟨?a2,?l2,?c2,?k2⟩ ⟨?a3,?l3,?c3,?k3⟩ ⟨?a4,?l4,?c4,?k4⟩ ⟨?a5,?l5,?c5,?k5⟩ ⟨?a6,?l6,?c6,?k6⟩ ⟨?a7,?l7,?c7,?k7⟩ ⟨?a8,?l8,?c8,?k8⟩ ⟨?a9,?l9,?c9,?k9⟩ ⟨?a10,?l10,?c10,?k10⟩ ⟨?a11,?l11,?c11,?k11⟩ ⟨?a12,?l12,?c12,?k12⟩ ⟨?a13,?l13,?c13,?k13⟩ ⟨?a14,?l14,?c14,?k14⟩ ⟨?a15,?l15,?c15,?k15⟩ ⟨?a16,?l16,?c16,?k16⟩ ⟨?a17,?l17,?c17,?k17⟩ ⟨?a18,?l18,?c18,?k18⟩ ⟨?a19,?l19,?c19,?k19⟩ ⟨?a20,?l20,?c20,?k20⟩ ⟨?a21,?l21,?c21,?k21⟩ ⟨?a22,?l22,?c22,?k22⟩ ⟨?a23,?l23,?c23,?k23⟩ ⟨?a24,?l24,?c24,?k24⟩ ⟨?a25,?l25,?c25,?k25⟩ ⟨?a26,?l26,?c26,?k26⟩ ⟨?a27,?l27,?c27,?k27⟩ ⟨?a28,?l28,?c28,?k28⟩ ⟨?a29,?l29,?c29,?k29⟩ ⟨?a30,?l30,?c30,?k30⟩ ⟨?a31,?l31,?c31,?k31⟩ ⟨?a32,?l32,?c32,?k32⟩ ⟨?a33,?l33,?c33,?k33⟩ ⟨?a34,?l34,?c34,?k34⟩ ⟨?a35,?l35,?c35,?k35⟩ ⟨?a36,?l36,?c36,?k36⟩ ⟨?a37,?l37,?c37,?k37⟩ ?aM ?lM ?aH ?lH ?z
  (case a1 | l1 | c1 | k1=>k_is)
  (case a2 | l2 | c2 | k2=>k_is)
  (case a3 | l3 | c3 | k3=>k_is)
  (case a4 | l4 | c4 | k4=>k_is)
  (case a5 | l5 | c5 | k5=>k_is)
  (case a6 | l6 | c6 | k6=>k_is)
  (case a7 | l7 | c7 | k7=>k_is)
  (case a8 | l8 | c8 | k8=>k_is)
  (case a9 | l9 | c9 | k9=>k_is)
  (case a10 | l10 | c10 | k10=>k_is)
  (case a11 | l11 | c11 | k11=>k_is)
  (case a12 | l12 | c12 | k12=>k_is)
  (case a13 | l13 | c13 | k13=>k_is)
  (case a14 | l14 | c14 | k14=>k_is)
  (case a15 | l15 | c15 | k15=>k_is)
  (case a16 | l16 | c16 | k16=>k_is)
  (case a17 | l17 | c17 | k17=>k_is)
  (case a18 | l18 | c18 | k18=>k_is)
  (case a19 | l19 | c19 | k19=>k_is)
  (case a20 | l20 | c20 | k20=>k_is)
  (case a21 | l21 | c21 | k21=>k_is)
  (case a22 | l22 | c22 | k22=>k_is)
  (case a23 | l23 | c23 | k23=>k_is)
  (case a24 | l24 | c24 | k24=>k_is)
  (case a25 | l25 | c25 | k25=>k_is)
  (case a26 | l26 | c26 | k26=>k_is)
  (case a27 | l27 | c27 | k27=>k_is)
  (case a28 | l28 | c28 | k28=>k_is)
  (case a29 | l29 | c29 | k29=>k_is)
  (case a30 | l30 | c30 | k30=>k_is)
  (case a31 | l31 | c31 | k31=>k_is)
  (case a32 | l32 | c32 | k32=>k_is)
  (case a33 | l33 | c33 | k33=>k_is)
  (case a34 | l34 | c34 | k34=>k_is)
  (case a35 | l35 | c35 | k35=>k_is)
  (case a36 | l36 | c36 | k36=>k_is)
  (case a37 | l37 | c37 | k37=>k_is)
  (case aM | lM | aH | lH=>k_is)
  simp only[List.forall_mem_cons];refine⟨?_,?_,?_,?_,?_,?_,?_,?_,?_,?_,?_,?_,?_,?_,fun _ h=>nomatch h⟩ <;> k_is
#print axioms PySem.Challenge.cw_surecall_k16_whole_made_is_least_holds
end
