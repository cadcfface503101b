import PyProof.Rows.All
import Wide.All
import OpenK.AllK
import Wide.FinOn
import Lean
import PyProof.EqAt
import PyProof.EqKinds
import PyProof.TupleCall
import PyProof.NeKinds
import KE.KSortTup
import PySem.Challenge.RW_surecall_k10_whole_fewer_rows
local macro_rules|`($x⁻¹)=>`(($x).heap.objs.size)
local macro_rules|`(↑$x)=>`(($x).length)
local macro_rules|`(tactic|exists $es,*)=>`(tactic|refine⟨$es,*, ?_⟩)
set_option maxHeartbeats 8000000
local macro_rules|`(tactic|rfl')=>`(tactic|decide +kernel)
abbrev Fq:=PySem.W.Frag
abbrev Vp:=PySem.Value->PySem.Shared->Prop
set_option Elab.async false
set_option linter.all false
set_option maxRecDepth 100000
def bH:=@List.getElem?_eq_getElem
def aZ:=@List.not_mem_nil
def aF:=@PySem.wpAny_bind
def wr1:=@List.getElem?_eq_some_iff
def bJ:=@List.length_append
def bS:=@PySem.Heap.get?_push_of_some
def aY:=@Nat.le_refl
def wr5:=@List.mem_cons
def bZ:=@List.getElem?_map
def bX:=@List.map_append
def wr8:=@List.mem_singleton
def bN:=@PySem.Heap.lt_size
def bF:=@PySem.wpAny_pure
def cN:=@List.size_toArray
def dC:=@List.mem_of_getElem?
def cL:=@List.length_cons
def dM:=@Nat.le_of_lt
def cS:=@of_decide_eq_true
def bV:=@Nat.ne_of_lt
def dD:=@PySem.Heap.get?_push_size
def dQ:=@List.length_singleton
def ws9:=@List.mem_map
def wt0:=@Option.map_eq_some_iff
def bT:=@Nat.zero_le
def wt2:=@List.mem_append
def eM:=@List.take_of_length_le
def fR:=@List.getD_eq_getElem?_getD
def eX:=@PySem.F.plainAttrs_list
def dX:=@Bool.false_ne_true
def fQ:=@PySem.F.slot_list_append
def fV:=@PySem.F.type_list_append
def dB:=@List.map_cons
def dW:=@PySem.PassesOwn.never
def fW:=@List.mem_append_right
def fC:=@Nat.lt_of_lt_of_le
def wv3:=@List.nodup_cons
def eS:=@List.length_take
def fE:=@List.take_add_one
def wv6:=@List.mem_iff_getElem?
def bD:=@if_neg
def iR:=@List.getElem?_append_right
def dI:=@Nat.ne_of_gt
def eE:=@decide_eq_true
def bE:=@if_pos
def gX:=@List.mem_cons_of_mem
def jM:=@List.getElem?_append_left
def ww4:=@List.all_eq_true
def fO:=@List.append_nil
def bW:=@Ne.symm
def gA:=@decide_eq_false
def cM:=@congrArg
def iE:=@List.length_reverse
def eA:=@PySem.wpAny_field
def gW:=@List.getElem_mem
def kQ:=@PySem.wpAny_callSpecial?_slot
def gB:=@PySem.boot_len
def mX:=@PyProof.Rows.callWith_type1
def cY:=@or_false
def kI:=@PySem.F.slot_dict_get
def lI:=@PySem.Calls.callWith_builtin
def wx8:=@PyProof.Rows.slot_tuple_getitem
def jG:=@List.append_assoc
def iD:=@List.length_nil
def kA:=@PySem.Calls.spliced_cons
def gF:=@Nat.le_trans
def gI:=@Nat.lt_trans
def iY:=@PySem.wpAny_call_entry
def fF:=@PySem.wpAny_mono
def kF:=@PySem.wpAny_newObj_type
def qM:=@List.mem_of_find?_eq_some
def hC:=@Nat.lt_irrefl
def kP:=@PySem.wpAny_setField_rec
def jN:=@Option.some.inj
def kY:=@List.getElem_of_mem
def nW:=@PySem.builtinLookup_eq_fast
def jV:=@Nat.le_add_right
def rM:=@PySem.Heap.get?_update_other
def iZ:=@PySem.wpAny_seqItems
def iU:=@PySem.wpAny_holding
def iP:=@List.sum_cons
def kN:=@List.find?_cons
def uS:=@PySem.F.plainAttrs_dict
def qQ:=@List.mem_append_left
def sI:=@PySem.Calls.evalArgs_plain
def lL:=@List.length_drop
def uV:=@PySem.F.entry_dict_get
def vc4:=@beq_eq_false_iff_ne
def nD:=@PySem.Calls.spliced_nil
def oI:=@PySem.mem_of_lookup
def kH:=@List.nodup_nil
def jU:=@PySem.W.mg_of
def uE:=@PySem.Heap.get?_update_self
def sJ:=@List.mem_cons_self
def oD:=@Bool.and_eq_true
def iA:=@True.intro
def rY:=@PySem.wpAny_Call_method
def jB:=@Nat.le_succ
def nS:=@PySem.wpAny_specialOf
def mV:=@PySem.F.slot_zip_next
def mR:=@PySem.typeLookup_type
def vd8:=@PySem.F.slot_NoneType_hash
def AY:=@PySem.F.slot_tuple_iterator_next
def vP:=@PySem.wpAny_Call_Name_kw
def vN:=@Int.emod_lt_of_pos
def nI:=@PySem.Heap.size_push
def DB:=@List.getElem?_zip_eq_some
def BM:=@List.drop_eq_getElem_cons
def wG:=@List.forall_mem_cons
def oJ:=@PySem.wpAny_passesOwn
def BD:=@PySem.wpAny_comprehension_free
def tW:=@Array.size_append
def vG:=@Nat.lt_of_succ_lt
def lZ:=@PySem.call_meetsIn
def lJ:=@List.map_map
def yY:=@List.replicate_succ
def CN:=@List.getElem?_cons_zero
def yZ:=@List.map_congr_left
def vg5:=@List.length_eq_zero_iff
def vg6:=@List.mem_reverse
def BX:=@Array.getElem?_eq_none
def zF:=@PySem.tupleKind_room_in1
def eP:=@Or.inl
def vh0:=@List.find?_eq_none
def vQ:=@Bool.eq_iff_iff
def vJ:=@List.foldl_cons
def DL:=@PySem.F.type_dict_get
def vE:=@Int.emod_nonneg
def vT:=@List.find?_some
def BQ:=@List.length_filter_le
def vH:=@List.length_zip
def xI:=@PySem.wpAny_truthy_bool
def rA:=@PySem.wpAny_standAt
def yB:=@Int.toNat_natCast
def tS:=@PySem.wpAny_attempt
def vj2:=@List.map_drop
def rL:=@List.map_take
def vj4:=@PySem.F.slot_tuple_getitem
def eY:=@not_or
def BN:=@PySem.Around.under_plainId
def vj7:=@PySem.F.slot_dict_getitem
def uF:=@PySem.isSubtype_type
def KI:=@List.mem_or_eq_of_mem_set
def yI:=@List.getElem_inj
def vZ:=@Nat.lt_succ_self
def iO:=@if_false
def vk3:=@List.any_eq_true
def yE:=@List.lookup_cons
def EI:=@List.filterMap_cons
def CP:=@Array.length_toList
def DA:=@PySem.F.plain_extend_loop
def CL:=@List.findSome?_cons
def vk9:=@Option.isSome_iff_exists
def vm0:=@PySem.F.slot_list_getattribute
def vm1:=@List.mem_filter
def xV:=@List.of_mem_zip
def vW:=@List.any_cons
def GD:=@PySem.F.args_dict_get_2
def JP:=@PySem.F.args_dict_get_3
def zJ:=@List.forIn_cons
def DU:=@Bool.false_eq_true
def sZ:=@Sum.inr.inj
def mK:=@PySem.wpAny_rule
def BU:=@PySem.wpAny_pyIter_list
def CQ:=@List.reverse_cons
def CT:=@List.flatten_cons
def DC:=@PySem.F.args_zip_next_1
def DY:=@List.foldl_append
def BF:=@Option.some.injEq
def uU:=@PySem.wpAny_typeOf
def tT:=@Nat.lt_or_ge
def uL:=@Nat.zero_add
def vB:=@Nat.sub_self
def sC:=@PySem.call_meets
def aI{α β:Type _}{f:α->β}{l:List α}:↑(l.map f)=↑l:=by simp
section
set_option autoImplicit true
set_option relaxedAutoImplicit true
namespace L2
open PySem PySem.Spec PyProof.Rows
variable{prog:Program}{w:World}{A:Around}{E:Vp}{s:Shared}
variable{X:Cx}
abbrev aJ:=Sum Int Str
def iJ:aJ->Value->Bool
 | .inl k,v=>Value.isInt k v
 | .inr x,v=>Value.isStrOf x v
def xY(w:World):aJ->Int
 | .inl k=>hashInt k
 | .inr x=>hashStr w x
def iI:∀{k:aJ}{v:Value},iJ k v=true->(∃i t,k=Sum.inl i/\v=Value.int i t)\/(∃x t,k=Sum.inr x/\v=Value.str x t)
 | .inl i,v,h=>by
  obtain⟨t,e⟩:=Value.isInt_shape (k:=i) (v:=v) h;exact .inl ⟨i,t,rfl,e⟩
 | .inr x,v,h=>by
  obtain⟨t,e⟩:=Value.isStrOf_shape (x:=x) (v:=v) h;exact .inr ⟨x,t,rfl,e⟩
def TK(i:Int)(t:Tok):iJ (.inl i) (.int i t)=true:=by simp[iJ,Value.isInt]
def GA(x:Str)(t:Tok):iJ (.inr x) (.str x t)=true:=by simp[iJ,Value.isStrOf]
def rO(a b:Int):decide ((Sum.inl a:aJ)=Sum.inl b)=(a == b):=by
 by_cases e:a=b
 .subst e;simp
 .have h:¬(Sum.inl a:aJ)=Sum.inl b:=λq=>e<|Sum.inl.inj q;rw[gA h];exact(vc4.mpr e).symm
def pD(a b:Str):decide ((Sum.inr a:aJ)=Sum.inr b)=decide (a=b):=by
 by_cases e:a=b
 .subst e;simp
 .have h:¬(Sum.inr a:aJ)=Sum.inr b:=λq=>e<|sZ q;rw[gA h,gA e]
def pO(a:Int)(b:Str):decide ((Sum.inl a:aJ)=Sum.inr b)=false:=gA λq=>nomatch q
def qN(a:Str)(b:Int):decide ((Sum.inr a:aJ)=Sum.inl b)=false:=gA λq=>nomatch q
def cI(prog:Program)(w:World):PySem.KeyKind prog w aJ where
 is:=iJ
 hash:=xY w
 inj:=λv a b ha hb=>by
  rcases iI ha with ⟨i,t,rfl,rfl⟩ | ⟨x,t,rfl,rfl⟩
  .rcases iI hb with ⟨j,u,rfl,e⟩ | ⟨y,u,rfl,e⟩
   .injection e with e1 _;rw[e1]
   .exact nomatch e
  .rcases iI hb with ⟨j,u,rfl,e⟩ | ⟨y,u,rfl,e⟩
   .exact nomatch e
   .injection e with e1 _;rw[e1]
 byValue:=λk v h=>by
  rcases iI h with ⟨i,t,rfl,rfl⟩ | ⟨x,t,rfl,rfl⟩ <;> rfl
 pyHash:=λhv h=>by
  rcases iI hv with ⟨i,t,rfl,rfl⟩ | ⟨x,t,rfl,rfl⟩
  .exact wpAny_pyHash_int h
  .exact wpAny_pyHash_str h
 eqBool:=λhu hv h=>by
  rcases iI hu with ⟨i,t,rfl,rfl⟩ | ⟨x,t,rfl,rfl⟩
  .rcases iI hv with ⟨j,u,rfl,rfl⟩ | ⟨y,u,rfl,rfl⟩
   .rw[rO]at h;exact wpAny_eqBool_int h
   .rw[pO]at h;exact SeqAt.EqAt.int_str i t y u _ _ _ _ h
  .rcases iI hv with ⟨j,u,rfl,rfl⟩ | ⟨y,u,rfl,rfl⟩
   .rw[qN]at h;exact SeqAt.EqAt.str_int x t j u _ _ _ _ h
   .rw[pD]at h;exact wpAny_eqBool_str h
 «strs»:=λk x t v h=>by
  rcases iI h with ⟨i,u,rfl,e⟩ | ⟨y,u,rfl,e⟩
  .exact nomatch e
  .injection e with e1 _;subst e1;cases v <;> rfl
def UU(prog:Program)(w:World)(i:Int)(t:Tok):(cI prog w).is (.inl i) (.int i t)=true:=TK i t
def Bi(prog:Program)(w:World)(x:Str)(t:Tok):(cI prog w).is (.inr x) (.str x t)=true:=GA x t
inductive V where
 | non | bl (b:Bool) | int (i:Int) | str (x:Str) | byt (b:Array UInt8) | flt (b:UInt64) | ref (a:Addr) | ty (n:String)
 deriving DecidableEq
def RelV:V->Value->Prop
 | .non,u=>u=Value.none
 | .bl b,u=>u=Value.bool b
 | .int i,u=>∃t,u=Value.int i t
 | .str x,u=>∃t,u=Value.str x t
 | .byt b,u=>∃t,u=Value.bytes b t
 | .flt b,u=>∃t,u=Value.float b t
 | .ref a,u=>u=Value.ref a
 | .ty n,u=>u=Value.type n
abbrev Vals:List V->List Value->Prop:=Paired RelV
theorem Vals.length{xs:List V}{us:List Value}(r:Vals xs us):↑xs=↑us:=Paired.length r
theorem Vals.get:∀{xs:List V}{us:List Value}{i:Nat}{x:V},Vals xs us->xs[i]?=some x->∃u,us[i]?=some u/\RelV x u
 | _,_,_,_,.nil,e=>by simp at e
 | _,_,0,_,.cons r _,e=>by simp at e;subst e;exact⟨_,rfl,r⟩
 | _,_,i+1,x,.cons _ t,e=>by
  obtain⟨u,h1,h2⟩:=Vals.get (i:=i) (x:=x) t (by simpa using e);exact⟨u,by simpa using h1,h2⟩
theorem Vals.set{x:V}{u:Value}(r:RelV x u):∀{xs:List V}{us:List Value}(i:Nat),Vals xs us->Vals (xs.set i x) (us.set i u)
 | _,_,_,.nil=>.nil
 | _,_,0,.cons _ t=>.cons r t
 | _,_,i+1,.cons q t=>.cons q<|Vals.set r i t
theorem Vals.append:∀{xs ys:List V}{us ws:List Value},Vals xs us->Vals ys ws->Vals (xs++ys) (us++ws)
 | _,_,_,_,.nil,s=>s
 | _,_,_,_,.cons r t,s=>.cons r<|Vals.append t s
theorem Vals.take:∀{xs:List V}{us:List Value}(n:Nat),Vals xs us->Vals (xs.take n) (us.take n)
 | _,_,0,_=>.nil
 | _,_,_+1,.nil=>.nil
 | _,_,n+1,.cons r t=>.cons r<|Vals.take n t
theorem Vals.drop:∀{xs:List V}{us:List Value}(n:Nat),Vals xs us->Vals (xs.drop n) (us.drop n)
 | _,_,0,r=>r
 | _,_,_+1,.nil=>.nil
 | _,_,n+1,.cons _ t=>Vals.drop n t
def RelO:Option V->Option Value->Prop
 | some v,some u=>RelV v u
 | none,none=>True
 | _,_=>False
def KV{κ:Type}:List (κ×V)->List (κ×Value)->Prop:=Paired λ(p:κ×V) (q:κ×Value)=>p.1=q.1/\RelV p.2 q.2
def kV:aJ->V
 | .inl i=>.int i
 | .inr x=>.str x
inductive HO where
 /-- a list -/
 | lst (xs:List V)
 /-- a tuple (never changes) -/
 | tup (xs:List V)
 /-- a dict whose keys are ints and texts;one whose keys are tuples of ints and texts (the empty one is both) -/
 | dK (kvs:List (aJ×V)) | dT (kvs:List (List aJ×V))
 /-- a set of ints: its members,its size -/
 | set (S:Int->Bool) (n:Nat)
 /-- an instance of the class at C,its dict at dx,its attributes -/
 | ins (C dx:Addr) (fs:List (Str×V))
 /-- the dict of the instance at x -/
 | own (x:Addr)
 /-- the dict of an exception -/
 | xd (fs:List (Str×V))
 /-- a bound method,f of x -/
 | met (f x:Addr)
 /-- a range object lo,lo+1,.. below hi -/
 | rng (lo hi:Int)
 /-- a thing that is known to the object (the script;a dict while a loop walks it): read,never written while it is so -/
 | frz (o:Obj) (u:HO)
 /-- a eW object's table -/
 | tbl (ps:Array Value)
 /-- any other thing,by what is true of its one object (a def of one's own: SetO a S n:=HO.ext λh=>..) -/
 | ext (φ:Heap->Prop)
abbrev Hp:=Addr->Option HO
def upd(H:Hp)(a:Addr)(o:HO):Hp:=λb=>if b=a then some o else H b
def zb1{H:Hp}{a:Addr}{o:HO}:upd H a o a=some o:=by unfold upd;rw[bE rfl]
def aC{H:Hp}{a b:Addr}{o:HO}(h:b≠a):upd H a o b=H b:=by unfold upd;rw[bD h]
def gS{H:Hp}{a:Addr}{o u:HO}:upd (upd H a o) a u=upd H a u:=by
 funext b;unfold upd;split <;> rfl
def wQ{H:Hp}{a b:Addr}{o u:HO}(h:H a=some o)(h':H b=some u)(d:o≠u):a≠b:=by
 intro e;subst e;rw[h]at h';exact d<|jN h'
def bA{H:Hp}{a b:Addr}{o:HO}(h:H a=some o)(h':H b=none):a≠b:=by
 intro e;subst e;rw[h]at h';cases h'
def DN(h:Heap)(a:Addr):Prop:=∃o,h.get? a=some o/\o.dict=none
section
variable(P:Program)(w:World)
def ObjOk(H:Hp)(h:Heap)(a:Addr):HO->Prop
 | .lst xs=>↑xs<=sizeLine/\∃(its:List Value)(n:Nat),Vals xs its/\h.get? a=some {cls:=.type "list",data:=.seq its.toArray n}
 | .tup xs=>(↑xs<=sizeLine/\DN h a)/\∃its:List Value,Vals xs its/\IsTup h a its.toArray
 | .dK kvs=>↑kvs<=sizeLine/\(a == sysModules)=false/\∃vs,KV kvs vs/\h.DictOf (cI P w) a vs
 | .dT kvs=>↑kvs<=sizeLine/\(a == sysModules)=false/\∃xs:List (List aJ×Addr×Value),
   Paired (λ(p:List aJ×V) (q:List aJ×Addr×Value)=>p.1=q.1/\H q.2.1=some (.tup<|p.1.map kV)/\RelV p.2 q.2.2) kvs xs/\
   ∃o es ep,h.get? a=some o/\o.ExactDict/\o.data=.dict es ep/\es.toList=xs.map (entryOfKey<|tupleKind<|cI P w)/\(xs.map (·.1)).Nodup
 | .set S n=>h.SetOf (intKind P w) a S n
 | .ins C dx fs=>H dx=some (.own a)/\↑fs<=1000/\dx≠a/\h.get? a=some (PySem.W.instObj C dx)/\
   ∃mA,h.Ns1 dx mA/\(∀f,RelO (fs.lookup f)<|mA f)/\PySem.Within mA (fs.map (·.1))
 | .own _=>∃o,h.get? a=some o
 | .xd fs=>∃mA,h.Ns1 a mA/\∀f,RelO (fs.lookup f)<|mA f
 | .rng lo hi=>∃t u v,h.get? a=some {cls:=.type "range",data:=.fields #[.int lo t,.int hi u,.int 1 v]}
 | .frz o u=>h.get? a=some o/\ObjOk H h a u
 | .tbl ps=>h.get? a=some {cls:=.none,data:=.fields ps}
 | .met f x=>h.get? a=some (PySem.W.methodObj (.ref f)<|.ref x)
 | .ext φ=>φ h/\(∃o,h.get? a=some o)/\∀h1 h2:Heap,φ h1->(∀o,h1.get? a=some o->h2.get? a=some o)->φ h2
def HOk(H:Hp)(h:Heap):Prop:=∀a o,H a=some o->ObjOk P w H h a o
end
section
variable{P:Program}{w:World}{H H':Hp}{h h':Heap}{a:Addr}{o:HO}
theorem ObjOk.lt(x:ObjOk P w H h a o):a<h.objs.size:=by
 cases o with
 | lst xs=>obtain⟨_,_,_,_,e⟩:=x;exact bN e
 | tup xs=>obtain⟨_,_,_,p⟩:=x;exact p.lt
 | dK kvs=>obtain⟨_,_,_,_,o,_,_,e,_⟩:=x;exact bN e
 | dT kvs=>obtain⟨_,_,_,_,o,_,_,e,_⟩:=x;exact bN e
 | set S n=>obtain⟨o,_,_,_,e,_⟩:=x;exact bN e
 | ins C dx fs=>obtain⟨_,_,_,e,_⟩:=x;exact bN e
 | own y=>obtain⟨_,e⟩:=x;exact bN e
 | xd fs=>obtain⟨_,⟨_,_,_,e,_⟩,_⟩:=x;exact bN e
 | rng lo hi=>obtain⟨_,_,_,e⟩:=x;exact bN e
 | frz ob u=>obtain⟨e,_⟩:=x;exact bN e
 | tbl ps=>exact bN (show h.get? a=some _ from x)
 | met f y=>exact bN (show h.get? a=some _ from x)
 | ext φ=>obtain⟨_,⟨_,e⟩,_⟩:=x;exact bN e
theorem Paired.mapP{α β:Type}{F G:α->β->Prop}:∀{l₁:List α}{l₂:List β},Paired F l₁ l₂->(∀a b,F a b->G a b)->Paired G l₁ l₂
 | _,_,.nil,_=>.nil
 | _,_,.cons r t,f=>.cons (f _ _ r)<|Paired.mapP t f
def ObjOk.stay(x:ObjOk P w H h a o)(k:∀b u,(b=a\/H b=some (.own a))->h.get? b=some u->h'.get? b=some u)
  (l:∀b,H b=some (.own a)->H' b=some (.own a)) (m:∀b xs,H b=some (.tup xs)->H' b=some (.tup xs)):ObjOk P w H' h' a o:=by
 induction o with
 | lst xs=>obtain⟨z,its,n,r,e⟩:=x;exact⟨z,its,n,r,k _ _ (.inl rfl) e⟩
 | tup xs=>obtain⟨⟨z,od,j,A⟩,y⟩:=x;obtain⟨its,r,i,e,c⟩:=y;exact⟨⟨z,od,k _ _ (.inl rfl) j,A⟩,its,r,i,k _ _ (.inl rfl) e,c⟩
 | dK kvs=>obtain⟨z,y,vs,r,i,es,ep,e,c⟩:=x;exact⟨z,y,vs,r,i,es,ep,k _ _ (.inl rfl) e,c⟩
 | dT kvs=>
  obtain⟨z,y,xs,r,i,es,ep,e,c⟩:=x;exact⟨z,y,xs,Paired.mapP r λp q z=>⟨z.1,m _ _ z.2.1,z.2.2⟩,i,es,ep,k _ _ (.inl rfl) e,c⟩
 | set S n=>obtain⟨i,es,ep,t,e,c⟩:=x;exact⟨i,es,ep,t,k _ _ (.inl rfl) e,c⟩
 | ins C dx fs=>
  obtain⟨d,z,ne,e,mA,⟨od,es,ep,s,c⟩,r⟩:=x;exact⟨l _ d,z,ne,k _ _ (.inl rfl) e,mA,⟨od,es,ep,k _ _ (.inr d) s,c⟩,r⟩
 | own y=>obtain⟨i,e⟩:=x;exact⟨i,k _ _ (.inl rfl) e⟩
 | xd fs=>obtain⟨mA,⟨od,es,ep,e,c⟩,r⟩:=x;exact⟨mA,⟨od,es,ep,k _ _ (.inl rfl) e,c⟩,r⟩
 | rng lo hi=>obtain⟨t,u,v,e⟩:=x;exact⟨t,u,v,k _ _ (.inl rfl) e⟩
 | frz i u ih=>obtain⟨e,q⟩:=x;exact⟨k _ _ (.inl rfl) e,ih q⟩
 | tbl ps=>
  have e:h.get? a=some {cls:=.none,data:=.fields ps}:=x;show h'.get? a=some {cls:=.none,data:=.fields ps};exact k a _ (.inl rfl) e
 | met f y=>
  have e:h.get? a=some (PySem.W.methodObj (.ref f)<|.ref y):=x;show h'.get? a=some (PySem.W.methodObj (.ref f)<|.ref y);exact k a _ (.inl rfl) e
 | ext φ=>obtain⟨p,⟨o,e⟩,st⟩:=x;exact⟨st _ _ p λo q=>k _ _ (.inl rfl) q,⟨o,k _ _ (.inl rfl) e⟩,st⟩
theorem HOk.lt(x:HOk P w H h)(e:H a=some o):a<h.objs.size:=(x a o e).lt
def HOk.fresh(x:HOk P w H h)(e:h.objs.size<=a):H a=none:=by
 cases q:H a with
 | none=>rfl
 | some u=>exact absurd (fC (x.lt q) e)<|hC _
def HOk.kept(x:HOk P w H h)(k:∀b u,h.get? b=some u->h'.get? b=some u):HOk P w H h':=λa o e=>
 (x a o e).stay (λb u _ q=>k b u q) (λ_ q=>q) λ_ _ q=>q
def HOk.laid(x:HOk P w H h)(k:∀b u,h.get? b=some u->h'.get? b=some u)(hp:h.objs.size<=a)(new:ObjOk P w (upd H a o) h' a o):HOk P w (upd H a o) h':=λb u e=>by
 have f:=x.fresh hp
 by_cases d:b=a
 .subst d;rw[zb1]at e;cases e;exact new
 .rw[aC d]at e;exact(x b u e).stay (λc v _ q=>k c v q) (λc q=>by rw[aC<|bA q f];exact q) λc xs q=>by rw[aC<|bA q f];exact q
end
def Rd(H:Hp)(a:Addr)(u:HO):Prop:=H a=some u\/∃o,H a=some (.frz o u)
def Rd.ok{P:Program}{w:World}{H:Hp}{h:Heap}{a:Addr}{u:HO}(r:Rd H a u)(x:HOk P w H h):ObjOk P w H h a u:=by
 rcases r with r | ⟨o,r⟩
 .exact x a u r
 .obtain⟨_,q⟩:=x a _ r;exact q
def yF:Option HO->Prop
 | some (.lst _)=>True
 | some (.dK _)=>True
 | some (.dT _)=>True
 | some (.set _ _)=>True
 | some (.ins _ _ _)=>True
 | some (.ext _)=>True
 | _=>False
section
variable{P:Program}{w:World}{H:Hp}{h h':Heap}{x e:Addr}{o':HO}
def HOk.write(ok:HOk P w H h)(d:yF (H x))(he:e=x\/H e=some (.own x))(k:∀b u,b≠e->h.get? b=some u->h'.get? b=some u)(n:∃u,h'.get? e=some u)
  (new:ObjOk P w (upd H x o') h' x o'):HOk P w (upd H x o') h':=λb u q=>by
 have l:∀c y,H c=some (.own y)->c≠x:=λc y r z=>by subst z;rw[r]at d;exact d
 have m:∀c xs,H c=some (.tup xs)->c≠x:=λc xs r z=>by subst z;rw[r]at d;exact d
 by_cases f:b=x
 .subst f;rw[zb1]at q;cases q;exact new
 .rw[aC f]at q
  by_cases a:b=e
  .have j:H b=some (.own x):=by
    rcases he with z | z
    .exact absurd (a.trans z) f
    .rw[a];exact z
   rw[q]at j;cases j;obtain⟨v,o⟩:=n;exact⟨v,by rw[a];exact o⟩
  .refine(ok b u q).stay (λc v i r=>k c v ?_ r) (λc r=>by rw[aC<|l c b r];exact r) λc xs r=>by rw[aC<|m c xs r];exact r
   rcases i with rfl | i
   .exact a
   .rintro rfl;rcases he with z | z
    .exact l c b i z
    .rw[i]at z;cases z;exact f rfl
end
structure Un(fs ex:List Addr)(H H':Hp)(h h':Heap):Prop where
 keep:∀b o,h.get? b=some o->H b=none->b∉fs->b∉ex->h'.get? b=some o
 slot:∀b o,h.get? b=some o->H b=none->b∈fs->b∉ex->∃sl,h'.get? b=some {o with slots:=sl}
 free:∀b o,h.get? b=some o->H b=none->b∉ex->H' b=none
 there:∀b o,h.get? b=some o->b∉ex->∃o',h'.get? b=some o'
 tups:∀b xs,H b=some (.tup xs)->H' b=some (.tup xs)
 frzs:∀b o u,H b=some (.frz o u)->H' b=some (.frz o u)
 tbls:∀b ps,H b=some (.tbl ps)->∃more,H' b=some (.tbl<|ps++more)
section
variable{fs fs' ex ex':List Addr}{H H1 H2:Hp}{h h1 h2 h':Heap}{a x e:Addr}{o:HO}
def Un.any(u:Un fs ex H H1 h h1){b:Addr}{a:Obj}(q:h.get? b=some a)(n:H b=none)(d:b∉ex):∃sl,h1.get? b=some {a with slots:=sl}:=by
 by_cases e:b∈fs
 .exact u.slot b a q n e d
 .exact⟨a.slots,u.keep b a q n e d⟩
def Un.kept(k:∀b u,h.get? b=some u->h'.get? b=some u):Un fs ex H H h h':=
 ⟨λb a q _ _ _=>k b a q,λb a q _ _ _=>⟨a.slots,k b a q⟩,λ_ _ _ n _=>n,λb a q _=>⟨a,k b a q⟩,λ_ _ q=>q,λ_ _ _ q=>q,λ_ ps q=>⟨#[],by rw[q];simp⟩⟩
def Un.refl:Un fs ex H H h h:=Un.kept λ_ _ q=>q
def Un.laid(k:∀b u,h.get? b=some u->h'.get? b=some u)(hp:h.objs.size<=a)(d:H a=none):Un fs ex H (upd H a o) h h' where
 keep:=λb u q _ _ _=>k b u q
 slot:=λb u q _ _ _=>⟨u.slots,k b u q⟩
 free:=λb u q n _=>by rw[aC<|bV<|fC (bN q) hp];exact n
 there:=λb u q _=>⟨u,k b u q⟩
 tups:=λb xs q=>by rw[aC<|bA q d];exact q
 frzs:=λb u xs q=>by rw[aC<|bA q d];exact q
 tbls:=λb ps q=>⟨#[],by rw[aC<|bA q d,q];simp⟩
def Un.write(a:yF (H x))(he:e=x\/H e=some (.own x))(k:∀b u,b≠e->h.get? b=some u->h'.get? b=some u)(l:∃u,h'.get? e=some u):Un fs ex H (upd H x o) h h':=by
 have i:∀b,H b=none->b≠x:=λb n z=>by subst z;rw[n]at a;exact a
 have j:∀b,H b=none->b≠e:=λb n z=>by
  subst z;rcases he with r | r
  .exact i b n r
  .rw[n]at r;cases r
 have d:∀b u,H b=some u->¬yF (some u)->b≠x:=λb u q nm z=>by subst z;rw[q]at a;exact nm a
 refine⟨λb u q n _ _=>k b u (j b n) q,λb u q n _ _=>⟨u.slots,k b u (j b n) q⟩,λb u q n _=>by rw[aC<|i b n];exact n,λb u q _=>?_,
  λb xs q=>by rw[aC<|d b _ q λz=>z];exact q,λb u xs q=>by rw[aC<|d b _ q λz=>z];exact q,λb ps q=>⟨#[],by rw[aC<|d b _ q λz=>z,q];simp⟩⟩
 by_cases f:b=e
 .subst f;exact l
 .exact⟨u,k b u f q⟩
end
def BY(h:Heap)(H:Hp):List Addr:=(List.range h.objs.size).filter λa=>(H a).isSome
def fY(h:Heap)(H:Hp):Heap:=PySem.W.hideAll h<|BY h H
def Cd(h:Heap)(H:Hp):(fY h H).objs.size=h.objs.size:=PySem.W.hideAll_size _ _
def VQ{h:Heap}{H:Hp}{b:Addr}{o:Obj}(e:h.get? b=some o)(n:H b=none):(fY h H).get? b=some o:=
 PySem.W.hideAll_get _ e λa=>by
  have q:(H b).isSome=true:=(vm1.mp a).2;rw[n]at q;simp at q
def WT{h:Heap}{H:Hp}{b:Addr}{o:Obj}(e:(fY h H).get? b=some o):h.get? b=some o/\H b=none:=by
 have a:h.get? b=some o:=PySem.W.of_hideAll (BY h H) e;exists a;cases q:H b with
 | none=>rfl
 | some x=>
  have d:b∈BY h H:=vm1.mpr ⟨List.mem_range.mpr<|bN a,by simp[q]⟩;have z:(fY h H).get? b=none:=PySem.W.hideAll_none (BY h H) d;rw[z]at e;cases e
def XM(g h:Heap)(L:Addr):List (Addr×Obj):=(List.range h.objs.size).filterMap λa=>if a=L\/(g.get? a).isSome=true then none else(h.get? a).map λo=>(a,o)
def rest(g h:Heap)(L d:Addr):List (Addr×Obj):=(XM g h L).filter λp=>decide<|p.1≠d
structure Mod(K:Fq)(mg:Str->Option Value)(base:Heap):Prop where
 kin:K.In base
 glob:base.Ns mainGlobals mg
 blt:∃mb,base.Ns builtinsNs mb/\∀x:Str,x≠"__name__"->mb x=bootBuiltins x
 nolimit:base.NoLimit
structure Cx where
 prog:Program
 w:World
 K:Fq
 mg:Str->Option Value
 base:Heap
 A:Around
 N:List Str
 s₀:Shared
 H₀:Hp
 env:Env
 outer:List Env
 stack:List Env
 ex:List Addr
 fn:Str->Bool
 calm:Bool
 pn:List (Addr×Obj)
 xe:Value->Shared->Prop
def kG(l:List Env):List Addr:=l.filterMap (·.frame)
abbrev Cx.fs(X:Cx):List Addr:=kG X.outer
def xX(sc:Scope)(x:Str):Prop:=sc.names.lookup x=some .local\/sc.names.lookup x=some .cell\/sc.names.lookup x=some .free
def vD(sc:Scope)(x:Str):Prop:=sc.names.lookup x=some .local\/sc.names.lookup x=some .cell
def GJ(env:Env)(h:Heap)(m:Str->Option Value)(x:Str)(u:Value):Prop:=
 (env.kindOf x=some .local/\m x=some u)\/((env.kindOf x=some .cell\/env.kindOf x=some .free)/\∃c,env.cells.lookup x=some c/\h.IsCell c (some u))
structure Cx.Ok(X:Cx):Prop where
 mod:Mod X.K X.mg X.base
 kind:X.env.scope.kind=.function
 glob:X.env.globals=mainGlobals
 blt:X.env.builtins=builtinsNs
 above:X.s₀⁻¹<=X.env.locals
 inj:∀x y c,X.env.cells.lookup x=some c->X.env.cells.lookup y=some c->x=y
 has:∀x,(X.env.kindOf x=some .cell\/X.env.kindOf x=some .free)->∃c,X.env.cells.lookup x=some c
 cab:∀x c,X.fn x=true->X.env.cells.lookup x=some c->X.s₀⁻¹<=c
 hd:X.calm=true->X.A.handled=none
 frames:X.A.frames=some X.stack
 stk:X.stack=X.outer\/(X.stack=X.env::X.outer/\X.env.frame=some X.env.locals)
 exf:∀b∈X.ex,b≠X.env.locals/\∀x c,X.env.cells.lookup x=some c->c≠b
 bs:∀b o,X.base.get? b=some o->X.s₀.heap.get? b=some o/\X.H₀ b=none
 bsz:X.base.objs.size<=X.s₀⁻¹
 noex:∀b o,X.base.get? b=some o->b∉X.ex
 exfs:∀b∈X.ex,b∉X.fs
 funs:X.s₀.heap.FunFrames X.base X.outer
 frf:∀b∈X.fs,X.H₀ b=none
structure Inv(X:Cx)(pins:List (Addr×Obj))(σ:List (Option V))(H:Hp)(s:Shared):Prop where
 ok:X.Ok
 os:s.os=X.s₀.os
 bare:AllBare s.gens
 base:Un X.fs X.ex X.H₀ H X.s₀.heap s.heap
 loc:∃m,s.heap.Ns X.env.locals m/\∀(i:Nat)(x:Str)(v:V),X.N[i]?=some x->σ[i]?=some (some v)->xX X.env.scope x->∃u,RelV v u/\GJ X.env s.heap m x u
 cell:∀x c,X.env.cells.lookup x=some c->∃v,s.heap.IsCell c v
 free:H X.env.locals=none
 freeC:∀x c,X.env.cells.lookup x=some c->H c=none
 pin:∀p∈X.pn++pins,s.heap.get? p.1=some p.2/\H p.1=none/\p.1≠X.env.locals/\p.1∉X.fs/\∀v,p.2.data≠.cell v
 hok:HOk X.prog X.w H s.heap
 len:↑σ=X.N.length
section
variable{pins:List (Addr×Obj)}{σ:List (Option V)}{H H':Hp}{s:Shared}{h':Heap}
def Cx.Ok.nofr(ok:X.Ok){b:Addr}{o:Obj}(e:X.base.get? b=some o):b∉X.fs:=λa=>by
 have:=(ok.funs.mem a).1;rw[e]at this;cases this
theorem Inv.bs(I:Inv X pins σ H s):∀b o,X.base.get? b=some o->s.heap.get? b=some o/\H b=none:=λb o e=>
 ⟨I.base.keep b o (I.ok.bs b o e).1 (I.ok.bs b o e).2 (I.ok.nofr e)<|I.ok.noex b o e,I.base.free b o (I.ok.bs b o e).1 (I.ok.bs b o e).2<|I.ok.noex b o e⟩
def Inv.bk(I:Inv X pins σ H s):∀b o,X.base.get? b=some o->s.heap.get? b=some o:=λb o e=>(I.bs b o e).1
theorem Inv.mod(I:Inv X pins σ H s):Mod X.K X.mg X.base:=I.ok.mod
def Inv.kIn(I:Inv X pins σ H s):X.K.In s.heap:=I.ok.mod.kin.keeps I.bk
theorem Inv.lt(I:Inv X pins σ H s):X.env.locals<s⁻¹:=let ⟨_,hn,_⟩:=I.loc;hn.lt
def Inv.sz(I:Inv X pins σ H s):X.s₀⁻¹<=s⁻¹:=gF I.ok.above<|dM I.lt
def Inv.nofs(I:Inv X pins σ H s){a:Addr}(h:s⁻¹<=a):a∉X.fs:=λb=>by
 obtain⟨_,o,d,_⟩:=I.ok.funs.mem b;exact absurd (fC (bN d)<|gF I.sz h)<|hC _
def Inv.cne(I:Inv X pins σ H s):∀x c,X.env.cells.lookup x=some c->c≠X.env.locals:=λx c e z=>by
 obtain⟨v,o,a,hd⟩:=I.cell x c e;obtain⟨m,⟨o',es,ep,b,d,_⟩,_⟩:=I.loc;rw[z,b]at a;cases a;rw[d]at hd;cases hd
theorem Inv.funs(I:Inv X pins σ H s):s.heap.FunFrames X.base X.outer:=by
 have all:∀(l:List Env),(∀b∈kG l,b∈X.fs)->X.s₀.heap.FunFrames X.base l->s.heap.FunFrames X.base l:=by
  intro l
  induction l with
  | nil=>intro _ _;trivial
  | cons env r ih=>
   intro hs hl;obtain⟨i,⟨L,o,a,h,j,hd⟩,hr⟩:=hl;have f:L∈X.fs:=hs L (by unfold kG;rw[EI,a];exact sJ);obtain⟨m,e⟩:=I.base.slot L o j (I.ok.frf L f) f λz=>I.ok.exfs L z f;exact⟨i,⟨L,_,a,h,e,hd⟩,ih (λb d=>hs b<|by unfold kG;rw[EI,a];exact gX _ d) hr⟩
 exact all X.outer (λ_ d=>d) I.ok.funs
theorem Inv.stack(I:Inv X pins σ H s):s.heap.FunFrames X.base X.stack:=by
 rcases I.ok.stk with e | ⟨e,hf⟩
 .rw[e];exact I.funs
 .rw[e];obtain⟨m,a,_⟩:=I.loc;refine .cons (by rw[I.ok.kind];decide) hf a ?_ I.funs;exact Heap.get?_none_of_le<|gF I.ok.bsz I.ok.above
def Inv.stkSub(I:Inv X pins σ H s):∀b∈kG X.stack,b∈X.env.locals::X.fs:=λb a=>by
 rcases I.ok.stk with e | ⟨e,hf⟩
 .rw[e]at a;exact gX _ a
 .rw[e]at a;unfold kG at a;rw[EI,hf]at a;exact a
def Inv.stkFree(I:Inv X pins σ H s):∀b∈kG X.stack,H b=none:=λb a=>by
 rcases wr5.mp (I.stkSub b a)with e | a
 .rw[e];exact I.free
 .obtain⟨_,o,d,_⟩:=I.ok.funs.mem a;exact I.base.free b o d (I.ok.frf b a) λz=>I.ok.exfs b z a
def Inv.step{g':Array GenState}{t':Nat}{d':Drawn}{ch:List Addr}(I:Inv X pins σ H s)
  (A:∀b∈ch,(b∈X.ex\/X.s₀⁻¹<=b)/\b≠X.env.locals/\(∀x c,X.env.cells.lookup x=some c->c≠b)/\∀p∈X.pn++pins,p.1≠b)
  (keep:∀b o,b≠X.env.locals->b∉X.fs->b∉ch->s.heap.get? b=some o->H b=none->h'.get? b=some o)
  (slot:∀b o,b≠X.env.locals->b∈X.fs->b∉ch->s.heap.get? b=some o->H b=none->∃J,h'.get? b=some {o with slots:=J}) (free:∀b o,b∉ch->s.heap.get? b=some o->H b=none->H' b=none)
  (there:∀b o,b∉ch->s.heap.get? b=some o->∃o',h'.get? b=some o')
  (tups:∀b xs,H b=some (.tup xs)->H' b=some (.tup xs)) (frzs:∀b o u,H b=some (.frz o u)->H' b=some (.frz o u)) (tbls:∀b ps,H b=some (.tbl ps)->∃more,H' b=some (.tbl<|ps++more))
  (T:∀m,s.heap.Ns X.env.locals m->h'.Ns X.env.locals m) (G:HOk X.prog X.w H' h') (W:AllBare g'):
  Inv X pins σ H' {s with heap:=h',gens:=g',drawn:=d',toks:=t'}:=by
 have L:∀b o,X.s₀.heap.get? b=some o->b≠X.env.locals:=λb o e=>bV<|fC (bN e) I.ok.above;have E:∀b o,X.s₀.heap.get? b=some o->b∉X.ex->b∉ch:=λb o e a h=>by
  rcases(A b h).1 with z | z
  .exact a z
  .exact absurd (fC (bN e) z)<|hC _
 have M:∀x c,X.env.cells.lookup x=some c->∀v,s.heap.IsCell c v->h'.IsCell c v:=by
  rintro x c e v ⟨o,j,hd⟩;have C:c∉ch:=λz=>(A c z).2.2.1 x c e rfl
  by_cases N:c∈X.fs
  .obtain⟨J,q⟩:=slot c o (I.cne x c e) N C j<|I.freeC x c e;exact⟨_,q,hd⟩
  .exact⟨o,keep c o (I.cne x c e) N C j<|I.freeC x c e,hd⟩
 refine⟨I.ok,I.os,W,⟨λb o e n h a=>?_,λb o e n h a=>?_,λb o e n a=>?_,λb o e a=>?_,λb xs e=>tups b xs<|I.base.tups b xs e,λb o xs e=>frzs b o xs<|I.base.frzs b o xs e,λb ps e=>?_⟩,?_,λx c e=>?_,?_,λx c e=>?_,λp hp=>?_,G,I.len⟩
 .exact keep b o (L b o e) h (E b o e a) (I.base.keep b o e n h a)<|I.base.free b o e n a
 .obtain⟨J,f⟩:=I.base.slot b o e n h a;obtain⟨O,B⟩:=slot b _ (L b o e) h (E b o e a) f<|I.base.free b o e n a;exact⟨O,B⟩
 .obtain⟨o',f⟩:=I.base.there b o e a;exact free b o' (E b o e a) f<|I.base.free b o e n a
 .obtain⟨o',f⟩:=I.base.there b o e a;exact there b o' (E b o e a) f
 .obtain⟨P,f⟩:=I.base.tbls b ps e;obtain⟨Z,B⟩:=tbls b _ f;exact⟨P++Z,by rw[B,Array.append_assoc]⟩
 .obtain⟨m,Y,hl⟩:=I.loc;refine⟨m,T m Y,λi x v f B e3=>?_⟩;obtain⟨u,r,l⟩:=hl i x v f B e3;exists u,r;rcases l with l | ⟨k,c,e,z⟩
  .exact .inl l
  .exact .inr ⟨k,c,e,M x c e _ z⟩
 .obtain⟨v,z⟩:=I.cell x c e;exact⟨v,M x c e v z⟩
 .obtain⟨m,⟨o,_,_,j,_⟩,_⟩:=I.loc;exact free _ o (λz=>(A _ z).2.1 rfl) j I.free
 .obtain⟨v,o,j,hd⟩:=I.cell x c e;exact free c o (λz=>(A c z).2.2.1 x c e rfl) j<|I.freeC x c e
 .obtain⟨e,n,ne,K,d⟩:=I.pin p hp;have C:p.1∉ch:=λz=>(A p.1 z).2.2.2 p hp rfl;exact⟨keep p.1 p.2 ne K C e n,free p.1 p.2 C e n,ne,K,d⟩
def Inv.un{t':Nat}(I:Inv X pins σ H s)(u:Un X.fs [] H H' s.heap h')(a:HOk X.prog X.w H' h'):Inv X pins σ H' {s with heap:=h',toks:=t'}:=by
 obtain⟨m,⟨o,es,ep,h,r⟩,_⟩:=id I.loc;obtain⟨x,q⟩:=u.any h I.free (by simp);exact I.step (g':=s.gens) (d':=s.drawn) (ch:=[]) (λ_ z=>nomatch z) (λb o _ d _ e n=>u.keep b o e n d<|by simp) (λb o _ d _ e n=>u.slot b o e n d<|by simp) (λb o _ e n=>u.free b o e n<|by simp) (λb o _ e=>u.there b o e<|by simp) u.tups u.frzs u.tbls (λm' j=>by
  obtain⟨o',i,l,f,r'⟩:=j;rw[h]at f;cases f;exact⟨_,i,l,q,r'⟩) a I.bare
def Inv.call{g':Array GenState}{t':Nat}{d':Drawn}{ch:List Addr}(I:Inv X pins σ H s)(u:Un (kG X.stack) ch H H' s.heap h')(d:HOk X.prog X.w H' h')(l:AllBare g')
  (h:∀b∈ch,(b∈X.ex\/X.s₀⁻¹<=b)/\b≠X.env.locals/\(∀x c,X.env.cells.lookup x=some c->c≠b)/\∀p∈X.pn++pins,p.1≠b):
  Inv X pins σ H' {s with heap:=h',gens:=g',drawn:=d',toks:=t'}:=by
 obtain⟨m,⟨o,es,ep,j,r⟩,_⟩:=id I.loc;obtain⟨E,f⟩:=u.any j I.free λz=>(h _ z).2.1 rfl;exact I.step (ch:=ch) h (λb o f C a e n=>u.keep b o e n (λz=>(wr5.mp<|I.stkSub b z).elim f C) a) (λb o _ _ a e n=>u.any e n a) (λb o a e n=>u.free b o e n a) (λb o a e=>u.there b o e a) u.tups u.frzs u.tbls (λm' q=>by
  obtain⟨o',A,B,i,r'⟩:=q;rw[j]at i;cases i;exact⟨_,A,B,f,r'⟩) d l
def Inv.turned{t':Nat}{it:Addr}(I:Inv X pins σ H s)(k:∀b o,b≠it->s.heap.get? b=some o->h'.get? b=some o)(h:H it=none)(f:it≠X.env.locals)
  (h1:it∈X.ex\/X.s₀⁻¹<=it) (h2:∀x c,X.env.cells.lookup x=some c->c≠it) (j:∀p∈X.pn++pins,p.1≠it):Inv X pins σ H {s with heap:=h',toks:=t'}:=by
 have d:∀b u,H b=some u->b≠it:=λb u e z=>by rw[z,h]at e;cases e
 refine I.step (g':=s.gens) (d':=s.drawn) (ch:=[it]) (λb w=>?_) (λb o _ _ a e _=>k b o (λz=>a<|by simp[z]) e) (λb o _ _ a e _=>⟨o.slots,k b o (λz=>a<|by simp[z]) e⟩) (λ_ _ _ _ n=>n)
  (λb o a e=>⟨o,k b o (λz=>a<|by simp[z]) e⟩) (λ_ _ e=>e) (λ_ _ _ e=>e) (λb ps e=>⟨#[],by rw[e];simp⟩) (λm i=>?_) (λb u e=>?_) I.bare
 .have e:b=it:=by simpa using w
  subst e;exact⟨h1,f,h2,j⟩
 .obtain⟨o,es,ep,l,r⟩:=i;exact⟨o,es,ep,k _ o (bW f) l,r⟩
 .refine(I.hok b u e).stay (λc v a q=>k c v ?_ q) (λ_ q=>q) λ_ _ q=>q;rcases a with z | z
  .rw[z];exact d b u e
  .exact d c _ z
def Inv.tok(I:Inv X pins σ H s)(t:Nat):Inv X pins σ H {s with toks:=t}:=I.un (h':=s.heap) (t':=t) Un.refl I.hok
theorem Inv.kept{t':Nat}(I:Inv X pins σ H s)(k:∀b u,s.heap.get? b=some u->h'.get? b=some u):Inv X pins σ H {s with heap:=h',toks:=t'}:=I.un (Un.kept k)<|I.hok.kept k
theorem Inv.laid{a:Addr}{o:HO}{t':Nat}(I:Inv X pins σ H s)(k:∀b u,s.heap.get? b=some u->h'.get? b=some u)(hp:s⁻¹<=a)(new:ObjOk X.prog X.w (upd H a o) h' a o):
  Inv X pins σ (upd H a o) {s with heap:=h',toks:=t'}:=I.un (Un.laid k hp<|I.hok.fresh hp)<|I.hok.laid k hp new
theorem Inv.write{x e:Addr}{o:HO}{t':Nat}(I:Inv X pins σ H s)(d:yF (H x))(he:e=x\/H e=some (.own x))(k:∀b u,b≠e->s.heap.get? b=some u->h'.get? b=some u)(a:∃u,h'.get? e=some u)
  (new:ObjOk X.prog X.w (upd H x o) h' x o):Inv X pins σ (upd H x o) {s with heap:=h',toks:=t'}:=I.un (Un.write d he k a)<|I.hok.write d he k a new
def Inv.pins_of{a:List (Addr×Obj)}(I:Inv X pins σ H s)(h:∀p∈a,s.heap.get? p.1=some p.2/\H p.1=none/\p.1≠X.env.locals/\p.1∉X.fs/\∀v,p.2.data≠.cell v):Inv X a σ H s:=
 ⟨I.ok,I.os,I.bare,I.base,I.loc,I.cell,I.free,I.freeC,λp hp=>(wt2.mp hp).elim (λz=>I.pin p<|qQ _ z)<|h p,I.hok,I.len⟩
def RL{N:List Str}(e:N.Nodup){i j:Nat}{x:Str}(a:N[i]?=some x)(b:N[j]?=some x):i=j:=by
 obtain⟨h1,f⟩:=wr1.mp a;obtain⟨h2,d⟩:=wr1.mp b;exact(yI e).mp<|f.trans d.symm
def JZ{M:Model}{A:Around}{E:Vp}{i:Nat}{x:Str}{v:V}{u:Value}{Q:Unit->Shared->Prop}(I:Inv X pins σ H s)(hN:X.N.Nodup)(hi:X.N[i]?=some x)(B:vD X.env.scope x)(r:RelV v u)
  (h:∀s',Inv X pins (σ.set i<|some v) H s'->(∃a,Heap.SameBut a s.heap s'.heap/\(a=X.env.locals\/X.env.cells.lookup x=some a))->Q () s') (hf:X.fn x=true\/X.env.scope.names.lookup x=some .local:=by first | exact .inl rfl | exact .inr rfl | assumption):wpAny M A (storeName X.env x u) Q E s:=by
 obtain⟨m,W,hl⟩:=id I.loc;have a2:(X.env.scope.kind == .class || (X.env.scope.kind == .module && X.env.locals != X.env.globals))=false:=by rw[I.ok.kind];rfl
 have a6:i<↑σ:=by rw[I.len];exact(wr1.mp hi).1
 have cne:=I.cne;have a0:∀{a:Addr}{h':Heap},(∃o,s.heap.get? a=some o/\H a=none)->Heap.SameBut a s.heap h'->HOk X.prog X.w H h':=λ{a h'} ha hs b ob e=>by
  obtain⟨_,_,a1⟩:=ha;refine(I.hok b ob e).stay (λc K l q=>(hs.2 c ?_).trans q) (λ_ q=>q) λ_ _ q=>q;rintro rfl;rcases l with rfl | l
  .rw[a1]at e;cases e
  .rw[a1]at l;cases l
 rcases B with hk | hk
 .refine wpAny_storeName_local hk W (λh' a9 hs=>?_) a2;obtain⟨oL,_,_,aa,_⟩:=id W;refine h _ ⟨I.ok,I.os,I.bare,⟨λb o e n G B=>?_,λb o e n G B=>?_,I.base.free,λb o e B=>?_,I.base.tups,I.base.frzs,I.base.tbls⟩,⟨_,a9,λj y T f C Z=>?_⟩,λy c e=>?_,I.free,I.freeC,λp hp=>?_,a0 ⟨oL,aa,I.free⟩ hs,by simpa using I.len⟩ ⟨_,hs,.inl rfl⟩
  .exact(hs.2 b<|bV<|fC (bN e) I.ok.above).trans (I.base.keep b o e n G B)
  .obtain⟨Y,f⟩:=I.base.slot b o e n G B;exact⟨Y,(hs.2 b<|bV<|fC (bN e) I.ok.above).trans f⟩
  .obtain⟨o',f⟩:=I.base.there b o e B;exact⟨o',(hs.2 b<|bV<|fC (bN e) I.ok.above).trans f⟩
  .by_cases J:j=i
   .subst J;rw[hi]at f;cases f;rw[List.getElem?_set_self a6]at C;cases C;exact⟨u,r,.inl ⟨hk,by simp⟩⟩
   .rw[List.getElem?_set_ne<|bW J]at C;obtain⟨O,r',q⟩:=hl j y T f C Z;exists O,r';rcases q with ⟨k,e⟩ | ⟨k,c,e,z⟩
    .refine .inl ⟨k,?_⟩;have:y≠x:=λe=>J<|RL hN f<|e▸hi;simp[this,e]
    .exact .inr ⟨k,c,e,z.sameBut hs<|cne y c e⟩
  .obtain⟨K,z⟩:=I.cell y c e;exact⟨K,z.sameBut hs<|cne y c e⟩
  .obtain⟨e,n,ne,L,d⟩:=I.pin p hp;exact⟨(hs.2 p.1 ne).trans e,n,ne,L,d⟩
 .have P:X.fn x=true:=by
   rcases hf with z | z
   .exact z
   .rw[z]at hk;cases hk
  obtain⟨c,l⟩:=I.ok.has x<|.inl hk;obtain⟨K,z⟩:=I.cell x c l;refine wpAny_storeName_cell I.ok.kind hk l z λh' a8 hs=>?_;obtain⟨oc,a5,a4⟩:=id z;refine h {s with heap:=h'} ⟨I.ok,I.os,I.bare,⟨λb o e n G B=>?_,λb o e n G B=>?_,I.base.free,λb o e B=>?_,I.base.tups,I.base.frzs,I.base.tbls⟩,⟨m,W.sameBut hs<|bW<|cne x c l,λj y T f C Z=>?_⟩,λy c' e=>?_,I.free,I.freeC,λp hp=>?_,a0 ⟨oc,a5,I.freeC x c l⟩ hs,by simpa using I.len⟩ ⟨c,hs,.inr l⟩
  .exact(hs.2 b<|bV<|fC (bN e)<|I.ok.cab x c P l).trans (I.base.keep b o e n G B)
  .obtain⟨Y,f⟩:=I.base.slot b o e n G B;exact⟨Y,(hs.2 b<|bV<|fC (bN e)<|I.ok.cab x c P l).trans f⟩
  .obtain⟨o',f⟩:=I.base.there b o e B;exact⟨o',(hs.2 b<|bV<|fC (bN e)<|I.ok.cab x c P l).trans f⟩
  .by_cases J:j=i
   .subst J;rw[hi]at f;cases f;rw[List.getElem?_set_self a6]at C;cases C;exact⟨u,r,.inr ⟨.inl hk,c,l,a8⟩⟩
   .rw[List.getElem?_set_ne<|bW J]at C;obtain⟨O,r',q⟩:=hl j y T f C Z;exists O,r';rcases q with q | ⟨k,c',e,z'⟩
    .exact .inl q
    .refine .inr ⟨k,c',e,z'.sameBut hs ?_⟩;rintro rfl;exact J<|RL hN f<|I.ok.inj _ _ _ e l▸hi
  .by_cases a7:c'=c
   .subst a7;exact⟨_,a8⟩
   .obtain⟨w2,z2⟩:=I.cell y c' e;exact⟨w2,z2.sameBut hs a7⟩
  .obtain⟨e,n,ne,L,d⟩:=I.pin p hp;refine⟨(hs.2 p.1 ?_).trans e,n,ne,L,d⟩;intro q;rw[q,a5]at e;have q':oc=p.2:=jN e;exact d K (by rw[<-q'];exact a4)
def EG{M:Model}{A:Around}{E:Vp}{i:Nat}{x:Str}{v:V}{u:Value}{Q:Unit->Shared->Prop}(I:Inv X pins σ H s)(e:X.N.Nodup)(hi:X.N[i]?=some x)(d:vD X.env.scope x)(r:RelV v u)
  (h:∀s',Inv X pins (σ.set i<|some v) H s'->Q () s') (a:X.fn x=true\/X.env.scope.names.lookup x=some .local:=by first | exact .inl rfl | exact .inr rfl | assumption):wpAny M A (storeName X.env x u) Q E s:=
 JZ I e hi d r (λs' b _=>h s' b) a
end
abbrev XK:=Value->Option Addr->Hp->Prop
abbrev St:=List<|Option V
abbrev VK:=V->Hp->Prop
abbrev TE:=St->Hp->VK->Prop
abbrev TT:=St->Hp->(Bool->Hp->Prop)->Prop
abbrev TA:=St->Hp->(List V->Hp->Prop)->Prop
structure cU where
 nx:St->Hp->Prop
 rt:VK
 bk:St->Hp->Prop:=λ_ _=>False
 ct:St->Hp->Prop:=λ_ _=>False
abbrev TS:=cU->St->Hp->Prop
def EP(X:Cx)(pins:List (Addr×Obj))(σ:St)(Q:VK)(u:Value)(s':Shared):Prop:=∃v H',Inv X pins σ H' s'/\RelV v u/\Q v H'
def TP(X:Cx)(pins:List (Addr×Obj))(σ:St)(Q:Bool->Hp->Prop)(b:Bool)(s':Shared):Prop:=∃H',Inv X pins σ H' s'/\Q b H'
def AP(X:Cx)(pins:List (Addr×Obj))(σ:St)(Q:List V->Hp->Prop)(us:List Value)(s':Shared):Prop:=∃vs H',Inv X pins σ H' s'/\Vals vs us/\Q vs H'
def SP(X:Cx)(pins:List (Addr×Obj))(D:cU)(f:Flow)(s':Shared):Prop:=
 match f with
 | .next=>∃σ' H',Inv X pins σ' H' s'/\D.nx σ' H'
 | .brk=>∃σ' H',Inv X pins σ' H' s'/\D.bk σ' H'
 | .cont=>∃σ' H',Inv X pins σ' H' s'/\D.ct σ' H'
 | .ret u=>∃v σ' H',Inv X pins σ' H' s'/\RelV v u/\D.rt v H'
def PE(X:Cx)(e:Expr)(t:TE):Prop:=
 ∀(pins:List (Addr×Obj))(s:Shared)(σ:St)(H:Hp)(Q:VK),Inv X pins σ H s->t σ H Q->wpAny (model X.prog X.w) X.A (eval e X.env) (EP X pins σ Q) X.xe s
def PT(X:Cx)(e:Expr)(t:TT):Prop:=
 ∀(pins:List (Addr×Obj))(s:Shared)(σ:St)(H:Hp)(Q:Bool->Hp->Prop),Inv X pins σ H s->t σ H Q->wpAny (model X.prog X.w) X.A (isTrue e X.env<|eval e X.env) (TP X pins σ Q) X.xe s
def PW(X:Cx)(e:Expr)(t:TT):Prop:=
 ∀(whole:Sem Value)(pins:List (Addr×Obj))(s:Shared)(σ:St)(H:Hp)(Q:Bool->Hp->Prop),Inv X pins σ H s->t σ H Q->wpAny (model X.prog X.w) X.A (isTrue e X.env whole) (TP X pins σ Q) X.xe s
def PW.pt{X:Cx}{e:Expr}{t:TT}(h:PW X e t):PT X e t:=h _
def PA(X:Cx)(es:List Expr)(t:TA):Prop:=
 ∀(pos:Pos)(pins:List (Addr×Obj))(s:Shared)(σ:St)(H:Hp)(Q:List V->Hp->Prop),Inv X pins σ H s->t σ H Q->wpAny (model X.prog X.w) X.A (spliced<|backTo pos<|starEach es X.env) (AP X pins σ Q) X.xe s
def PS(X:Cx)(st:Stmt)(t:TS):Prop:=
 ∀(pins:List (Addr×Obj))(s:Shared)(σ:St)(H:Hp)(D:cU),Inv X pins σ H s->t D σ H->wpAny (model X.prog X.w) X.A (exec st X.env) (SP X pins D) X.xe s
def PSs(X:Cx)(st:List Stmt)(t:TS):Prop:=
 ∀(pins:List (Addr×Obj))(s:Shared)(σ:St)(H:Hp)(D:cU),Inv X pins σ H s->t D σ H->wpAny (model X.prog X.w) X.A (execs st X.env) (SP X pins D) X.xe s
def aX{α:Type}{t:Sem α}{Q b:α->Shared->Prop}{M:Model}{A:Around}{E:Vp}{s:Shared}(h:wpAny M A t Q E s)(d:∀a s,Q a s->b a s):wpAny M A t b E s:=fF h d λ_ _ x=>x
section
inductive lK(i:Nat)(σ:List (Option V))(H:Hp)(Q:VK):Prop
 | mk(v:V)(h:σ[i]?=some (some v))(q:Q v H):lK i σ H Q
def aL(i:Nat):TE:=λσ H Q=>lK i σ H Q
def tC(v:V):TE:=λ_ H Q=>Q v H
def IW{i:Nat}{x:Str}{pos:Pos}(f:X.N[i]?=some x)(j:xX X.env.scope x)(hd:(x == ("__debug__":Str))=false:=by decide)(a:(x == ("__classdict__":Str))=false:=by decide):PE X (.Name x pos) (aL i):=by
 intro d s σ H Q I h;obtain⟨v,e,h⟩:=h;obtain⟨m,b,hl⟩:=I.loc;obtain⟨u,r,l⟩:=hl i x v f e j;have fin:EP X d σ Q u s:=⟨v,H,I,r,h⟩;rcases l with ⟨hk,hm⟩ | ⟨hk,c,hc,hcell⟩
 .exact wpAny_Name (wpAny_loadName_local I.ok.kind hk b hm fin) hd
 .rcases hk with hk | hk
  .exact wpAny_Name (wpAny_loadName_cell I.ok.kind hk hc hcell fin) hd
  .exact wpAny_Name (wpAny_loadName_free I.ok.kind hk hc hcell fin a) hd
def aN{i j pos}:PE X (.Constant (.int i) j pos) (tC<|.int i):=λ_ _ _ H _ I h=>wpAny_Constant_int ⟨.int i,H,I.tok _,⟨_,rfl⟩,h⟩
def vO{b j pos}:PE X (.Constant (.bool b) j pos) (tC<|.bl b):=λ_ _ _ H _ I h=>Constant_bool ⟨.bl b,H,I,rfl,h⟩
def gH{j pos}:PE X (.Constant .none j pos) (tC .non):=λ_ _ _ H _ I h=>Constant_none ⟨.non,H,I,rfl,h⟩
def bR{x j pos}:PE X (.Constant (.str x) j pos) (tC<|.str x):=λ_ _ _ H _ I h=>Calls.Constant_str ⟨.str x,H,I.tok _,⟨_,rfl⟩,h⟩
def Gl(X:Cx)(x:Str):Prop:=X.env.kindOf x=some .globalImplicit
def FH{E:Vp}{a:List (Addr×Obj)}{s:Shared}{σ:St}{H:Hp}{x:Str}{u:Value}{pos:Pos}{Q:Vp}(I:Inv X a σ H s)(d:Gl X x)(b:X.mg x=some u)(h:Q u s)
  (hd:(x == ("__debug__":Str))=false:=by decide):wpAny (model X.prog X.w) X.A (eval (.Name x pos) X.env) Q E s:=
 Calls.Name_function_global I.ok.kind d (Calls.loadGlobal_global (by rw[I.ok.glob];exact I.mod.glob.keeps I.bk) b h) hd
def mI{E:Vp}{a:List (Addr×Obj)}{s:Shared}{σ:St}{H:Hp}{x:Str}{u:Value}{pos:Pos}{Q:Vp}(I:Inv X a σ H s)(d:Gl X x)(b:X.mg x=none)(f:bootBuiltins x=some u)(h:Q u s)
  (e:x≠"__name__":=by decide) (hd:(x == ("__debug__":Str))=false:=by decide):wpAny (model X.prog X.w) X.A (eval (.Name x pos) X.env) Q E s:=by
 obtain⟨i,h1,h2⟩:=I.mod.blt;exact Calls.Name_function_global I.ok.kind d (Calls.loadGlobal_builtin (by rw[I.ok.glob];exact I.mod.glob.keeps I.bk) b (by rw[I.ok.blt];exact h1.keeps I.bk) ((h2 x e).trans f) h) hd
def kO{x:Str}{v:V}{u:Value}{pos:Pos}(a:Gl X x)(b:X.mg x=some u)(r:RelV v u)(hd:(x == ("__debug__":Str))=false:=by decide):PE X (.Name x pos) (tC v):=
 λ_ _ _ H _ I h=>FH I a b ⟨v,H,I,r,h⟩ hd
variable{a b:Expr}{ta tb:TE}{pos:Pos}
def PC(X:Cx)(op:CmpOp)(a b:Expr)(t:TE):Prop:=
 ∀(pins:List (Addr×Obj))(s:Shared)(σ:St)(H:Hp)(Q:VK),Inv X pins σ H s->t σ H Q->
  wpAny (model X.prog X.w) X.A (eval a X.env) (λv s₁=>wpAny (model X.prog X.w) X.A (eval b X.env) (λu s₂=>wpAny (model X.prog X.w) X.A (compareOp op v u) (EP X pins σ Q) X.xe s₂) X.xe s₁) X.xe s
def QP(b:Expr){a:CmpOp}(h:a≠.In)(h2:a≠.NotIn):behindInMarks a b=false:=by
 have e:(a == CmpOp.In)=false:=by cases a <;> first | rfl | exact absurd rfl h
 have d:(a == CmpOp.NotIn)=false:=by cases a <;> first | rfl | exact absurd rfl h2
 cases b <;> simp[behindInMarks,e,d]
def AN(ta:TE):TE:=λσ H Q=>ta σ H λx H1=>Q (.bl<|decide<|x=.non) H1
def AM(ta:TE):TE:=λσ H Q=>ta σ H λx H1=>Q (.bl<|!decide (x=.non)) H1
def RelV.none_iff{x:V}{v:Value}(r:RelV x v):(v == Value.none)=decide (x=.non):=by
 cases x with
 | non=>cases r;rfl
 | bl _=>cases r;rfl
 | int _=>obtain⟨t,rfl⟩:=r;rfl
 | str _=>obtain⟨t,rfl⟩:=r;rfl
 | byt _=>obtain⟨t,rfl⟩:=r;rfl
 | flt _=>obtain⟨t,rfl⟩:=r;rfl
 | ref _=>cases r;rfl
 | ty _=>cases r;rfl
def pY{j pos'}(e:PE X a ta):PC X .Is a (.Constant .none j pos') (AN ta):=by
 intro b s σ H Q I h;refine aX (e b s σ H _ I h) ?_;rintro v l ⟨x,H1,f,i,d⟩;exact Constant_none<|is_none_gen ⟨.bl _,H1,f,by rw[i.none_iff];rfl,d⟩
def uR{j pos'}(e:PE X a ta):PC X .IsNot a (.Constant .none j pos') (AM ta):=by
 intro b s σ H Q I h;refine aX (e b s σ H _ I h) ?_;rintro v l ⟨x,H1,f,i,d⟩;exact Constant_none<|isnot_none_gen ⟨.bl _,H1,f,by rw[i.none_iff];rfl,d⟩
inductive sA(x:V)(H:Hp)(Q:Bool->Hp->Prop):Prop
 | mk(c:Bool)(h:x=.bl c)(q:Q c H):sA x H Q
def tB(t:TE):TT:=λσ H Q=>t σ H λx H1=>sA x H1 Q
def sF{d:CmpOp}{t:TE}(h:PC X d a b t)(h1:behindInMarks d b=false:=by first | exact QP _ (by decide) (by decide) | rfl):PE X (.Compare a [d] [b] pos) t:=λe s σ H Q I f=>wpAny_Compare1 (h e s σ H Q I f) h1
def jI{e:CmpOp}{t:TE}(h:PC X e a b t)(h1:behindInMarks e b=false:=by first | exact QP _ (by decide) (by decide) | rfl):PT X (.Compare a [e] [b] pos) (tB t):=by
 intro l s σ H Q I m;refine wpAny_isTrue_Compare1 (aX (h l s σ H _ I m) λv n h1=>aX h1 λu s2 h2=>aX h2 λc s3 ⟨x,H1,i,f,j⟩=>?_) h1;obtain⟨d,rfl,q⟩:=j;cases f;exact xI ⟨H1,i,q⟩
def KC{e:Expr}{t:TE}(h:PE X e t)(he:∀whole,isTrue e X.env whole=(do let v <-whole;standAt e.pos;holding [v]<|truthy v):=by intro _;rfl):PT X e (tB t):=by
 intro i s σ H Q I j;refine isTrue_plain (aX (h i s σ H _ I j) λv l ⟨x,H1,b,a,f⟩=>?_)<|he _;obtain⟨d,rfl,q⟩:=f;cases a;exact xI ⟨H1,b,q⟩
variable{tA tB':TT}{rest:List Expr}
def iN(t u:TT):TT:=λσ H Q=>t σ H λc H1=>if c=true then u σ H1 Q else Q false H1
def KM(t u:TT):TT:=λσ H Q=>t σ H λc H1=>if c=true then Q true H1 else u σ H1 Q
def KS(t:TT):TT:=λσ H Q=>t σ H λc H1=>Q (!c) H1
def kR(d:PT X a tA):PW X (.BoolOp .And [a] pos) tA:=by
 intro i b s σ H Q I h;refine isTrue_and<|aX (d b s σ H Q I h) λc f e=>?_;cases c with
 | true=>exact isTrue_and_nil e
 | false=>exact e
def GQ(d:PT X a tA):PW X (.BoolOp .Or [a] pos) tA:=by
 intro i b s σ H Q I h;refine isTrue_or<|aX (d b s σ H Q I h) λc f e=>?_;cases c with
 | false=>exact isTrue_or_nil e
 | true=>exact e
def jD(i:PT X a tA)(m:PW X (.BoolOp .And (b::rest) pos) tB'):PW X (.BoolOp .And (a::b::rest) pos) (iN tA tB'):=by
 intro l d s σ H Q I h;refine isTrue_and<|aX (i d s σ H _ I h) ?_;rintro c j ⟨H1,f,e⟩;cases c with
 | true=>exact m l d j σ H1 Q f e
 | false=>exact⟨H1,f,e⟩
def CV(i:PT X a tA)(m:PW X (.BoolOp .Or (b::rest) pos) tB'):PW X (.BoolOp .Or (a::b::rest) pos) (KM tA tB'):=by
 intro l d s σ H Q I h;refine isTrue_or<|aX (i d s σ H _ I h) ?_;rintro c j ⟨H1,f,e⟩;cases c with
 | true=>exact⟨H1,f,e⟩
 | false=>exact m l d j σ H1 Q f e
def SI(d:PT X a tA):PT X (.UnaryOp .Not a pos) (KS tA):=by
 intro b s σ H Q I h;exact isTrue_not<|d b s σ H (λc H1=>Q (!c) H1) I h
def XR(t:TT)(ta tb:TE):TE:=λσ H Q=>t σ H λc H1=>if c=true then ta σ H1 Q else tb σ H1 Q
def FW{c:Expr}(m:PT X c tA)(l:PE X a ta)(n:PE X b tb):PE X (.IfExp c a b pos) (XR tA ta tb):=by
 intro e s σ H Q I h;refine wpAny_IfExp<|aX (m e s σ H _ I h) ?_;rintro d i ⟨H1,j,f⟩;cases d with
 | true=>exact l e i σ H1 Q j f
 | false=>exact n e i σ H1 Q j f
end
def SqL(K:Fq)(H:Hp)(a:Addr)(xs:List V):Prop:=
 Rd H a (.lst xs)\/
  ∃(o:Obj)(its:Array Value)(n:Nat),K.lookup a=some o/\o.cls=.type "list"/\o.dict=none/\o.data=.seq its n/\its.size<=sizeLine/\Vals xs its.toList
def SqT(K:Fq)(H:Hp)(a:Addr)(xs:List V):Prop:=
 Rd H a (.tup xs)\/
  ∃(o:Obj)(its:Array Value)(n:Nat),K.lookup a=some o/\o.cls=.type "tuple"/\o.data=.seq its n/\its.size<=sizeLine/\Vals xs its.toList
def EN:Value->Option V
 | .none=>some .non
 | .bool b=>some<|.bl b
 | .int i _=>some<|.int i
 | .str x _=>some<|.str x
 | .bytes b _=>some<|.byt b
 | .float b _=>some<|.flt b
 | .ref a=>some<|.ref a
 | .type n=>some<|.ty n
 | _=>none
def RelV.abs{x:V}{u:Value}(r:RelV x u):EN u=some x:=by
 cases x with
 | non=>cases r;rfl
 | bl _=>cases r;rfl
 | int _=>obtain⟨t,rfl⟩:=r;rfl
 | str _=>obtain⟨t,rfl⟩:=r;rfl
 | byt _=>obtain⟨t,rfl⟩:=r;rfl
 | flt _=>obtain⟨t,rfl⟩:=r;rfl
 | ref _=>cases r;rfl
 | ty _=>cases r;rfl
def RelV.inj{x y:V}{u:Value}(r:RelV x u)(q:RelV y u):x=y:=jN<|r.abs.symm.trans q.abs
theorem Vals.inj:∀{xs ys:List V}{us:List Value},Vals xs us->Vals ys us->xs=ys
 | _,_,_,.nil,.nil=>rfl
 | _,_,_,.cons r t,.cons r' t'=>by rw[r.inj r',Vals.inj t t']
section
variable{pins:List (Addr×Obj)}{σ:St}{H:Hp}{s:Shared}{a:Addr}{xs ys:List V}
def SqL.of{K:Fq}(h:H a=some (.lst xs)):SqL K H a xs:=.inl<|.inl h
def SqT.of{K:Fq}(h:H a=some (.tup xs)):SqT K H a xs:=.inl<|.inl h
def Inv.list(I:Inv X pins σ H s)(h:SqL X.K H a xs):∃its:List Value,Vals xs its/\PlainL s.heap a its.toArray/\↑xs<=sizeLine:=by
 rcases h with h | ⟨o,its,n,hk,hc,hd,hs,hz,r⟩
 .obtain⟨z,its,n,r,e⟩:=h.ok I.hok;exact⟨its,r,⟨_,n,e,rfl,rfl,rfl⟩,z⟩
 .exists its.toList,r,⟨o,n,I.kIn a o hk,hc,hd,by simpa using hs⟩;have e:=↑r;simp only[CP]at e;lia
def Inv.tuple(I:Inv X pins σ H s)(h:SqT X.K H a xs):∃its:List Value,Vals xs its/\IsTup s.heap a its.toArray/\↑xs<=sizeLine:=by
 rcases h with h | ⟨o,its,n,hk,hc,hs,hz,r⟩
 .obtain⟨z,its,r,p⟩:=h.ok I.hok;exact⟨its,r,p,z.1⟩
 .exists its.toList,r,⟨o,I.kIn a o hk,hc,n,by simpa using hs⟩;have e:=↑r;simp only[CP]at e;lia
def Inv.list_inj(I:Inv X pins σ H s)(h:SqL X.K H a xs)(h':SqL X.K H a ys):xs=ys:=by
 obtain⟨its,r,⟨o,n,e,_,_,d⟩,_⟩:=I.list h;obtain⟨its',r',⟨o',f,b,_,_,d'⟩,_⟩:=I.list h';rw[e]at b;cases b;rw[d]at d';injection d' with d1 _;have:its=its':=by simpa using cM Array.toList d1
 subst this;exact r.inj r'
def Inv.tuple_inj(I:Inv X pins σ H s)(h:SqT X.K H a xs)(h':SqT X.K H a ys):xs=ys:=by
 obtain⟨its,r,⟨o,e,_,n,d⟩,_⟩:=I.tuple h;obtain⟨its',r',⟨o',b,_,f,d'⟩,_⟩:=I.tuple h';rw[e]at b;cases b;rw[d]at d';injection d' with d1 _;have:its=its':=by simpa using cM Array.toList d1
 subst this;exact r.inj r'
end
abbrev Cx.wish(X:Cx)(E:Vp):Cx:={X with xe:=E}
abbrev Cx.nox(X:Cx):Cx:=X.wish λ_ _=>False
theorem Cx.Ok.wish{X:Cx}(ok:X.Ok)(E:Vp):(X.wish E).Ok:=
 ⟨ok.mod,ok.kind,ok.glob,ok.blt,ok.above,ok.inj,ok.has,ok.cab,ok.hd,ok.frames,ok.stk,ok.exf,ok.bs,ok.bsz,ok.noex,ok.exfs,ok.funs,ok.frf⟩
def Cx.Ok.unwish{X:Cx}{E:Vp}(ok:(X.wish E).Ok):X.Ok:=
 ⟨ok.mod,ok.kind,ok.glob,ok.blt,ok.above,ok.inj,ok.has,ok.cab,ok.hd,ok.frames,ok.stk,ok.exf,ok.bs,ok.bsz,ok.noex,ok.exfs,ok.funs,ok.frf⟩
section
variable{pins:List (Addr×Obj)}{σ:St}{H:Hp}{s:Shared}{E:Vp}
theorem Inv.wish(I:Inv X pins σ H s)(E:Vp):Inv (X.wish E) pins σ H s:=⟨I.ok.wish E,I.os,I.bare,I.base,I.loc,I.cell,I.free,I.freeC,I.pin,I.hok,I.len⟩
theorem Inv.unwish(I:Inv (X.wish E) pins σ H s):Inv X pins σ H s:=⟨I.ok.unwish,I.os,I.bare,I.base,I.loc,I.cell,I.free,I.freeC,I.pin,I.hok,I.len⟩
theorem SP.unwish{D:cU}{f:Flow}{s':Shared}(h:SP (X.wish E) pins D f s'):SP X pins D f s':=by
 cases f with
 | next=>obtain⟨σ',H',I,q⟩:=h;exact⟨σ',H',I.unwish,q⟩
 | brk=>obtain⟨σ',H',I,q⟩:=h;exact⟨σ',H',I.unwish,q⟩
 | cont=>obtain⟨σ',H',I,q⟩:=h;exact⟨σ',H',I.unwish,q⟩
 | ret u=>obtain⟨v,σ',H',I,r,q⟩:=h;exact⟨v,σ',H',I.unwish,r,q⟩
theorem PSs.nox{st:List Stmt}{t:TS}(h:PSs X.nox st t):PSs X st t:=λa s σ H D I b=>
 fF (h a s σ H D (I.wish _) b) (λ_ _ q=>q.unwish) λ_ _ z=>False.elim z
end
section
variable{st:Stmt}{rest:List Stmt}{t u:TS}{e:Expr}{te:TE}{pos:Pos}
def sQ:TS:=λD σ H=>D.nx σ H
def eZ(t u:TS):TS:=λD σ H=>t {D with nx:=u D} σ H
def cO:PSs X [] sQ:=λ_ _ σ H _ I h=>wpAny_execs_nil ⟨σ,H,I,h⟩
def aG(h1:PS X st t)(h2:PSs X rest u):PSs X (st::rest) (eZ t u):=by
 intro a s σ H D I h;refine wpAny_execs_cons<|aX (h1 a s σ H {D with nx:=u D} I h) λf b q=>?_;cases f with
 | next=>
  obtain⟨σ',H',d,q⟩:=q;exact h2 a b σ' H' D d q
 | ret v=>exact q
 | brk=>exact q
 | cont=>exact q
def aV(h1:PS X st t):PSs X [st] t:=by
 intro a s σ H D I h;refine wpAny_execs_cons<|aX (h1 a s σ H D I h) λf b q=>?_;cases f with
 | next=>exact wpAny_execs_nil q
 | ret v=>exact q
 | brk=>exact q
 | cont=>exact q
def Inv.quiet{a:List (Addr×Obj)}{σ:St}{H:Hp}{s:Shared}(I:Inv X a σ H s):interactive X.env=false:=by simp[interactive,I.ok.kind]
def zE(te:TE):TS:=λD σ H=>te σ H λ_ H1=>D.nx σ H1
def dZ(he:PE X e te)(hs:swapsWith e none pos.line X.env=pure false:=by rfl):PS X (.Expr e pos) (zE te):=by
 intro a s σ H D I h;exact wpAny_Expr_any (aX (he a s σ H _ I h) <| by rintro v f ⟨x,H1,d,i,b⟩;exact⟨σ,H1,d,b⟩) I.quiet hs
def gO(te:TE):TS:=λD σ H=>te σ H D.rt
def bL(he:PE X e te):PS X (.Return (some e) pos) (gO te):=by
 intro a s σ H D I h;exact wpAny_Return_some (aX (he a s σ H _ I h) <| by rintro v i ⟨x,H1,d,f,b⟩;exact⟨x,σ,H1,d,f,b⟩)
def hI(c:TT)(t u:TS):TS:=λD σ H=>c σ H λb H1=>if b=true then t D σ H1 else u D σ H1
def cK{c:Expr}{a b:List Stmt}{tc:TT}(m:PT X c tc)(l:PSs X a t)(n:PSs X b u):PS X (.If c a b pos) (hI tc t u):=by
 intro e s σ H D I h;refine wpAny_If<|aX (m e s σ H _ I h) ?_;rintro d i ⟨H1,j,f⟩;cases d with
 | true=>exact l e i σ H1 D j f
 | false=>exact n e i σ H1 D j f
def pZ:TS:=λ_ _ _=>False
def uX:PS X st pZ:=λ_ _ _ _ _ _ h=>h.elim
end
abbrev TG:=V->St->Hp->(St->Hp->Prop)->Prop
abbrev mE:=List V->St->Hp->(St->Hp->Prop)->Prop
def PG(X:Cx)(target:Expr)(t:TG):Prop:=
 ∀(pins:List (Addr×Obj))(s:Shared)(σ:St)(H:Hp)(v:V)(u:Value)(Q:St->Hp->Prop),Inv X pins σ H s->RelV v u->t v σ H Q->
  wpAny (model X.prog X.w) X.A (assign target X.env u) (λ_ s'=>∃σ' H',Inv X pins σ' H' s'/\Q σ' H') X.xe s
def DK(X:Cx)(ts:List Expr)(t:mE):Prop:=
 ∀(pins:List (Addr×Obj))(s:Shared)(σ:St)(H:Hp)(vs:List V)(us:List Value)(Q:St->Hp->Prop),Inv X pins σ H s->Vals vs us->t vs σ H Q->
  wpAny (model X.prog X.w) X.A (assignInOrder ((assignEach ts X.env).map (·.2)) us) (λ_ s'=>∃σ' H',Inv X pins σ' H' s'/\Q σ' H') X.xe s
abbrev qJ:=V->V->V->Hp->(Hp->Prop)->Prop
def AG(X:Cx)(t:qJ):Prop:=
 ∀(pins:List (Addr×Obj))(s:Shared)(σ:St)(H:Hp)(o i v:V)(ov iv u:Value)(Q:Hp->Prop),Inv X pins σ H s->RelV o ov->RelV i iv->RelV v u->t o i v H Q->
  wpAny (model X.prog X.w) X.A (setItem ov iv u) (λ_ s'=>∃H',Inv X pins σ H' s'/\Q H') X.xe s
section
variable{pos:Pos}
def cG(i:Nat):TG:=λv σ H Q=>Q (σ.set i<|some v) H
def uW{i:Nat}{x:Str}(e:X.N.Nodup)(hi:X.N[i]?=some x)(d:vD X.env.scope x)(a:X.fn x=true\/X.env.scope.names.lookup x=some .local:=by first | exact .inl rfl | exact .inr rfl | assumption):PG X (.Name x pos) (cG i):=by
 intro f s σ H v u Q I r h;exact wpAny_assign_Name<|EG I e hi d r (λs' b=>⟨_,H,b,h⟩) a
inductive MW(vs:List V)(σ:List (Option V))(H:Hp)(Q:List (Option V)->Hp->Prop):Prop
 | mk(h:vs=[])(q:Q σ H):MW vs σ H Q
def eK:mE:=λvs σ H Q=>MW vs σ H Q
inductive MH(t:TG)(u:mE)(vs:List V)(σ:List (Option V))(H:Hp)(Q:List (Option V)->Hp->Prop):Prop
 | mk(v:V)(r:List V)(h:vs=v::r)(q:t v σ H λσ2 H2=>u r σ2 H2 Q):MH t u vs σ H Q
def eJ(t:TG)(u:mE):mE:=λvs σ H Q=>MH t u vs σ H Q
def dV:DK X [] eK:=by
 intro a s σ H vs us Q I r h;obtain⟨e,h⟩:=h;subst e;cases r;exact assignInOrder_nil ⟨σ,H,I,h⟩
def bI{e:Expr}{es:List Expr}{t:TG}{u:mE}(h1:PG X e t)(h2:DK X es u)
  (hs:(assignEach (e::es) X.env).map (·.2)=assign e X.env::(assignEach es X.env).map (·.2):=by rfl):DK X (e::es) (eJ t u):=by
 intro a s σ H vs us Q I r h;obtain⟨v,j,i,h⟩:=h;subst i;cases r with
 | cons r rr=>
  rw[hs];refine assignInOrder_cons<|aX (h1 a s σ H _ _ _ I r h) ?_;rintro _ f ⟨σ1,H1,b,d⟩;exact h2 a f σ1 H1 _ _ Q b rr d
inductive PK(K:Fq)(n:Nat)(t:mE)(v:V)(σ:List (Option V))(H:Hp)(Q:List (Option V)->Hp->Prop):Prop
 | mk(a:Addr)(xs:List V)(h1:v=.ref a)(h2:SqT K H a xs)(h3:↑xs=n)(q:t xs σ H Q):PK K n t v σ H Q
def eN(K:Fq)(n:Nat)(t:mE):TG:=λv σ H Q=>PK K n t v σ H Q
def dS{es:List Expr}{k:Nat}{t:mE}{n:Nat}(A:X.calm=true)(h:DK X es t)
  (l:↑(assignEach es X.env)=n:=by rfl) (j:(assignEach es X.env).findIdx? (·.1)=none:=by rfl):PG X (.Tuple es k pos) (eN X.K n t):=by
 intro f s σ H v u Q I r d;obtain⟨a,xs,q,z,hl,d⟩:=d;subst q;cases r;obtain⟨its,i,w,hz⟩:=I.tuple z;refine assign_Tuple_tuple (I.ok.hd A) w (by simp[l,<-hl,i.length]) j λh' x=>?_
 have m:Inv X f σ H {s with heap:=h'}:=I.kept (t':=s.toks) λb o e=>x b o (bV<|bN e) e;exact h f _ σ H xs _ Q m (by simpa using i) d
def JH(to ti:TE)(t:qJ):TG:=λv σ H Q=>to σ H λo H1=>ti σ H1 λi H2=>t o i v H2 λH3=>Q σ H3
def uD{o i:Expr}{to e:TE}{t:qJ}(B:PE X o to)(hi:PE X i e)(hs:AG X t)
  (l:∀v,assign (.Subscript o i pos) X.env v=(do
   let a <-holding [v] (eval o X.env)
   let b <-holding [v,a] (eval i X.env)
   standAt pos
   holding [v,a,b] (setItem a b v)
   release [v,a,b] []):=by intro _;rfl):PG X (.Subscript o i pos) (JH to e t):=by
 intro d s σ H v u Q I r h;rw[l];refine aF<|iU<|aX (B d s σ H _ I h) ?_;rintro a C ⟨x,H1,n,m,z⟩;refine aF<|iU<|aX (hi d C σ H1 _ n z) ?_;rintro b s2 ⟨y,H2,A,q,j⟩;refine aF<|rA<|aF<|iU<|aX (hs d s2 σ H2 x y v a b u _ A m q r j) ?_;rintro _ s3 ⟨H3,f,w⟩;exact wpAny_release ⟨σ,H3,f,w⟩
def fN(te:TE)(g:TG):TS:=λD σ H=>te σ H λx H1=>g x σ H1 D.nx
def gP{tg e:Expr}{te:TE}{g:TG}(he:PE X e te)(b:PG X tg g)(hs:swapsWithSole [tg] e pos.line X.env=pure false:=by rfl)(l:swappedStores [tg] e X.env=pure none:=by rfl)
  (h1:(assignEach [tg] X.env).map (·.2)=[assign tg X.env]:=by rfl):PS X (.Assign [tg] e pos) (fN te g):=by
 intro a s σ H D I h;refine wpAny_Assign_stores (aX (he a s σ H _ I h) λv j ⟨x,H1,f,d,i⟩=>?_) hs l;rw[h1];exact aX (b a j σ H1 x v _ f d i) λ_ s2 q=>q
def hW{i:Nat}{x:Str}{e:Expr}{te:TE}{a:Pos}(o:X.N.Nodup)(hi:X.N[i]?=some x)(n:vD X.env.scope x)(he:PE X e te)(hs:swapsWith e (some<|.Name x a) pos.line X.env=pure false:=by rfl)(m:X.fn x=true\/X.env.scope.names.lookup x=some .local:=by first | exact .inl rfl | exact .inr rfl | assumption):
  PS X (.Assign [.Name x a] e pos) (fN te<|cG i):=by
 intro b s σ H D I h;refine wpAny_Assign_Name (aX (he b s σ H _ I h) λv q ⟨y,H1,f,d,j⟩=>?_) hs;exact EG f o hi n d (λs2 l=>⟨_,H1,l,j⟩) m
def KN(i j:Nat)(ta:TA):TS:=λD σ H=>ta σ H λvs H1=>∃v w,vs=[v,w]/\D.nx ((σ.set i<|some v).set j<|some w) H1
def rK{i j:Nat}{x y:Str}{a b:Expr}{ta:TA}{r m pt:Pos}{kt k2 pt2}(hc:X.calm=true)(B:X.N.Nodup)(hi:X.N[i]?=some x)(hj:X.N[j]?=some y)(J:i≠j)
  (E:X.env.scope.names.lookup x=some .local) (z:X.env.scope.names.lookup y=some .local) (K:PA X [a,b] ta)
  (P:swappedStores [.Tuple [.Name x r,.Name y m] kt pt] (.Tuple [a,b] k2 pt2) X.env=pure (some [x,y]))
  (hs:swapsWithSole [.Tuple [.Name x r,.Name y m] kt pt] (.Tuple [a,b] k2 pt2) pos.line X.env=pure false:=by rfl):
  PS X (.Assign [.Tuple [.Name x r,.Name y m] kt pt] (.Tuple [a,b] k2 pt2) pos) (KN i j ta):=by
 intro C s σ H D I h;rw[exec_Assign_arm];refine aF<|rA ?_;rw[hs];refine aF<|bF ?_;rw[bD<|by decide];refine aF<|Tuple_<|aX (K _ C s σ H _ I h) ?_;rintro us f ⟨vs,H1,M,L,n⟩;obtain⟨v,w,e1,n⟩:=n;subst e1;obtain⟨l,d,rfl,Z,O⟩:∃l d,us=[l,d]/\RelV v l/\RelV w d:=by
  cases L with
  | cons p q=>
   cases q with
   | cons p' q'=>
    cases q';exact⟨_,_,rfl,p,p'⟩
 refine kF ?_ (by show 2<=sizeLine;decide);have W:Inv X C σ H1 {f with heap:=f.heap.push {cls:=.type "tuple",data:=.seq [l,d].toArray}}:=M.kept (t':=f.toks) λb o e=>bS _ e;rw[P];refine aF<|bF ?_;show wpAny (model X.prog X.w) X.A (do rule "assign.swapped-stores";let items <-unpackItems (.ref f⁻¹) 2 none;assignInOrder [λv=>bindName X.env y v,λv=>bindName X.env x v] items.reverse;pure Flow.next) _ _ _;refine aF<|mK<|aF<|unpackItems_tuple (items:=#[l,d]) (I.ok.hd hc) (IsTup.new f.heap _) λh' Y=>?_;have T:=W.kept (h':=h') (t':=f.toks) λb o e=>Y b o (bV<|bN e) e;show wpAny _ _ (assignInOrder [λv=>bindName X.env y v,λv=>bindName X.env x v] [d,l] >>= λ_=>pure Flow.next) _ _ _;refine aF<|assignInOrder_cons<|wpAny_bindName<|EG T B hj (.inl z) O (λs2 G=>?_)<|.inr z;refine assignInOrder_cons<|wpAny_bindName<|EG G B hi (.inl E) Z (λs3 u=>assignInOrder_nil<|bF ?_)<|.inr E;rw[List.set_comm _ _<|bW J]at u;exact⟨_,H1,u,n⟩
end
section
variable{pos:Pos}
def MI(c:TT)(tb:TS):TS:=λD σ H=>∃W:Nat->St->Hp->Prop,(∃m,W m σ H)/\∀m σ H,W m σ H->
 c σ H λb H1=>if b=true then ∃N:St->Hp->Prop,(∀σ' H',N σ' H'->∃m',m'<m/\W m' σ' H')/\tb {D with nx:=N,ct:=N,bk:=D.nx} σ H1 else D.nx σ H1
def JN{c:Expr}{body:List Stmt}{tc:TT}{tb:TS}(hp:PassesOwn (model X.prog X.w) X.A X.env X.xe)(E:PT X c tc)(z:PSs X body tb):PS X (.While c body [] pos) (MI tc tb):=by
 intro m s σ H D I h;obtain⟨W,⟨B,C⟩,turn⟩:=h;refine wpAny_While<|codeAny_whileLoop (λn s'=>∃σ' H',Inv X m σ' H' s'/\W n σ' H') ?_ B ⟨σ,H,I,C⟩;rintro n x ⟨σ1,H1,r,u⟩;refine oJ hp<|aX (E m x σ1 H1 _ r<|turn n σ1 H1 u) ?_;rintro b s2 ⟨H2,q,d⟩;cases b with
 | true=>
  obtain⟨N,o,d⟩:=d;rw[bE rfl];refine oJ hp<|aX (z m s2 σ1 H2 _ q d) λf s3 a=>?_;cases f with
  | next=>
   obtain⟨σ3,H3,j,i⟩:=a;obtain⟨m',e,l⟩:=o σ3 H3 i;exact⟨m',e,σ3,H3,j,l⟩
  | cont=>
   obtain⟨σ3,H3,j,i⟩:=a;obtain⟨m',e,l⟩:=o σ3 H3 i;exact⟨m',e,σ3,H3,j,l⟩
  | brk=>exact a
  | ret v=>exact a
 | false=>
  rw[bD dX];exact wpAny_execs_nil ⟨σ1,H2,q,d⟩
end
structure It where
 go:Nat->Hp->Prop
 yld:Nat->Hp->V->Hp->Prop
 stop:Nat->Hp->Prop
def dN(X:Cx)(pins:List (Addr×Obj))(H:Hp)(b:Addr):Prop:=
 H b=none/\b≠X.env.locals/\b∉X.fs/\(b∈X.ex\/X.s₀⁻¹<=b)/\(∀x c,X.env.cells.lookup x=some c->c≠b)/\∀p∈X.pn++pins,p.1≠b
def Inv.fpOk{X:Cx}{d:List (Addr×Obj)}{σ:St}{H H':Hp}{s:Shared}{b:Addr}(I:Inv X d σ H s)(a:s⁻¹<=b)(f:H' b=none):dN X d H' b:=by
 refine⟨f,dI<|fC I.lt a,I.nofs a,.inr<|gF I.sz a,λx c e z=>?_,λp hp z=>?_⟩
 .obtain⟨v,q⟩:=I.cell x c e;exact absurd (fC q.lt<|by rw[z];exact a)<|hC _
 .exact absurd (fC (bN (I.pin p hp).1)<|by rw[z];exact a)<|hC _
structure eO(P:Program)(w:World)(K:Fq)(tg:Expr)(J:It)(fp:List Addr)(it:Addr)(tn:Nat->Heap->Prop):Prop where
 mem:it∈fp
 obj:∀i h,tn i h->∀b∈fp,∃o,h.get? b=some o/\∀v,o.data≠.cell v
 keep:∀i h h',tn i h->(∀b∈fp,∀o,h.get? b=some o->h'.get? b=some o)->tn i h'
 item:∀(X:Cx),X.prog=P->X.w=w->X.K=K->X.calm=true->∀(i:Nat)(pins:List (Addr×Obj))(s:Shared)(σ:St)(H:Hp)(E:Vp),Inv X pins σ H s->(∀b∈fp,dN X pins H b)->tn i s.heap->J.go i H->
  wpAny (model P w) X.A (pyNext<|.ref it) (λr s1=>∃u,r=some u/\ wpAny (model P w) X.A (letOwnedTupleGo tg (.ref it) u) (λ_ s2=>∃x H',Inv X pins σ H' s2/\RelV x u/\J.yld i H x H'/\tn (i+1) s2.heap/\∀b∈fp,H' b=none) E s1) E s
 done:∀(X:Cx),X.prog=P->X.w=w->X.K=K->X.calm=true->∀(i:Nat)(pins:List (Addr×Obj))(s:Shared)(σ:St)(H:Hp)(E:Vp),Inv X pins σ H s->(∀b∈fp,dN X pins H b)->tn i s.heap->J.stop i H->
  wpAny (model P w) X.A (pyNext<|.ref it) (λr s1=>r=none/\Inv X pins σ H s1) E s
 self:∀(A:Around)(i:Nat)(s:Shared)(Q:Vp)(E:Vp),tn i s.heap->Q (.ref it) s->wpAny (model P w) A (pyIter<|.ref it) Q E s
abbrev TI:=St->Hp->(It->Hp->Prop)->Prop
def JU(X:Cx)(pins:List (Addr×Obj))(σ:St)(tg:Expr)(R:It->Hp->Prop)(itv:Value)(s2:Shared):Prop:=
 ∃(it:Addr)(fp:List Addr)(tn:Nat->Heap->Prop)(J:It)(H':Hp),itv=.ref it/\Inv X pins σ H' s2/\eO X.prog X.w X.K tg J fp it tn/\tn 0 s2.heap/\(∀b∈fp,dN X pins H' b)/\R J H'
def PI(X:Cx)(tg iter:Expr)(wi:TI):Prop:=
 ∀(pins:List (Addr×Obj))(s:Shared)(σ:St)(H:Hp)(R:It->Hp->Prop),Inv X pins σ H s->wi σ H R->
  wpAny (model X.prog X.w) X.A (eval iter X.env) (λv s1=>wpAny (model X.prog X.w) X.A (pyIter v) (JU X pins σ tg R) X.xe s1) X.xe s
def oK{M:Model}{A:Around}{E:Vp}{s:Shared}{tg:Expr}{it:Addr}{u:Value}{o:Obj}{n:String}{vs:Array Value}{Q:Unit->Shared->Prop}(b:s.heap.get? it=some o)(d:o.cls=.type n)(hd:o.data=.fields vs)
  (e:["enumerate","zip","dict_itemiterator","dict_reverseitemiterator","odict_iterator","itertools.zip_longest","itertools.pairwise"].contains n=false) (a:Q () s):wpAny M A (letOwnedTupleGo tg (.ref it) u) Q E s:=by
 unfold letOwnedTupleGo;cases tg <;> first
  | exact bF a
  | (cases u <;> first
    | exact bF a
    | (refine aF<|wpAny_load b ?_;rw[d,hd];show wpAny M A (if (["enumerate","zip","dict_itemiterator","dict_reverseitemiterator","odict_iterator","itertools.zip_longest","itertools.pairwise"].contains n && vs[0]? == some (rawInt _))=true then _ else _) Q E s;rw[bD<|by intro h;rw[e,Bool.false_and]at h;cases h];exact bF a))
def rE(K:Fq)(a:Addr):It:=
 ⟨λi H=>∃xs x,SqL K H a xs/\xs[i]?=some x,λi H x H'=>H'=H/\∀xs,SqL K H a xs->xs[i]?=some x,λi H=>∃xs,SqL K H a xs/\↑xs<=i⟩
def kJ(K:Fq)(a:Addr):It:=
 ⟨λi H=>∃xs x,SqT K H a xs/\xs[i]?=some x,λi H x H'=>H'=H/\∀xs,SqT K H a xs->xs[i]?=some x,λi H=>∃xs,SqT K H a xs/\↑xs<=i⟩
def sM(lo:Int)(n:Nat):It:=⟨λi _=>i<n,λi H x H'=>H'=H/\x=.int (lo+i),λi _=>n<=i⟩
def WF{P:Program}{w:World}{K:Fq}{tg:Expr}(a it:Addr):eO P w K tg (rE K a) [it] it (λi h=>h.IsListIter it a i) where
 mem:=by simp
 obj:=λi h st b f=>by
  have e:b=it:=by simpa using f
  subst e;obtain⟨o,e,c,d⟩:=st;exact⟨o,e,λv z=>by rw[d]at z;cases z⟩
 keep:=λi h h' st k=>st.at λo e=>k it (by simp) o e
 item:=by
  intro X q A r T i O s σ H E I l st C;subst q A r;obtain⟨xs,x,j,M⟩:=C;obtain⟨its,L,p,hz⟩:=I.list j;obtain⟨u,hu,ru⟩:=L.get M;obtain⟨B,J,f2,G,n,m⟩:=l it (by simp);refine wpAny_pyNext_list_item st p.isList (x:=u) (by simpa using hu) λh' N sb=>?_
  have W:Inv X O σ H {s with heap:=h'}:=I.turned (t':=s.toks) (λb o f e=>(sb.2 b f).trans e) B J G n m;obtain⟨o,e,c,d⟩:=id N;exact⟨u,rfl,oK (s:={s with heap:=h'}) e c d (by decide) ⟨x,H,W,ru,⟨rfl,λys Z=>by rw[I.list_inj Z j];exact M⟩,N,λb f=>(l b f).1⟩⟩
 done:=by
  intro X q A r T i O s σ H E I l st C;subst q A r;obtain⟨xs,j,M⟩:=C;obtain⟨its,L,p,hz⟩:=I.list j;obtain⟨B,J,f2,G,n,m⟩:=l it (by simp);have hl:=L.length;exact wpAny_pyNext_list_end (I.ok.hd T) st p.isList (by simp;lia) λh' Y=>⟨rfl,I.turned (t':=s.toks) (λb o f e=>Y b o f e) B J G n m⟩
 self:=λ_ _ _ _ _ st h=>wpAny_pyIter_listiter st h
def TH{P:Program}{w:World}{K:Fq}{tg:Expr}(a it:Addr):eO P w K tg (kJ K a) [it] it (λi h=>h.IsTupleIter it a i) where
 mem:=by simp
 obj:=λi h st b f=>by
  have e:b=it:=by simpa using f
  subst e;obtain⟨o,e,c,d⟩:=st;exact⟨o,e,λv z=>by rw[d]at z;cases z⟩
 keep:=λi h h' st k=>st.at λo e=>k it (by simp) o e
 item:=by
  intro X q A r T i O s σ H E I l st C;subst q A r;obtain⟨xs,x,j,M⟩:=C;obtain⟨its,L,p,hz⟩:=I.tuple j;obtain⟨u,hu,ru⟩:=L.get M;obtain⟨B,J,f2,G,n,m⟩:=l it (by simp);refine wpAny_pyNext_tuple_item st (show s.heap.IsTuple a its.toArray from p) (x:=u) (by simpa using hu) λh' N sb=>?_
  have W:Inv X O σ H {s with heap:=h'}:=I.turned (t':=s.toks) (λb o f e=>(sb.2 b f).trans e) B J G n m;obtain⟨o,e,c,d⟩:=id N;exact⟨u,rfl,oK (s:={s with heap:=h'}) e c d (by decide) ⟨x,H,W,ru,⟨rfl,λys Z=>by rw[I.tuple_inj Z j];exact M⟩,N,λb f=>(l b f).1⟩⟩
 done:=by
  intro X q A r T i O s σ H E I l st C;subst q A r;obtain⟨xs,j,M⟩:=C;obtain⟨its,L,p,hz⟩:=I.tuple j;obtain⟨B,J,f2,G,n,m⟩:=l it (by simp);have hl:=L.length;exact wpAny_pyNext_tuple_end (I.ok.hd T) st (show s.heap.IsTuple a its.toArray from p) (by simp;lia) λh' Y=>⟨rfl,I.turned (t':=s.toks) (λb o f e=>Y b o f e) B J G n m⟩
 self:=λ_ _ _ _ _ st h=>wpAny_pyIter_tupleiter st h
def XX{P:Program}{w:World}{K:Fq}{tg:Expr}(it:Addr)(lo:Int)(n:Nat):eO P w K tg (sM lo n) [it] it (λi h=>IsRangeIter h it (lo+(i:Nat)*1) ((n:Int)-(i:Nat)) 1) where
 mem:=by simp
 obj:=λi h st b a=>by
  have e:b=it:=by simpa using a
  subst e;exact⟨_,st,λv z=>by
   have J:Data.fields _=Data.cell v:=z;cases J⟩
 keep:=λi h h' st k=>k it (by simp) _ st
 item:=by
  intro X l q m B i G s σ H E I d st u;subst l q m;obtain⟨r,A,O,x,j,f⟩:=d it (by simp);have W:=Walks.range (prog:=X.prog) (w:=X.w) (I.ok.hd B) it lo 1 n;refine W.item i s _ _ u st λv h' tk T C L=>?_;obtain⟨t,rfl⟩:=T;have M:Inv X G σ H {s with heap:=h',toks:=tk}:=I.turned (λb o a e=>L b o (by simpa using a) e) r A x j f;refine⟨_,rfl,oK (s:={s with heap:=h',toks:=tk}) (n:="range_iterator") C rfl rfl (by decide) ⟨.int<|lo+i,H,M,⟨t,?_⟩,⟨rfl,rfl⟩,C,λb a=>(d b a).1⟩⟩;rw[Int.mul_one]
 done:=by
  intro X l q m B i G s σ H E I d st u;subst l q m;obtain⟨r,A,O,x,j,f⟩:=d it (by simp);exact wpAny_pyNext_range_end (I.ok.hd B) st (by have:n<=i:=u;lia) λh' N=>⟨rfl,I.turned (t':=s.toks) (λb o a e=>N b o a e) r A x j f⟩
 self:=λ_ _ _ _ _ st h=>wpAny_pyIter_rangeiter st h
section
variable{tg:Expr}
inductive NI(K:Fq)(x:V)(H:Hp)(R:It->Hp->Prop):Prop
 | mk(a:Addr)(h:x=.ref a)(h2:∃xs,SqL K H a xs)(q:R (rE K a) H):NI K x H R
def nO(K:Fq)(tl:TE):TI:=λσ H R=>tl σ H λx H1=>NI K x H1 R
inductive FP(K:Fq)(x:V)(H:Hp)(R:It->Hp->Prop):Prop
 | mk(a:Addr)(h:x=.ref a)(h2:∃xs,SqT K H a xs)(q:R (kJ K a) H):FP K x H R
def GC(K:Fq)(tl:TE):TI:=λσ H R=>tl σ H λx H1=>FP K x H1 R
def iF{l:Expr}{tl:TE}(hl:PE X l tl):PI X tg l (nO X.K tl):=by
 intro m s σ H R I h;refine aX (hl m s σ H _ I h) ?_;rintro v f ⟨x,H1,d,i,n⟩;obtain⟨a,e,⟨xs,j⟩,q⟩:=n;subst e;cases i;obtain⟨its,u,p,hz⟩:=d.list j;refine BU p.isList ?_;refine⟨f⁻¹,[f⁻¹],_,_,H1,rfl,d.kept (t':=f.toks) λb o e=>bS _ e,WF a _,⟨_,dD _ rfl,rfl,rfl⟩,λb r=>?_,q⟩;have e:b=f⁻¹:=by simpa using r
 subst e;exact d.fpOk (aY _)<|d.hok.fresh<|aY _
def iC{l:Expr}{tl:TE}(hl:PE X l tl):PI X tg l (GC X.K tl):=by
 intro m s σ H R I h;refine aX (hl m s σ H _ I h) ?_;rintro v d ⟨x,H1,f,i,n⟩;obtain⟨a,e,⟨xs,j⟩,q⟩:=n;subst e;cases i;obtain⟨its,u,p,hz⟩:=f.tuple j;refine wpAny_pyIter_tuple (show d.heap.IsTuple a its.toArray from p) ?_;refine⟨d⁻¹,[d⁻¹],_,_,H1,rfl,f.kept (t':=d.toks) λb o e=>bS _ e,TH a _,⟨_,dD _ rfl,rfl,rfl⟩,λb r=>?_,q⟩;have e:b=d⁻¹:=by simpa using r
 subst e;exact f.fpOk (aY _)<|f.hok.fresh<|aY _
def UB{d:List (Addr×Obj)}{σ:St}{H:Hp}{s:Shared}{R:It->Hp->Prop}{E:Vp}{lo hi:Int}{t u v:Tok}{tk:Nat}(I:Inv X d σ H s)(h1:-(2 ^ 62)<=lo)(h2:lo<2 ^ 62)(h:-(2 ^ 62)<=hi)(f:hi<2 ^ 62)
  (q:R (sM lo (hi-lo).toNat) H):wpAny (model X.prog X.w) X.A (pyIter<|.ref s⁻¹) (JU X d σ tg R) E {s with heap:=s.heap.push {cls:=.type "range",data:=.fields #[.int lo t,.int hi u,.int 1 v]},toks:=tk}:=by
 refine wpAny_pyIter_range (IsRange.new ..) (small_one h1 h2 h f) ?_;have a:Inv X d σ H {s with heap:=s.heap.push {cls:=.type "range",data:=.fields #[.int lo t,.int hi u,.int 1 v]},toks:=tk}:=I.kept λb o e=>bS _ e;refine⟨(s.heap.push {cls:=.type "range",data:=.fields #[.int lo t,.int hi u,.int 1 v]}).objs.size,[(s.heap.push {cls:=.type "range",data:=.fields #[.int lo t,.int hi u,.int 1 v]}).objs.size],_,_,H,rfl, a.kept (t':=tk) λb o e=>bS _ e,XX _ lo (hi-lo).toNat,?_,λb j=>?_,q⟩
 .have l:lo+((0:Nat):Int)*1=lo:=by simp
  have i:(((hi-lo).toNat:Nat):Int)-((0:Nat):Int)=Builtin.Range.rangeSize lo hi 1:=by rw[rangeSize_one];split <;> lia
  show IsRangeIter _ _ (lo+((0:Nat):Int)*1) ((((hi-lo).toNat:Nat):Int)-((0:Nat):Int)) 1;rw[l,i];exact dD _ rfl
 .have e:b=(s.heap.push {cls:=.type "range",data:=.fields #[.int lo t,.int hi u,.int 1 v]}).objs.size:=by simpa using j
  subst e;exact a.fpOk (aY _)<|a.hok.fresh<|aY _
def nR(ta:TA):TI:=λσ H R=>ta σ H λvs H1=>∃j:Int,vs=[.int j]/\-(2 ^ 62)<=j/\j<2 ^ 62/\R (sM 0 j.toNat) H1
def lN{a:Expr}{ta:TA}{p pos:Pos}(f:Gl X "range")(m:X.mg "range"=none)(d:PA X [a] ta)(hs:starEach [a] X.env=[(false,eval a X.env)]:=by rfl):PI X tg (.Call (.Name "range" p) [a] [] pos) (nR ta):=by
 intro n s σ H R I h;refine Call_<|mI I f m boot_range<|mX (aX (d pos n s σ H _ I h) λus u ⟨vs,H1,l,i,b⟩=>?_) hs rfl;obtain⟨j,e,b,o,q⟩:=b;subst e;cases i with
 | cons r rr=>
  cases rr;obtain⟨t,rfl⟩:=r;exact call_range_1 (UB l (by lia) (by lia) b o<|by simpa using q)
def HW(wi:TI)(g:TG)(tb:TS):TS:=λD σ H=>wi σ H λJ H1=>∃W:Nat->Nat->St->Hp->Prop,(∃m,W 0 m σ H1)/\∀i m σ H,W i m σ H->
 (J.stop i H/\D.nx σ H)\/(J.go i H/\∃N:St->Hp->Prop,(∀σ' H',N σ' H'->∃m',m'<m/\W (i+1) m' σ' H')/\∀x H',J.yld i H x H'->g x σ H' λσ2 H2=>tb {D with nx:=N,ct:=N,bk:=D.nx} σ2 H2)
def vF(fp:List Addr)(h:Heap):List (Addr×Obj):=fp.filterMap λb=>(h.get? b).map λo=>(b,o)
def vA{fp:List Addr}{h:Heap}{b:Addr}{o:Obj}(a:b∈fp)(e:h.get? b=some o):(b,o)∈vF fp h:=List.mem_filterMap.mpr ⟨b,a,by rw[e];rfl⟩
def YA{fp:List Addr}{h:Heap}{p:Addr×Obj}(hp:p∈vF fp h):p.1∈fp/\h.get? p.1=some p.2:=by
 obtain⟨b,a,e⟩:=List.mem_filterMap.mp hp;cases q:h.get? b with
 | none=>rw[q]at e;cases e
 | some o=>
  rw[q]at e;have d:(b,o)=p:=jN e;subst d;exact⟨a,q⟩
def Inv.pinned{a:List (Addr×Obj)}{σ:St}{H:Hp}{s:Shared}{fp:List Addr}(I:Inv X a σ H s)(m:∀b∈fp,dN X a H b)(n:∀b∈fp,∃o,s.heap.get? b=some o/\∀v,o.data≠.cell v):Inv X (a++vF fp s.heap) σ H s:=
 I.pins_of λp hp=>(wt2.mp hp).elim (λz=>I.pin p<|fW _ z) λz=>by
  obtain⟨h,e⟩:=YA z;obtain⟨i,l,j,_⟩:=m p.1 h;obtain⟨o,f,d⟩:=n p.1 h;rw[e]at f;cases f;exact⟨e,i,l,j,d⟩
def Inv.unpinned{a b:List (Addr×Obj)}{σ:St}{H:Hp}{s:Shared}(I:Inv X (a++b) σ H s):Inv X a σ H s:=I.pins_of λp hp=>I.pin p<|fW _<|qQ _ hp
def eC{C:Expr}{body:List Stmt}{wi:TI}{g:TG}{tb:TS}{pos:Pos}(hp:PassesOwn (model X.prog X.w) X.A X.env X.xe)(hc:X.calm=true)(hi:PI X tg C wi)(hg:PG X tg g)(l:PSs X body tb)
  (hs:∀x,foldedSetIterable C X.env x=pure x:=by intro _;rfl):PS X (.For tg C body [] pos) (HW wi g tb):=by
 intro z s σ H D I h;refine wpAny_For (aX (hi z s σ H _ I h) λv s1 h1=>aX h1 λa9 s2 h2=>?_) hs;obtain⟨it,fp,O,J,H2,e,I2,T,a6,Z,W,⟨m0,w0⟩,turn⟩:=h2;subst e;have G:∀{H':Hp},(∀b∈fp,H' b=none)->∀b∈fp,dN X z H' b:=λhn b l=>⟨hn b l,(Z b l).2⟩;refine codeAny_forLoop_any (λn s'=>∃i σ' H',Inv X z σ' H' s'/\O i s'.heap/\(∀b∈fp,H' b=none)/\W i n σ' H') ?_ m0 ⟨0,σ,H2,I2,a6,λb l=>(Z b l).1,w0⟩;rintro n s3 ⟨i,σ3,H3,L,Y,P,w3⟩;rcases turn i n σ3 H3 w3 with ⟨stop,qn⟩ | ⟨go,N,hN,step⟩
 .refine oJ hp<|aX (T.done X rfl rfl rfl hc i z s3 σ3 H3 X.xe L (G P) Y stop) ?_;rintro r s4 ⟨hr,I4⟩;subst hr;exact wpAny_execs_nil ⟨σ3,H3,I4,qn⟩
 .refine oJ hp<|aX (T.item X rfl rfl rfl hc i z s3 σ3 H3 X.xe L (G P) Y go) ?_;rintro r s4 ⟨u,hr,h4⟩;subst hr;refine oJ hp<|aX h4 ?_;rintro _ s5 ⟨x,M,I5,r5,y5,E,a7⟩;have a8:=I5.pinned (G a7)<|T.obj _ _ E;refine oJ hp<|aX (hg _ s5 σ3 M x u _ a8 r5<|step x M y5) ?_;rintro _ s6 ⟨σ6,H6,I6,q6⟩;refine oJ hp<|aX (l _ s6 σ6 H6 _ I6 q6) λf K q=>?_;have again:∀{σ7:St}{j:Hp},Inv X (z++vF fp s5.heap) σ7 j K->N σ7 j->∃m,m<n/\∃i σ' H',Inv X z σ' H' K/\O i K.heap/\(∀b∈fp,H' b=none)/\W i m σ' H':=λ{σ7 j} a B=>by
   obtain⟨m',hm,w7⟩:=hN σ7 j B;refine⟨m',hm,i+1,σ7,j,a.unpinned,T.keep _ _ _ E λb l o e=>(a.pin (b,o)<|fW _<|fW _<|vA l e).1,λb l=>?_,w7⟩;obtain⟨o,e,d⟩:=T.obj _ _ E b l;exact(a.pin (b,o)<|fW _<|fW _<|vA l e).2.1
  cases f with
  | next=>obtain⟨σ7,j,a,B⟩:=q;exact again a B
  | cont=>obtain⟨σ7,j,a,B⟩:=q;exact again a B
  | brk=>obtain⟨σ7,j,a,q⟩:=q;exact⟨σ7,j,a.unpinned,q⟩
  | ret v=>obtain⟨x7,σ7,j,a,r7,q⟩:=q;exact⟨x7,σ7,j,a.unpinned,r7,q⟩
end
def tU{K:Fq}{a:Addr}{xs:List V}{g:TG}{tb:TS}{D:cU}{σ:St}{H:Hp}(b:Nat->St->Hp->Prop)(h0:b 0 σ H)(hl:∀i σ H,i<=↑xs->b i σ H->SqL K H a xs)
  (hs:∀i x σ H,xs[i]?=some x->b i σ H->g x σ H λσ2 H2=>tb {D with nx:=b<|i+1,ct:=b<|i+1,bk:=D.nx} σ2 H2) (hd:∀σ H,b ↑xs σ H->D.nx σ H):
  ∃W:Nat->Nat->St->Hp->Prop,(∃m,W 0 m σ H)/\∀i m σ H,W i m σ H->
   ((rE K a).stop i H/\D.nx σ H)\/((rE K a).go i H/\∃N:St->Hp->Prop,(∀σ' H',N σ' H'->∃m',m'<m/\W (i+1) m' σ' H')/\∀x H',(rE K a).yld i H x H'->g x σ H' λσ2 H2=>tb {D with nx:=N,ct:=N,bk:=D.nx} σ2 H2):=by
 exists λi m σ H=>m=↑xs-i/\i<=↑xs/\b i σ H,⟨↑xs,by simp,bT _,h0⟩;rintro i m σ H ⟨rfl,hi,p⟩;have q:=hl i σ H hi p
 by_cases d:i<↑xs
 .refine .inr ⟨⟨xs,xs[i],q,by simp[d]⟩,b<|i+1,λσ' H' f=>⟨↑xs-(i+1),by lia,rfl,d,f⟩,λx H' y=>?_⟩;obtain⟨e,y⟩:=y;subst e;exact hs i x σ _ (y xs q) p
 .have e:i=↑xs:=by lia
  subst e;exact .inl ⟨⟨xs,q,aY _⟩,hd σ H p⟩
def lC{K:Fq}{a:Addr}{xs:List V}{g:TG}{tb:TS}{D:cU}{σ:St}{H:Hp}(b:Nat->St->Hp->Prop)(h0:b 0 σ H)(hl:∀i σ H,i<=↑xs->b i σ H->SqT K H a xs)
  (hs:∀i x σ H,xs[i]?=some x->b i σ H->g x σ H λσ2 H2=>tb {D with nx:=b<|i+1,ct:=b<|i+1,bk:=D.nx} σ2 H2) (hd:∀σ H,b ↑xs σ H->D.nx σ H):
  ∃W:Nat->Nat->St->Hp->Prop,(∃m,W 0 m σ H)/\∀i m σ H,W i m σ H->
   ((kJ K a).stop i H/\D.nx σ H)\/((kJ K a).go i H/\∃N:St->Hp->Prop,(∀σ' H',N σ' H'->∃m',m'<m/\W (i+1) m' σ' H')/\∀x H',(kJ K a).yld i H x H'->g x σ H' λσ2 H2=>tb {D with nx:=N,ct:=N,bk:=D.nx} σ2 H2):=by
 exists λi m σ H=>m=↑xs-i/\i<=↑xs/\b i σ H,⟨↑xs,by simp,bT _,h0⟩;rintro i m σ H ⟨rfl,hi,p⟩;have q:=hl i σ H hi p
 by_cases d:i<↑xs
 .refine .inr ⟨⟨xs,xs[i],q,by simp[d]⟩,b<|i+1,λσ' H' f=>⟨↑xs-(i+1),by lia,rfl,d,f⟩,λx H' y=>?_⟩;obtain⟨e,y⟩:=y;subst e;exact hs i x σ _ (y xs q) p
 .have e:i=↑xs:=by lia
  subst e;exact .inl ⟨⟨xs,q,aY _⟩,hd σ H p⟩
def vU{lo:Int}{n:Nat}{g:TG}{tb:TS}{D:cU}{σ:St}{H:Hp}(a:Nat->St->Hp->Prop)(h0:a 0 σ H)
  (hs:∀i σ H,i<n->a i σ H->g (.int<|lo+i) σ H λσ2 H2=>tb {D with nx:=a<|i+1,ct:=a<|i+1,bk:=D.nx} σ2 H2) (hd:∀σ H,a n σ H->D.nx σ H):
  ∃W:Nat->Nat->St->Hp->Prop,(∃m,W 0 m σ H)/\∀i m σ H,W i m σ H->
   ((sM lo n).stop i H/\D.nx σ H)\/((sM lo n).go i H/\∃N:St->Hp->Prop,(∀σ' H',N σ' H'->∃m',m'<m/\W (i+1) m' σ' H')/\∀x H',(sM lo n).yld i H x H'->g x σ H' λσ2 H2=>tb {D with nx:=N,ct:=N,bk:=D.nx} σ2 H2):=by
 exists λi m σ H=>m=n-i/\i<=n/\a i σ H,⟨n,by simp,bT _,h0⟩;rintro i m σ H ⟨rfl,hi,p⟩
 by_cases b:i<n
 .refine .inr ⟨b,a<|i+1,λσ' H' d=>⟨n-(i+1),by lia,rfl,b,d⟩,λx H' y=>?_⟩;obtain⟨e,y⟩:=y;subst e y;exact hs i σ _ b p
 .have e:i=n:=by lia
  subst e;exact .inl ⟨aY _,hd σ H p⟩
def MY{c:TT}{tb:TS}{D:cU}{σ:St}{H:Hp}(a:St->Hp->Prop)(μ:St->Hp->Nat)(h0:a σ H)
  (hs:∀σ H,a σ H->c σ H λb H1=>if b=true then tb {D with nx:=λσ' H'=>a σ' H'/\μ σ' H'<μ σ H,ct:=λσ' H'=>a σ' H'/\μ σ' H'<μ σ H,bk:=D.nx} σ H1 else D.nx σ H1)
  (mono:∀σ H Q Q',(∀b H1,Q b H1->Q' b H1)->c σ H Q->c σ H Q'):MI c tb D σ H:=by
 exists λm σ H=>m=μ σ H/\a σ H,⟨_,rfl,h0⟩;rintro m σ H ⟨rfl,p⟩;refine mono σ H _ _ (λb H1 q=>?_)<|hs σ H p;cases b with
 | true=>exact⟨_,by rintro σ' H' ⟨d,l⟩;exact⟨_,l,rfl,d⟩,q⟩
 | false=>exact q
abbrev R2:=V->V->Hp->VK->Prop
def OpR(X:Cx)(f:Value->Value->Sem Value)(r:R2):Prop:=
 ∀(pins:List (Addr×Obj))(s:Shared)(σ:St)(H:Hp)(x y:V)(v u:Value)(Q:VK),Inv X pins σ H s->RelV x v->RelV y u->r x y H Q->
  wpAny (model X.prog X.w) X.A (f v u) (EP X pins σ Q) X.xe s
def LC(X:Cx)(f:Value->Sem Value)(r:V->Hp->VK->Prop):Prop:=
 ∀(pins:List (Addr×Obj))(s:Shared)(σ:St)(H:Hp)(x:V)(v:Value)(Q:VK),Inv X pins σ H s->RelV x v->r x H Q->
  wpAny (model X.prog X.w) X.A (f v) (EP X pins σ Q) X.xe s
def CallR(X:Cx)(f:Value)(r:List V->Hp->VK->Prop):Prop:=
 ∀(pins:List (Addr×Obj))(s:Shared)(σ:St)(H:Hp)(xs:List V)(us:List Value)(Q:VK),Inv X pins σ H s->Vals xs us->r xs H Q->
  wpAny (model X.prog X.w) X.A (call f us) (EP X pins σ Q) X.xe s
def ER(X:Cx)(r:V->Hp->(Bool->Hp->Prop)->Prop):Prop:=
 ∀(pins:List (Addr×Obj))(s:Shared)(σ:St)(H:Hp)(x:V)(v:Value)(Q:Bool->Hp->Prop),Inv X pins σ H s->RelV x v->r x H Q->
  wpAny (model X.prog X.w) X.A (truthy v) (TP X pins σ Q) X.xe s
def dR(r:R2)(ta tb:TE):TE:=λσ H Q=>ta σ H λx H1=>tb σ H1 λy H2=>r x y H2 Q
def JL(r:V->Hp->VK->Prop)(ta:TE):TE:=λσ H Q=>ta σ H λx H1=>r x H1 Q
def rI(C:Int->Int->Prop)(g:Int->Int->V):R2:=λx y H Q=>∃i j,x=.int i/\y=.int j/\C i j/\Q (g i j) H
inductive OS(g:Int->Int->V)(x y:V)(H:Hp)(Q:VK):Prop
 | mk(i j:Int)(h1:x=.int i)(h2:y=.int j)(q:Q (g i j) H):OS g x y H Q
def gZ(g:Int->Int->V):R2:=λx y H Q=>OS g x y H Q
def rU(g:Int->V):V->Hp->VK->Prop:=λx H Q=>∃i,x=.int i/\Q (g i) H
section
variable{a b c:Expr}{ta tb tc:TE}{pos:Pos}
def qT(e:PE X a ta)(C:PE X b tb){d:List (Addr×Obj)}{s:Shared}{σ:St}{H:Hp}{R:V->V->Hp->Prop}(I:Inv X d σ H s)
  (h:ta σ H λx H1=>tb σ H1 λy H2=>R x y H2) {Q:Vp} {f:Value->Value->Sem Value}
  (z:∀v u s2 x y H2,Inv X d σ H2 s2->RelV x v->RelV y u->R x y H2->wpAny (model X.prog X.w) X.A (f v u) Q X.xe s2):
  wpAny (model X.prog X.w) X.A (eval a X.env) (λv j=>wpAny (model X.prog X.w) X.A (eval b X.env) (λu o=>wpAny (model X.prog X.w) X.A (f v u) Q X.xe o) X.xe j) X.xe s:=by
 refine aX (e d s σ H _ I h) ?_;rintro v B ⟨x,H1,m,l,q⟩;refine aX (C d B σ H1 _ m q) ?_;rintro u s2 ⟨y,H2,r,n,i⟩;exact z v u s2 x y H2 r l n i
def cB{d:Operator}{r:R2}(l:OpR X (binaryOp d) r)(e:PE X a ta)(m:PE X b tb):PE X (.BinOp a d b pos) (dR r ta tb):=by
 intro j s σ H Q I h;exact wpAny_BinOp<|qT e m I h λv u s2 x y H2 i f n q=>l j s2 σ H2 x y v u Q i f n q
def kK{d:UnaryOp}{r:V->Hp->VK->Prop}(i:LC X (unaryOp d) r)(f:PE X a ta):PE X (.UnaryOp d a pos) (JL r ta):=by
 intro b s σ H Q I h;exact UnaryOp_ (aX (f b s σ H _ I h) <| by rintro v j ⟨x,H1,l,m,e⟩;exact i b j σ H1 x v Q l m e)
def DZ{f:Value->Value->Sem Value}{C:Int->Int->Prop}{g:Int->Int->Int}
  (rule:∀(i j:Int)(t u:Tok)(s:Shared)(Q:Vp)(E:Vp),C i j->Q (.int (g i j) s.toks) {s with toks:=s.toks+1}->wpAny (model X.prog X.w) X.A (f (.int i t)<|.int j u) Q E s):
  OpR X f (rI C λi j=>.int<|g i j):=by
 intro e s σ H x y v u Q I a d h;obtain⟨i,j,rfl,rfl,b,q⟩:=h;obtain⟨t,rfl⟩:=a;obtain⟨t',rfl⟩:=d;exact rule i j t t' s _ _ b ⟨.int<|g i j,H,I.tok _,⟨_,rfl⟩,q⟩
def wL{f:Value->Value->Sem Value}{g:Int->Int->Int}
  (rule:∀(i j:Int)(t u:Tok)(s:Shared)(Q:Vp)(E:Vp),Q (.int (g i j) s.toks) {s with toks:=s.toks+1}->wpAny (model X.prog X.w) X.A (f (.int i t)<|.int j u) Q E s):
  OpR X f (gZ λi j=>.int<|g i j):=by
 intro d s σ H x y v u Q I a b h;obtain⟨i,j,rfl,rfl,q⟩:=h;obtain⟨t,rfl⟩:=a;obtain⟨t',rfl⟩:=b;exact rule i j t t' s _ _ ⟨.int<|g i j,H,I.tok _,⟨_,rfl⟩,q⟩
def pS{f:Value->Value->Sem Value}{g:Int->Int->Bool}
  (rule:∀(i j:Int)(t u:Tok)(s:Shared)(Q:Vp)(E:Vp),Q (.bool<|g i j) s->wpAny (model X.prog X.w) X.A (f (.int i t)<|.int j u) Q E s):
  OpR X f (gZ λi j=>.bl<|g i j):=by
 intro d s σ H x y v u Q I a b h;obtain⟨i,j,rfl,rfl,q⟩:=h;obtain⟨t,rfl⟩:=a;obtain⟨t',rfl⟩:=b;exact rule i j t t' s _ _ ⟨.bl<|g i j,H,I,rfl,q⟩
def IY(i j:Int):Prop:=0<j/\j<1073741824
def II(i j:Int):Prop:=0<=j/\j<=1000000/\i.natAbs<2 ^ 64
def CMul(i j:Int):Prop:=(-(2 ^ 64)<i/\i<2 ^ 64)\/(-(2 ^ 64)<j/\j<2 ^ 64)
def CMul.ok{i j:Int}(h:CMul i j):IntMulOk i j:=by
 rcases h with ⟨h1,h2⟩ | ⟨h1,h2⟩
 .exact .of_left<|intBits_le_64 h1 h2
 .exact .of_right<|intBits_le_64 h1 h2
def jL:OpR X (binaryOp .Add) (gZ λi j=>.int<|i+j):=wL λ_ _ _ _ _ _ _ q=>add_int q
def lO:OpR X (binaryOp .Sub) (gZ λi j=>.int<|i-j):=wL λ_ _ _ _ _ _ _ q=>sub_int q
def pR:OpR X (binaryOp .Mult) (rI CMul λi j=>.int<|i*j):=DZ λ_ _ _ _ _ _ _ a q=>mul_int q a.ok
def yO:OpR X (binaryOp .FloorDiv) (rI IY λi j=>.int<|i / j):=DZ λi j _ _ _ _ _ a q=>by
 have h1:(0:Int)<j:=a.1;have h2:j<1073741824:=a.2;exact floordiv_int (by lia) (by rw[Int.fdiv_eq_ediv_of_nonneg i<|by lia];exact q) (.inl<|PyProof.noPylong_small<|by lia)
def rV:OpR X (binaryOp .Mod) (rI (λ_ j=>0<j) λi j=>.int<|i % j):=DZ λi j _ _ _ _ _ a q=>by
 have h1:(0:Int)<j:=a;exact mod_int' (by lia) (by rw[Int.fmod_eq_emod_of_nonneg i<|by lia];exact q)
def NS:OpR X (binaryOp .Pow) (rI II λi j=>.int<|i ^ j.toNat):=DZ λ_ _ _ _ _ _ _ a q=>pow_int_small a.1 a.2.1 a.2.2 q
def XD{f:Value->Sem Value}{g:Int->Int}
  (rule:∀(i:Int)(t:Tok)(s:Shared)(Q:Vp)(E:Vp),Q (.int (g i) s.toks) {s with toks:=s.toks+1}->wpAny (model X.prog X.w) X.A (f<|.int i t) Q E s):
  LC X f (rU λi=>.int<|g i):=by
 intro b s σ H x v Q I a h;obtain⟨i,rfl,q⟩:=h;obtain⟨t,rfl⟩:=a;exact rule i t s _ _ ⟨.int<|g i,H,I.tok _,⟨_,rfl⟩,q⟩
def kS:LC X (unaryOp .USub) (rU λi=>.int<|-i):=XD λ_ _ _ _ _ q=>neg_int q
end
def wD:V->V->Bool
 | .non,.non=>true | .non,.int _=>true | .int _,.non=>true | .non,.bl _=>true | .bl _,.non=>true | .non,.str _=>true | .str _,.non=>true
 | .int _,.int _=>true | .bl _,.bl _=>true | .str _,.str _=>true | .byt _,.byt _=>true
 | .int _,.str _=>true | .str _,.int _=>true | .bl _,.str _=>true | .str _,.bl _=>true
 | _,_=>false
inductive wY(x y:V)(H:Hp)(Q:VK):Prop
 | mk(h:wD x y=true)(q:Q (.bl<|decide<|x=y) H):wY x y H Q
def pN:R2:=λx y H Q=>wY x y H Q
inductive xG(x y:V)(H:Hp)(Q:VK):Prop
 | mk(h:wD x y=true)(q:Q (.bl<|!decide (x=y)) H):xG x y H Q
def VW:R2:=λx y H Q=>xG x y H Q
def SQ{i j:Int}:decide (V.int i=V.int j)=(i == j):=by
 rw[vQ];simp
def MZ{i j:Bool}:decide (V.bl i=V.bl j)=(i == j):=by
 rw[vQ];simp
def SV{i j:Str}:decide (V.str i=V.str j)=(i == j):=by
 rw[vQ];simp
def OA{i j:Array UInt8}:decide (V.byt i=V.byt j)=(i.toList == j.toList):=by
 rw[vQ];cases i;cases j;simp
section
variable{a b c:Expr}{ta tb tc:TE}{pos:Pos}
def dO{a:List (Addr×Obj)}{σ:St}{H:Hp}{s:Shared}{Q:VK}{k b:Bool}(I:Inv X a σ H s)(q:Q (.bl k) H)(e:k=b):EP X a σ Q (.bool b) s:=by
 subst e;exact⟨.bl k,H,I,rfl,q⟩
def fK:OpR X (compareOp .Eq) pN:=by
 intro d s σ H x y v u Q I b a h;obtain⟨hs,q⟩:=h;cases x with
 | non=>
  cases b;cases y with
  | non=>cases a;exact PySem.EqNone.eq_none_none (dO I q<|by simp)
  | bl j=>cases a;exact PySem.EqNone.eq_none_bool (dO I q<|by simp)
  | int j=>obtain⟨t',rfl⟩:=a;exact PySem.EqNone.eq_none_int (dO I q<|by simp)
  | str j=>obtain⟨t',rfl⟩:=a;exact PySem.EqNone.eq_none_str (dO I q<|by simp)
  | _=>exact absurd (show false=true from hs) dX
 | bl i=>
  cases b;cases y with
  | non=>cases a;exact PySem.EqNone.eq_bool_none (dO I q<|by simp)
  | bl j=>cases a;exact eq_bool<|dO I q MZ
  | str j=>obtain⟨t',rfl⟩:=a;exact PySem.EqMixed.eq_bool_str (dO I q<|by simp)
  | _=>exact absurd (show false=true from hs) dX
 | int i=>
  obtain⟨t,rfl⟩:=b;cases y with
  | non=>cases a;exact PySem.EqNone.eq_int_none (dO I q<|by simp)
  | int j=>obtain⟨t',rfl⟩:=a;exact eq_int<|dO I q SQ
  | str j=>obtain⟨t',rfl⟩:=a;exact PySem.EqMixed.eq_int_str (dO I q<|by simp)
  | _=>exact absurd (show false=true from hs) dX
 | str i=>
  obtain⟨t,rfl⟩:=b;cases y with
  | non=>cases a;exact PySem.EqNone.eq_str_none (dO I q<|by simp)
  | bl j=>cases a;exact PySem.EqMixed.eq_str_bool (dO I q<|by simp)
  | int j=>obtain⟨t',rfl⟩:=a;exact PySem.EqMixed.eq_str_int (dO I q<|by simp)
  | str j=>obtain⟨t',rfl⟩:=a;exact eq_str<|dO I q SV
  | _=>exact absurd (show false=true from hs) dX
 | byt i=>
  obtain⟨t,rfl⟩:=b;cases y with
  | byt j=>obtain⟨t',rfl⟩:=a;exact PySem.W.eq_bytes<|dO I q OA
  | _=>exact absurd (show false=true from hs) dX
 | _=>cases y <;> exact absurd (show false=true from hs) dX
def EQ:OpR X (compareOp .NotEq) VW:=by
 intro d s σ H x y v u Q I b a h;obtain⟨hs,q⟩:=h;cases x with
 | non=>
  cases b;cases y with
  | non=>cases a;exact PySem.EqNone.ne_none_none (dO I q<|by simp)
  | bl j=>cases a;exact PySem.EqNone.ne_none_bool (dO I q<|by simp)
  | int j=>obtain⟨t',rfl⟩:=a;exact PySem.EqNone.ne_none_int (dO I q<|by simp)
  | str j=>obtain⟨t',rfl⟩:=a;exact PySem.EqNone.ne_none_str (dO I q<|by simp)
  | _=>exact absurd (show false=true from hs) dX
 | bl i=>
  cases b;cases y with
  | non=>cases a;exact PySem.EqNone.ne_bool_none (dO I q<|by simp)
  | bl j=>cases a;exact ne_bool<|dO I q<|cM not MZ
  | str j=>obtain⟨t',rfl⟩:=a;exact PySem.EqMixed.ne_bool_str (dO I q<|by simp)
  | _=>exact absurd (show false=true from hs) dX
 | int i=>
  obtain⟨t,rfl⟩:=b;cases y with
  | non=>cases a;exact PySem.EqNone.ne_int_none (dO I q<|by simp)
  | int j=>obtain⟨t',rfl⟩:=a;exact ne_int<|dO I q<|cM not SQ
  | str j=>obtain⟨t',rfl⟩:=a;exact PySem.EqMixed.ne_int_str (dO I q<|by simp)
  | _=>exact absurd (show false=true from hs) dX
 | str i=>
  obtain⟨t,rfl⟩:=b;cases y with
  | non=>cases a;exact PySem.EqNone.ne_str_none (dO I q<|by simp)
  | bl j=>cases a;exact PySem.EqMixed.ne_str_bool (dO I q<|by simp)
  | int j=>obtain⟨t',rfl⟩:=a;exact PySem.EqMixed.ne_str_int (dO I q<|by simp)
  | str j=>obtain⟨t',rfl⟩:=a;exact ne_str<|dO I q<|cM not SV
  | _=>exact absurd (show false=true from hs) dX
 | byt i=>
  obtain⟨t,rfl⟩:=b;cases y with
  | byt j=>obtain⟨t',rfl⟩:=a;exact PySem.W.ne_bytes<|dO I q<|cM not OA
  | _=>exact absurd (show false=true from hs) dX
 | _=>cases y <;> exact absurd (show false=true from hs) dX
def uG:OpR X (compareOp .Lt) (gZ λi j=>.bl<|decide<|i<j):=pS λ_ _ _ _ _ _ _ q=>lt_int q
def kE:OpR X (compareOp .Gt) (gZ λi j=>.bl<|decide<|j<i):=pS λ_ _ _ _ _ _ _ q=>gt_int q
def JF:OpR X (compareOp .GtE) (gZ λi j=>.bl<|decide<|j<=i):=pS λ_ _ _ _ _ _ _ q=>ge_int q
def OpR.or{f:Value->Value->Sem Value}{r r':R2}(h:OpR X f r)(h':OpR X f r'):OpR X f (λx y H Q=>r x y H Q\/r' x y H Q):=by
 intro b s σ H x y v u Q I a d q;rcases q with q | q
 .exact h b s σ H x y v u Q I a d q
 .exact h' b s σ H x y v u Q I a d q
def cF(b:Expr){a:CmpOp}(h:a≠.In:=by decide)(h2:a≠.NotIn:=by decide):behindInMarks a b=false:=by
 have e:(a == CmpOp.In)=false:=by cases a <;> first | rfl | exact absurd rfl h
 have d:(a == CmpOp.NotIn)=false:=by cases a <;> first | rfl | exact absurd rfl h2
 cases b <;> simp[behindInMarks,e,d]
def vK{d:CmpOp}{r:R2}(m:OpR X (compareOp d) r)(e:PE X a ta)(n:PE X b tb)(i:behindInMarks d b=false):PE X (.Compare a [d] [b] pos) (dR r ta tb):=by
 intro l s σ H Q I h;exact wpAny_Compare1 (qT e n I h λv u s2 x y H2 j f o q=>m l s2 σ H2 x y v u Q j f o q) i
def hY(t:TE):TT:=λσ H Q=>t σ H λx H1=>sA x H1 Q
def cA{d:CmpOp}{r:R2}(C:OpR X (compareOp d) r)(j:PE X a ta)(G:PE X b tb)(l:behindInMarks d b=false):PT X (.Compare a [d] [b] pos) (hY<|dR r ta tb):=by
 intro f s σ H Q I h;refine wpAny_isTrue_Compare1 (aX (j f s σ H _ I h) λv E ⟨x,H1,q,n,A⟩=>aX (G f E σ H1 _ q A) λu s2 ⟨y,H2,B,w,J⟩=>
  aX (C f s2 σ H2 x y v u _ B n w J) λc s3 ⟨z,H3,i,m,k,e,o⟩=>?_) l
 subst e;cases m;exact xI ⟨H3,i,o⟩
def zQ(K:Fq)(x:V)(H:Hp)(k:Bool):Prop:=
 match x with
 | .non=>k=false
 | .bl b=>k=b
 | .int i=>k=(i != 0)
 | .str y=>↑y<=sizeLine/\k=((↑y:Int) != 0)
 | .byt y=>y.size<=sizeLine/\k=((y.size:Int) != 0)
 | .ref p=>(∃xs,SqL K H p xs/\k=!xs.isEmpty)\/(∃xs,SqT K H p xs/\k=!xs.isEmpty)\/∃kvs,H p=some (.dK kvs)/\k=!kvs.isEmpty
 | _=>False
def UL{κ:Type}{kvs:List (κ×V)}{vs:List (κ×Value)}(r:KV kvs vs):(!vs.isEmpty)=!kvs.isEmpty:=by
 cases r <;> rfl
def MB{xs:List V}{its:List Value}(r:Vals xs its):(!its.toArray.isEmpty)=!xs.isEmpty:=by
 cases r <;> simp
def lT:(sizeLine:Nat)<2 ^ 63:=by rw[sizeLine_eq];decide
def tD:ER X (λx H Q=>∃k,zQ X.K x H k/\Q k H):=by
 intro o s σ H x v Q I d h;obtain⟨k,e,q⟩:=h;have hl:=lT;have hs:sizeLine=16777216:=sizeLine_eq;cases x with
 | non=>
  cases d;have a:k=false:=e;subst a;exact truthy_none ⟨H,I,q⟩
 | bl b=>
  cases d;have a:k=b:=e;subst a;exact xI ⟨H,I,q⟩
 | int i=>
  obtain⟨t,rfl⟩:=d;have a:k=(i != 0):=e;subst a;exact PySem.P.truthy_int ⟨H,I,q⟩
 | str y=>
  obtain⟨t,rfl⟩:=d;obtain⟨n,a⟩:↑y<=sizeLine/\k=((↑y:Int) != 0):=e;subst a;exact PySem.P.truthy_str (by lia) ⟨H,I.tok _,q⟩
 | byt y=>
  obtain⟨t,rfl⟩:=d;obtain⟨n,a⟩:y.size<=sizeLine/\k=((y.size:Int) != 0):=e;subst a;exact PySem.W.truthy_bytes (by lia) ⟨H,I.tok _,q⟩
 | ref p=>
  cases d;have a:(∃xs,SqL X.K H p xs/\k=!xs.isEmpty)\/(∃xs,SqT X.K H p xs/\k=!xs.isEmpty)\/∃kvs,H p=some (.dK kvs)/\k=!kvs.isEmpty:=e;rcases a with ⟨xs,hx,a⟩ | ⟨xs,hx,a⟩ | ⟨kvs,hx,a⟩
  .subst a;obtain⟨its,r,f,hz⟩:=I.list hx;have j:=↑r;exact wpAny_truthy_list f.isList (by simp only[cN];lia) ⟨H,I.tok _,by rw[MB r];exact q⟩
  .subst a;obtain⟨its,r,f,hz⟩:=I.tuple hx;have j:=↑r;exact truthy_tuple f (by simp only[cN];lia) ⟨H,I.tok _,by rw[MB r];exact q⟩
  .subst a;obtain⟨hz,l,vs,r,m⟩:↑kvs<=sizeLine/\(p == sysModules)=false/\∃vs,KV kvs vs/\s.heap.DictOf (cI X.prog X.w) p vs:=I.hok p _ hx;have j:↑kvs=↑vs:=Paired.length r;exact wpAny_truthy_dict l m (by lia) ⟨H,I.tok _,by rw[UL r];exact q⟩
 | _=>exact(show False from e).elim
def Bp(e:PE X a ta)(he:∀whole,isTrue a X.env whole=(do let v <-whole;standAt a.pos;holding [v]<|truthy v)):
  PT X a (λσ H Q=>ta σ H λx H'=>∃k,zQ X.K x H' k/\Q k H'):=by
 intro b s σ H Q I h;exact isTrue_plain (aX (e b s σ H _ I h) <| by rintro v f ⟨x,H1,i,j,d⟩;exact tD b f σ H1 x v Q i j d)<|he _
def CG:OpR X (binaryOp .Add) (λx y H Q=>∃i j,x=.str i/\y=.str j/\↑i+↑j<=sizeLine/\Q (.str<|i++j) H):=by
 intro d s σ H x y v u Q I a b h;obtain⟨i,j,rfl,rfl,hz,q⟩:=h;obtain⟨t,rfl⟩:=a;obtain⟨t',rfl⟩:=b;exact add_str (λt' tk=>⟨.str<|i++j,H,I.tok _,⟨_,rfl⟩,q⟩) hz
def kD{x:V}{us:List Value}(r:Vals [x] us):∃u,us=[u]/\RelV x u:=by
 cases r with
 | cons r1 r2=>cases r2;exact⟨_,rfl,r1⟩
def nK{x y:V}{us:List Value}(r:Vals [x,y] us):∃u w',us=[u,w']/\RelV x u/\RelV y w':=by
 cases r with
 | cons r1 r2=>
  cases r2 with
  | cons r3 r4=>cases r4;exact⟨_,_,rfl,r1,r3⟩
def VX:CallR X (.builtin "abs") (λxs H Q=>∃i,xs=[.int i]/\Q (.int<|if i<0 then -i else i) H):=by
 intro a s σ H xs us Q I r h;obtain⟨i,rfl,q⟩:=h;obtain⟨u,rfl,t,rfl⟩:=kD r;exact call_abs_int λu tk=>⟨.int (if i<0 then -i else i),H,I.tok _,⟨_,rfl⟩,q⟩
def By(b:X.calm=true):CallR X (.builtin "max") (λxs H Q=>∃i j,xs=[.int i,.int j]/\Q (.int<|if j > i then j else i) H):=by
 intro d s σ H xs us Q I r h;obtain⟨i,j,rfl,q⟩:=h;obtain⟨u,e,rfl,⟨t,rfl⟩,⟨t',rfl⟩⟩:=nK r;refine max_two_ints (I.ok.hd b) λh' tk k=>⟨_,H,I.kept k,?_,q⟩
 by_cases a:j > i
 .rw[bE a,bE a];exact⟨_,rfl⟩
 .rw[bD a,bD a];exact⟨_,rfl⟩
def RK(b:X.calm=true):CallR X (.builtin "min") (λxs H Q=>∃i j,xs=[.int i,.int j]/\Q (.int<|if j<i then j else i) H):=by
 intro d s σ H xs us Q I r h;obtain⟨i,j,rfl,q⟩:=h;obtain⟨u,e,rfl,⟨t,rfl⟩,⟨t',rfl⟩⟩:=nK r;refine min_two_ints (I.ok.hd b) λh' tk k=>⟨_,H,I.kept k,?_,q⟩
 by_cases a:j<i
 .rw[bE a,bE a];exact⟨_,rfl⟩
 .rw[bD a,bD a];exact⟨_,rfl⟩
def BV:CallR X (.type "int") (λxs H Q=>(∃i,xs=[.int i]/\Q (.int i) H)\/∃k,xs=[.bl k]/\Q (.int<|if k then 1 else 0) H):=by
 intro b s σ H xs us Q I r h;rcases h with ⟨i,rfl,q⟩ | ⟨k,rfl,q⟩
 .obtain⟨u,rfl,t,rfl⟩:=kD r;exact call_int_int ⟨.int i,H,I,⟨_,rfl⟩,q⟩
 .obtain⟨u,rfl,a⟩:=kD r;cases a;exact call_int_bool ⟨.int (if k then 1 else 0),H,I.tok _,⟨_,rfl⟩,q⟩
end
structure ObjM(h:Heap)(x dx C:Addr)(mA:Str->Option Value):Prop where
 obj:h.get? x=some (PySem.W.instObj C dx)
 ns:h.Ns1 dx mA
 ne:dx≠x
def WQ{h:Heap}{dx:Addr}{mA:Str->Option Value}(n:h.Ns1 dx mA):∃od,h.get? dx=some od/\∀name,PySem.W.lookIn name od=some (mA name):=by
 obtain⟨o,es,ep,j,hd,i,_,d⟩:=n;refine⟨o,j,λname=>?_⟩;have e:=d name;unfold nsFind findBy at e;rw[<-Array.find?_toList]at e;unfold PySem.W.lookIn;rw[hd];dsimp only
 split
 .rename_i y q
  rw[q]at e;exact cM some e
 .rename_i q
  rw[q]at e;have a:es.toList.any (·.refKey)=false:=by
   rw[List.any_eq_false];intro y l;obtain⟨z,t,f⟩:=i y<|Array.mem_toList_iff.mp l;simp[DictEntry.refKey,f]
  have b:¬es.toList.any (·.refKey)=true:=by rw[a];exact dX
  rw[bD b];exact cM some e
def ObjM.look{h:Heap}{x dx C:Addr}{mA:Str->Option Value}(I:ObjM h x dx C mA):∃od,PySem.W.InstAt h x (PySem.W.instObj C dx) C (some od)/\∀name,PySem.W.lookIn name od=some (mA name):=
 let ⟨od,ho,hl⟩:=WQ I.ns
 ⟨od,⟨I.obj,rfl,rfl,ho⟩,hl⟩
section
variable{K:Fq}{x dx C f:Addr}{mA:Str->Option Value}{name:Str}{v:Value}
def UI{a:Bool}{Q:Vp}(X:K.In s.heap)(I:ObjM s.heap x dx C mA)(e:PySem.W.plainGet K C name=true)(f:PySem.W.hasDictIn K C=true)
  (b:PySem.W.findIn K (.ref C) name=some none) (i:mA name=some v) (d:PySem.W.handedIn v=true) (h:Q v {s with toks:=s.toks+1}):
  wpAny (model prog w) A (getAttr (.ref x) name a) Q E s:=by
 obtain⟨od,J,hl⟩:=I.look;exact PySem.W.get_value X J (PySem.W.plainGet_of e).1 (PySem.W.findObj_own f b rfl<|by rw[hl,i]) d h
def VU{e:List Str}{Q:Unit->Shared->Prop}(X:K.In s.heap)(I:ObjM s.heap x dx C mA)
  (hs:PySem.W.findIn K (.ref C) "__setattr__"=some (some<|.builtin "object.__setattr__")) (hp:PySem.W.plainOver K C=true) (o:PySem.W.takerIn K C name=some none) (j:PySem.W.hasDictIn K C=true)
  (z:PySem.Within mA e) (hsz:↑e<=sizeLine)
  (h:∀h',ObjM h' x dx C (λy=>if y=name then some v else mA y)->Heap.SameBut dx s.heap h'->Q () {s with heap:=h',toks:=s.toks+2}):
  wpAny (model prog w) A (setAttr (.ref x) name v) Q E s:=by
 obtain⟨od,J,hl⟩:=I.look;refine PySem.W.set_plain X J hs<|PySem.W.osa_open (s:={s with toks:=s.toks+1}) (r:=none) X J hp o λb=>?_;obtain⟨L,u,n⟩:=PySem.W.any_some j;have q:s.heap.get? x=some ⟨.ref C,some dx,.plain,#[]⟩:=I.obj;refine aF<|bF<|aF<|aF<|wpAny_loadPart q<|aF<|PySem.W.Looks.here (s:={s with toks:=s.toks+1}) (PySem.W.looks_clsIn X u) ?_;rw[n];refine bF (a:=some dx)<|aF<|bF<|aF ?_;refine wpAny_nsSet1 (s:={s with toks:=s.toks+1}) I.ns λh' d f=>?_;obtain⟨B,H,G,m,i,l⟩:=d.count<|PySem.Within.cons name v z;refine aF<|wpAny_lookBehind m (by rw[i];exact pastItsLine_dict<|gF l<|by rw[cL];lia) ?_;exact bF<|h _ ⟨(f.2 _<|bW I.ne).trans I.obj,d,I.ne⟩ f
def XW{R:Result->Shared->Prop}{vs:List Value}{a:List (Str×Value)}(X:K.In s.heap)(e:PySem.W.makesIn K C=true)
  (hi:PySem.W.findIn K (.ref C) "__init__"=some (some<|.ref f)) (b:PySem.W.typeIn K (.ref f)=some (.type "function"))
  (h:codeAny (model prog w) (A.under<|.builtin "type.__call__" ⟨.ref C::vs,a⟩) (.call (.ref f) ⟨.ref (s⁻¹+1)::vs,a⟩) (PySem.W.InitBack (s⁻¹+1) R)
   {s with heap:=(s.heap.push PySem.W.emptyDict).push<|PySem.W.instObj C s⁻¹}):
  codeAny (model prog w) A (.call (.ref C) ⟨vs,a⟩) R s:=by
 obtain⟨i,g,d,t,os⟩:=s;exact PySem.W.make_core (PySem.W.makes_of X e) (PySem.W.looks_findIn X hi) (λself=>PySem.W.bind_fn X self b) (.inl rfl) h
end
def cJ(f:Str)(v:V):List (Str×V)->List (Str×V)
 | []=>[(f,v)]
 | (g,x)::r=>if g=f then(g,v)::r else(g,x)::cJ f v r
theorem OB(f g:Str)(v:V):∀fs:List (Str×V),(cJ f v fs).lookup g=if g=f then some v else fs.lookup g
 | []=>by
  show List.lookup g [(f,v)]=_
  by_cases h:g=f
  .have a:(g == f)=true:=beq_iff_eq.mpr h;simp only[List.lookup,a,bE h]
  .have a:(g == f)=false:=vc4.mpr h;simp only[List.lookup,a,bD h]
 | (k,x)::r=>by
  have d:=OB f g v r;rw[show cJ f v ((k,x)::r)=(if k=f then(k,v)::r else(k,x)::cJ f v r) from rfl]
  by_cases b:k=f
  .rw[bE b]
   by_cases h:g=k
   .have a:(g == k)=true:=beq_iff_eq.mpr h;simp only[List.lookup,a,bE<|h.trans b]
   .have a:(g == k)=false:=vc4.mpr h;simp only[List.lookup,a,bD (λe:g=f=>h<|e.trans b.symm)]
  .rw[bD b]
   by_cases h:g=k
   .have a:(g == k)=true:=beq_iff_eq.mpr h;simp only[List.lookup,a,bD (λe:g=f=>b<|h.symm.trans e)]
   .have a:(g == k)=false:=vc4.mpr h;simp only[List.lookup,a];exact d
theorem IG(f:Str)(v:V):∀fs:List (Str×V),f∈(cJ f v fs).map (·.1)/\∀g,g∈fs.map (·.1)->g∈(cJ f v fs).map (·.1)
 | []=>⟨by simp[cJ],λg h=>by simp at h⟩
 | (k,x)::r=>by
  obtain⟨b,d⟩:=IG f v r;rw[show cJ f v ((k,x)::r)=(if k=f then(k,v)::r else(k,x)::cJ f v r) from rfl]
  by_cases a:k=f
  .rw[bE a];subst a;exact⟨by simp,λg h=>by simpa using h⟩
  .rw[bD a];refine⟨?_,λg h=>?_⟩
   .rw[dB];exact gX _ b
   .rw[dB]at h ⊢;rcases wr5.mp h with e | e
    .exact wr5.mpr<|.inl e
    .exact gX _<|d g e
theorem NA(f:Str)(v:V):∀fs:List (Str×V),↑(cJ f v fs)<=↑fs+1
 | []=>by simp[cJ]
 | (k,x)::r=>by
  have b:=NA f v r;rw[show cJ f v ((k,x)::r)=(if k=f then(k,v)::r else(k,x)::cJ f v r) from rfl]
  by_cases a:k=f
  .rw[bE a,cL,cL];lia
  .rw[bD a,cL,cL];lia
def RelO.some_of{v:V}{o:Option Value}(r:RelO (some v) o):∃u,o=some u/\RelV v u:=by
 cases o with
 | none=>exact(show False from r).elim
 | some u=>exact⟨u,rfl,r⟩
def XI{v:V}{u:Value}(r:RelV v u):PySem.W.handedIn u=true:=by
 cases v with
 | non=>cases (show u=Value.none from r);rfl
 | bl b=>cases (show u=Value.bool b from r);rfl
 | int i=>obtain⟨t,e⟩:=(show ∃t,u=Value.int i t from r);cases e;rfl
 | str x=>obtain⟨t,e⟩:=(show ∃t,u=Value.str x t from r);cases e;rfl
 | byt b=>obtain⟨t,e⟩:=(show ∃t,u=Value.bytes b t from r);cases e;rfl
 | flt b=>obtain⟨t,e⟩:=(show ∃t,u=Value.float b t from r);cases e;rfl
 | ref a=>cases (show u=Value.ref a from r);rfl
 | ty n=>cases (show u=Value.type n from r);rfl
section
variable{P:Program}{w:World}{H H':Hp}{h h':Heap}{a C dx:Addr}{fs fs':List (Str×V)}
def MT(b:HOk P w H h)(e:H a=some (.ins C dx fs)):∃mA,ObjM h a dx C mA/\(∀f,RelO (fs.lookup f)<|mA f)/\PySem.Within mA (fs.map (·.1))/\↑fs<=1000/\H dx=some (.own a):=by
 obtain⟨d,z,ne,i,mA,n,r,q⟩:=(show ObjOk P w H h a (.ins C dx fs) from b a _ e);exact⟨mA,⟨i,n,ne⟩,r,q,z,d⟩
end
structure Cls(K:Fq)(C:Addr):Prop where
 pg:PySem.W.plainGet K C Str.empty=true
 hd:PySem.W.hasDictIn K C=true
 po:PySem.W.plainOver K C=true
 sa:PySem.W.findIn K (.ref C) "__setattr__"=some (some<|.builtin "object.__setattr__")
def Cls.get{K:Fq}{C:Addr}(c:Cls K C)(f:Str):PySem.W.plainGet K C f=true:=c.pg
def NoAttr(K:Fq)(C:Addr)(f:Str):Prop:=PySem.W.findIn K (.ref C) f=some none
def NoAttr.taker{K:Fq}{C:Addr}{f:Str}(n:NoAttr K C f):PySem.W.takerIn K C f=some none:=by
 unfold PySem.W.takerIn;rw[show PySem.W.findIn K (.ref C) f=some none from n];rfl
section
variable{pins:List (Addr×Obj)}{σ:St}{H:Hp}{s:Shared}{a C dx:Addr}{fs:List (Str×V)}{f:Str}{v:V}{A:Around}{E:Vp}
def OH{b:Bool}{Q:Vp}(I:Inv X pins σ H s)(e:H a=some (.ins C dx fs))(c:Cls X.K C)(n:NoAttr X.K C f)(l:fs.lookup f=some v)
  (h:∀u s',Inv X pins σ H s'->RelV v u->Q u s'):wpAny (model X.prog X.w) A (getAttr (.ref a) f b) Q E s:=by
 obtain⟨mA,O,r,_,_,_⟩:=MT I.hok e;obtain⟨u,i,d⟩:=RelO.some_of (v:=v) (o:=mA f) (by rw[<-l];exact r f);exact UI I.kIn O (c.get f) c.hd n i (XI d)<|h u _ (I.tok _) d
def QC{y:V}{u:Value}{Q:Unit->Shared->Prop}(I:Inv X pins σ H s)(e:H a=some (.ins C dx fs))(c:Cls X.K C)(n:NoAttr X.K C f)(hl:↑fs<1000)(G:RelV y u)
  (h:∀s',Inv X pins σ (upd H a<|.ins C dx<|cJ f y fs) s'->Q () s'):wpAny (model X.prog X.w) A (setAttr (.ref a) f u) Q E s:=by
 obtain⟨mA,O,r,i,_,j⟩:=MT I.hok e;have hz:↑(fs.map (·.1))<=sizeLine:=by rw[aI,sizeLine_eq];lia
 refine VU I.kIn O c.sa c.po n.taker c.hd i hz λh' d m=>h _ ?_;have hd:∃o,h'.get? dx=some o:=let ⟨o,_,_,e',_⟩:=d.ns;⟨o,e'⟩
 refine I.write (x:=a) (e:=dx) (by rw[e];exact iA) (.inr j) (λb q B z=>(m.2 b B).trans z) hd ?_;refine⟨by rw[aC O.ne];exact j,?_,O.ne,d.obj,_,d.ns,λg=>?_,λg l=>?_⟩
 .have:=NA f y fs;lia
 .show RelO ((cJ f y fs).lookup g) (if g=f then some u else mA g);rw[OB]
  by_cases q:g=f
  .rw[bE q,bE q];exact G
  .rw[bD q,bD q];exact r g
 .by_cases q:g=f
  .rw[q];exact(IG f y fs).1
  .refine(IG f y fs).2 g (i g λz=>l ?_);show(if g=f then some u else mA g)=none;rw[bD q];exact z
def Inv.made(I:Inv X pins σ H s):Inv X pins σ (upd (upd H s⁻¹<|.own<|s⁻¹+1) (s⁻¹+1)<|.ins C s⁻¹ [])
  {s with heap:=(s.heap.push PySem.W.emptyDict).push<|PySem.W.instObj C s⁻¹}:=by
 have d:(s.heap.push PySem.W.emptyDict).get? s⁻¹=some PySem.W.emptyDict:=dD s.heap rfl;have f:((s.heap.push PySem.W.emptyDict).push<|PySem.W.instObj C s⁻¹).get? (s⁻¹+1)=some (PySem.W.instObj C s⁻¹):=by
  have:=dD (s.heap.push PySem.W.emptyDict) (o:=PySem.W.instObj C s⁻¹) rfl;rwa [nI]at this
 have j:(s.heap.push PySem.W.emptyDict).Ns s⁻¹ (λ_=>none):=⟨PySem.W.emptyDict,#[],_,d,rfl,(λe he=>absurd he<|by simp),λ_=>rfl⟩;have i:=I.laid (a:=s⁻¹) (o:=.own<|s⁻¹+1) (h':=s.heap.push PySem.W.emptyDict) (t':=s.toks) (λb u q=>bS _ q) (aY _) ⟨_,d⟩;refine i.laid (a:=s⁻¹+1) (o:=.ins C s⁻¹ []) (t':=s.toks) (λb u q=>bS _ q) (Nat.le_of_eq<|nI _ _) ?_;have ne:s⁻¹≠s⁻¹+1:=bV<|vZ _;refine⟨by rw[aC ne,zb1],bT _,ne,f,λ_=>none,(Heap.Ns1.of_empty j).at λo q=>bS _ q,λ_=>iA,λy h=>absurd rfl h⟩
def ZV{prog:Program}{w:World}{env:Env}{e:Expr}{f:Str}{pos:Pos}{s:Shared}{Q:Vp}(b:attributeBase e f env (eval e env)=eval e env)
  (h:wpAny (model prog w) A (eval e env) (λo a=>wpAny (model prog w) A (getAttr o f true) Q E a) E s):wpAny (model prog w) A (eval (.Attribute e f pos) env) Q E s:=
 Attribute_any_ h (by rw[arm_eval_Attribute,b])
end
def oQ(X:Cx)(op:Operator)(rd:V->V->Hp->VK->Prop):Prop:=
 ∀(pins:List (Addr×Obj))(s:Shared)(σ:St)(H:Hp)(x y:V)(u v:Value)(Q:VK),Inv X pins σ H s->RelV x u->RelV y v->rd x y H Q->wpAny (model X.prog X.w) X.A (inplaceOp op u v) (EP X pins σ Q) X.xe s
section
variable{o e value:Expr}{f:Str}{pos pos' tpos:Pos}{ta tv:TE}
def GL:V->V->Hp->VK->Prop:=λx y H Q=>∃i j,x=.int i/\y=.int j/\Q (.int<|i+j) H
def JC:V->V->Hp->VK->Prop:=λx y H Q=>∃i j,x=.int i/\y=.int j/\Q (.int<|i-j) H
def CJ:oQ X .Add GL:=by
 rintro d s σ H x y u v Q I a b ⟨i,j,rfl,rfl,q⟩;obtain⟨t,rfl⟩:=(show ∃t,u=Value.int i t from a);obtain⟨t',rfl⟩:=(show ∃t',v=Value.int j t' from b);exact PyProof.Rows.iadd_int ⟨.int<|i+j,H,I.tok _,⟨_,rfl⟩,q⟩
def rJ:oQ X .Sub JC:=by
 rintro d s σ H x y u v Q I a b ⟨i,j,rfl,rfl,q⟩;obtain⟨t,rfl⟩:=(show ∃t,u=Value.int i t from a);obtain⟨t',rfl⟩:=(show ∃t',v=Value.int j t' from b);exact PyProof.Rows.isub_int ⟨.int<|i-j,H,I.tok _,⟨_,rfl⟩,q⟩
end
section
variable{pins:List (Addr×Obj)}{σ:St}{H:Hp}{s:Shared}{A:Around}{E:Vp}{Q:Vp}{c:Value}{b:Bool}
end
structure Room(k:Nat)(A:Around):Prop where
 hd:A.handled=none
 dp:A.depth+3*k+5<recursionLimit
 un:A.units+16*k+200<cLine
theorem Room.deeper{k:Nat}{A:Around}(r:Room (k+1) A)(env:Env):Room k (A.deeper env):=
 ⟨r.hd,by have:=r.dp;show A.depth+1+3*k+5<_;lia,by have:=r.un;show A.units+3+16*k+200<_;lia⟩
theorem Room.in1{k:Nat}{A:Around}(r:Room (k+1) A):Room k A.in1:=
 ⟨r.hd,by have:=r.dp;show A.depth+3*k+5<_;lia,by have:=r.un;show A.units+1+16*k+200<_;lia⟩
def Bv{A:Around}{C:Addr}{us:List Value}{a:List (Str×Value)}:(A.under<|.builtin "type.__call__" ⟨.ref C::us,a⟩).depth=A.depth+1:=by
 first | rfl | simp[Around.under,Code.weight,Code.isCreation,Code.isGuard,Code.isCaller,Code.frames,Code.isFrame,guardIds]
def YI{A:Around}{C:Addr}{us:List Value}{a:List (Str×Value)}:(A.under<|.builtin "type.__call__" ⟨.ref C::us,a⟩).units=A.units+1:=by
 first | rfl | simp[Around.under,Code.cUnits,Code.frames,Code.isFrame]
def Room.make{k:Nat}{A:Around}(r:Room (k+1) A)(C:Addr)(us:List Value)(a:List (Str×Value)):Room k (A.under<|.builtin "type.__call__" ⟨.ref C::us,a⟩):=
 ⟨r.hd,by have:=r.dp;rw[Bv];lia,by have:=r.un;rw[YI];lia⟩
theorem Room.depth{k:Nat}{A:Around}(r:Room k A):A.depth<recursionLimit:=by have:=r.dp;lia
theorem Room.units{k:Nat}{A:Around}(r:Room k A):A.units+64<cLine:=by have:=r.un;lia
def bK:TA:=λ_ H Q=>Q [] H
def bG(ta:TE)(tr:TA):TA:=λσ H Q=>ta σ H λx H1=>tr σ H1 λxs H2=>Q (x::xs) H2
section
variable{e:Expr}{es:List Expr}{te:TE}{t:TA}{pos:Pos}
def aE:PA X [] bK:=λ_ _ _ _ H Q I h=>nD ⟨[],H,I,.nil,h⟩
def aA(b:PE X e te)(hr:PA X es t)(hs:starEach (e::es) X.env=(false,eval e X.env)::starEach es X.env:=by rfl):PA X (e::es) (bG te t):=by
 intro pos a s σ H Q I h;rw[hs];show wpAny _ _ (spliced<|(false,eval e X.env)::backTo pos (starEach es X.env)) _ _ s;refine kA<|aX (b a s σ H _ I h) ?_;rintro u n ⟨x,H1,i,f,l⟩;exact aX (hr pos a n σ H1 _ i l) <| by rintro us s2 ⟨xs,H2,m,j,d⟩;exact⟨x::xs,H2,m,.cons f j,d⟩
inductive RS(xs:List V)(H:Hp)(Q:VK):Prop
 | mk(h:↑xs<=sizeLine)(q:∀p,H p=none->Q (.ref p) (upd H p<|.tup xs)):RS xs H Q
def gR(t:TA):TE:=λσ H Q=>t σ H λxs H1=>RS xs H1 Q
inductive NJ(xs:List V)(H:Hp)(Q:VK):Prop
 | mk(h:↑xs<=sizeLine)(q:∀p,H p=none->Q (.ref p) (upd H p<|.lst xs)):NJ xs H Q
def lA(t:TA):TE:=λσ H Q=>t σ H λxs H1=>NJ xs H1 Q
def cX{x1}(h:PA X es t):PE X (.Tuple es x1 pos) (gR t):=by
 intro f s σ H Q I j;refine wpAny_Tuple_spliced<|aX (h pos f s σ H _ I j) λus a ⟨xs,H1,d,r,z,q⟩=>⟨by rw[<-↑r];exact z,?_⟩;have i:H1 a⁻¹=none:=d.hok.fresh<|aY _;refine⟨.ref a⁻¹,upd H1 a⁻¹<|.tup xs,d.laid (t':=a.toks) (λb u e=>bS _ e) (aY _) ?_,rfl,q _ i⟩;exact⟨⟨z,_,dD _ rfl,rfl⟩,us,r,⟨_,dD _ rfl,rfl,_,rfl⟩⟩
def cW(h:PA X es t):PE X (.List es pos) (lA t):=by
 intro f s σ H Q I j;refine wpAny_List_spliced<|aX (h pos f s σ H _ I j) λus a ⟨xs,H1,d,r,z,q⟩=>⟨by rw[<-↑r];exact z,?_⟩;have i:H1 a⁻¹=none:=d.hok.fresh<|aY _;refine⟨.ref a⁻¹,upd H1 a⁻¹<|.lst xs,d.laid (t':=a.toks) (λb u e=>bS _ e) (aY _) ?_,rfl,q _ i⟩;exact⟨z,us,0,r,dD _ rfl⟩
end
abbrev Sp:=List V->Hp->VK->XK->Prop
abbrev jY:=List Env->Hp->Shared->XK->Value->Shared->Prop
structure Env0(P:Program)(w:World)(K:Fq)(mg:Str->Option Value)(base:Heap)(A:Around)(outer:List Env)(s:Shared)(H:Hp):Prop where
 frames:A.frames=some outer
 mod:Mod K mg base
 bs:∀b o,base.get? b=some o->s.heap.get? b=some o/\H b=none
 bsz:base.objs.size<=s⁻¹
 funs:s.heap.FunFrames base outer
 frf:∀b∈kG outer,H b=none
 hok:HOk P w H s.heap
 bare:AllBare s.gens
def CE(outer:List Env)(P:Program)(w:World)(H:Hp)(s:Shared)(Q:VK)(u:Value)(s':Shared):Prop:=
 ∃v H',s'.os=s.os/\AllBare s'.gens/\Un (kG outer) [] H H' s.heap s'.heap/\HOk P w H' s'.heap/\RelV v u/\Q v H'
def CR(CX:jY)(outer:List Env)(P:Program)(w:World)(H:Hp)(s:Shared)(Q:VK)(E:XK)(r:Result)(s':Shared):Prop:=
 match r with
 | .ok (.ret u)=>CE outer P w H s Q u s'
 | .ok _=>False
 | .error e=>CX outer H s E e s'
structure aQ(P:Program)(w:World)(K:Fq)(mg:Str->Option Value)(base:Heap)(CX:jY)(k:Nat)(f:Addr)(fd:FuncData)(ps:List Str)(sp:Sp):Prop where
 len:∀vs H Q E,sp vs H Q E->↑vs=↑ps
 run:∀(A:Around)(outer:List Env)(s:Shared)(H:Hp)(args:Args)(us:List Value)(vs:List V)(Q:VK)(E:XK),Room k A->Env0 P w K mg base A outer s H->BindsTo s fd args (ps.zip us)->Vals vs us->sp vs H Q E->
  codeAny (model P w) A (.call (.ref f) args) (CR CX outer P w H s Q E) s
def Env0.make{P:Program}{w:World}{K:Fq}{mg:Str->Option Value}{base:Heap}{A:Around}{outer:List Env}{s:Shared}{H:Hp}(e:Env0 P w K mg base A outer s H)(C:Addr)(us:List Value)(a:List (Str×Value)):
  Env0 P w K mg base (A.under<|.builtin "type.__call__" ⟨.ref C::us,a⟩) outer s H:=⟨by first | exact e.frames | (simpa [Around.under,Code.envs,Code.isFrame,pushEnvs]using e.frames),e.mod,e.bs,e.bsz,e.funs,e.frf,e.hok,e.bare⟩
theorem Env0.in1{P:Program}{w:World}{K:Fq}{mg:Str->Option Value}{base:Heap}{A:Around}{outer:List Env}{s:Shared}{H:Hp}(e:Env0 P w K mg base A outer s H):
  Env0 P w K mg base A.in1 outer s H:=⟨e.frames,e.mod,e.bs,e.bsz,e.funs,e.frf,e.hok,e.bare⟩
section
variable{pins:List (Addr×Obj)}{σ:St}{H:Hp}{s s':Shared}
def Inv.env0(I:Inv X pins σ H s):Env0 X.prog X.w X.K X.mg X.base X.A X.stack s H:=
 ⟨I.ok.frames,I.ok.mod,I.bs,gF I.ok.bsz I.sz,I.stack,I.stkFree,I.hok,I.bare⟩
def Inv.after{Q:VK}{u:Value}(I:Inv X pins σ H s)(h:CE X.stack X.prog X.w H s Q u s'):EP X pins σ Q u s':=by
 obtain⟨v,H',os,a,un,e,r,q⟩:=h;obtain⟨f,g,d,t,i⟩:=s';obtain rfl:i=s.os:=os;exact⟨v,H',I.call (h':=f) (g':=g) (d':=d) (t':=t) (ch:=[]) un e a (λb z=>absurd z<|by simp),r,q⟩
end
def gE(sp:Sp)(dvs:List V)(E:XK)(t:TA):TE:=λσ H Q=>t σ H λvs H1=>sp (vs++dvs) H1 Q E
def Binds(K:Fq)(fd:FuncData)(ps:List Str)(ds:List Value):Prop:=
 ∀(s:Shared)(us:List Value),K.In s.heap->↑(us++ds)=↑ps->BindsTo s fd ⟨us,[]⟩ (ps.zip<|us++ds)
def Binds.all{K:Fq}{fd:FuncData}{ps:List Str}(h:∀us:List Value,↑us=↑ps->bindArgs fd ⟨us,[]⟩=pure (ps.zip us)):Binds K fd ps []:=λs us _ hl=>by
 rw[fO]at hl ⊢;exact .of_eq<|h us hl
def DM(CX:jY)(X:Cx)(E:XK):Prop:=∀(pins:List (Addr×Obj))(σ:St)(H:Hp)(s:Shared)(e:Value)(s':Shared),Inv X pins σ H s->CX X.stack H s E e s'->X.xe e s'
section
variable{CX:jY}{k:Nat}{f C:Addr}{fd:FuncData}{ps:List Str}{sp:Sp}{dvs:List V}{ds:List Value}{E:XK}{x m:Str}{p pos apos:Pos}{e o:Expr}{es:List Expr}{ta:TE}{t:TA}
def NZ{b:List (Addr×Obj)}{σ:St}{H:Hp}{s:Shared}{Q:VK}{us:List Value}{vs:List V}(F:aQ X.prog X.w X.K X.mg X.base CX k f fd ps sp)(hr:Room k X.A)(j:Binds X.K fd ps ds)(hd:Vals dvs ds)(i:DM CX X E)
  (I:Inv X b σ H s) (r:Vals vs us) (h:sp (vs++dvs) H Q E):wpAny (model X.prog X.w) X.A (call (.ref f) us) (EP X b σ Q) X.xe s:=by
 have d:Vals (vs++dvs) (us++ds):=r.append hd;have hl:↑(us++ds)=↑ps:=by rw[<-↑d];exact F.len _ _ _ _ h
 refine wpAny_call<|codeAny_mono (F.run X.A X.stack s H ⟨us,[]⟩ (us++ds) (vs++dvs) Q E hr I.env0 (j s us I.kIn hl) d h) λr s' a=>?_;cases r with
 | error e=>exact i b σ H s e s' I a
 | ok fl=>
  cases fl with
  | ret u=>exact I.after a
  | next=>exact False.elim a
  | brk=>exact False.elim a
  | cont=>exact False.elim a
def ZH(F:aQ X.prog X.w X.K X.mg X.base CX k f fd ps sp)(hr:Room k X.A)(i:Gl X x)(j:X.mg x=some (.ref f))(m:PySem.W.keepIn X.K (.ref f)=true)(u:Binds X.K fd ps ds)(hd:Vals dvs ds)(o:DM CX X E)
  (b:PA X (e::es) t) (n:(x == ("__debug__":Str))=false:=by decide) (he:starEach (e::es) X.env=(false,eval e X.env)::starEach es X.env:=by rfl) (d:(backTo pos<|starEach es X.env).any (·.1)=false:=by rfl):
  PE X (.Call (.Name x p) (e::es) [] pos) (gE sp dvs E t):=by
 intro l s σ H Q I h;refine vP<|FH I i j ?_ n;refine PySem.W.callWith_K (h₀:=X.base) I.ok.mod.kin m (aX (b pos l s σ H _ I h) λus z ⟨vs,H1,a,r,q⟩=>⟨a.kIn,?_⟩) he d;exact NZ F hr u hd o a r q
structure Mk(K:Fq)(C f:Addr):Prop where
 makes:PySem.W.makesIn K C=true
 init:PySem.W.findIn K (.ref C) "__init__"=some (some<|.ref f)
 fn:PySem.W.isFn K (.ref f)=true
 kp:PySem.W.keepIn K (.ref C)=true
def WE{d:List (Addr×Obj)}{σ:St}{H:Hp}{s:Shared}{Q:VK}{us:List Value}{vs:List V}(M:Mk X.K C f)(F:aQ X.prog X.w X.K X.mg X.base CX k f fd ps sp)(hr:Room (k+1) X.A)(z:Binds X.K fd ps ds)(hd:Vals dvs ds)
  (q:DM CX X E) (I:Inv X d σ H s) (r:Vals vs us)
  (h:∀x dx,H x=none->H dx=none->dx≠x->sp (.ref x::(vs++dvs)) (upd (upd H dx<|.own x) x<|.ins C dx []) (λv H2=>v=.non/\Q (.ref x) H2) E):
  wpAny (model X.prog X.w) X.A (call (.ref C) us) (EP X d σ Q) X.xe s:=by
 have j:=h (s⁻¹+1) s⁻¹ (I.hok.fresh<|jB _) (I.hok.fresh<|aY _)<|bV<|vZ _;have b:=Inv.made (C:=C) I;have i:Vals (V.ref (s⁻¹+1)::(vs++dvs)) (Value.ref (s⁻¹+1)::(us++ds)):=.cons rfl<|r.append hd;have hl:↑(Value.ref (s⁻¹+1)::us++ds)=↑ps:=by
  have e:=↑i;rw[F.len _ _ _ _ j]at e;exact e.symm
 refine wpAny_call<|XW (f:=f) I.kIn M.makes M.init (beq_iff_eq.mp M.fn)<|codeAny_mono (F.run _ X.stack _ _ ⟨Value.ref (s⁻¹+1)::us,[]⟩ (Value.ref (s⁻¹+1)::(us++ds)) _ _ E (hr.make C us []) (b.env0.make C us []) (z _ (Value.ref (s⁻¹+1)::us) b.kIn hl) i j) λr s' a=>?_
 cases r with
 | error e=>exact q d σ _ _ e s' b a
 | ok fl=>
  cases fl with
  | ret u=>
   obtain⟨v,H',l,n,o,m⟩:=b.after a;subst o;exact⟨n,⟨V.ref<|s⁻¹+1,H',l,rfl,m⟩⟩
  | next=>exact False.elim a
  | brk=>exact False.elim a
  | cont=>exact False.elim a
end
section
variable{CX:jY}{k:Nat}{f C:Addr}{fd:FuncData}{ps ks:List Str}{sp:Sp}{E:XK}{x m:Str}{p pos apos kpos:Pos}{e o:Expr}{es:List Expr}{kws:List Keyword}{te ta:TE}{t tk:TA}{nm:Option Str}
variable{g:List Value->List Value->List Value}{gV:List V->List V->List V}
end
structure bY(N P:List Str)(sc:Scope):Prop where
 kind:sc.kind=.function
 co:sc.isCoroutine=false
 gen:sc.isGenerator=false
 nd:N.Nodup
 pre:N.take P.length=P
 par:∀x∈P,sc.names.lookup x=some .local\/sc.names.lookup x=some .cell
 nofree:∀y∈sc.names,y.2≠.free
theorem OC{kindOf:Str->Option NameKind}{x:Str}:∀{binds:List (Str×Value)}{m:Str->Option Value},(∀v,(x,v)∉binds)->bindL kindOf binds m x=m x
 | [],_,_=>rfl
 | (n,v)::r,m,h=>by
  unfold bindL;rw[OC λw a=>h w<|gX _ a]
  split
  .have:x≠n:=by rintro rfl;exact h v sJ
   simp[this]
  .rfl
theorem QZ{kindOf:Str->Option NameKind}{x:Str}:∀{binds:List (Str×Value)}{m:Str->Option Value},(∀v,(x,v)∉binds)->bindC kindOf binds m x=m x
 | [],_,_=>rfl
 | (n,v)::r,m,h=>by
  unfold bindC;rw[QZ λw a=>h w<|gX _ a]
  split
  .rfl
  .have:x≠n:=by rintro rfl;exact h v sJ
   simp[this]
theorem SE{kindOf:Str->Option NameKind}{x:Str}{v:Value}:∀{P:List Str}{vs:List Value}{i:Nat}{m:Str->Option Value},P.Nodup->P[i]?=some x->vs[i]?=some v->kindOf x=some .local->
  bindL kindOf (P.zip vs) m x=some v
 | [],_,_,_,_,h,_,_=>by simp at h
 | _::_,[],_,_,_,_,h,_=>by simp at h
 | p::P,w::vs,0,m,nd,h1,h2,hk=>by
  simp at h1 h2;subst h1;subst h2;show bindL kindOf ((p,w)::P.zip vs) m p=_;unfold bindL;rw[OC λv a=>(wv3.mp nd).1 (xV a).1,bE hk];simp
 | p::P,w::vs,i+1,m,nd,h1,h2,hk=>by
  show bindL kindOf ((p,w)::P.zip vs) m x=_;unfold bindL;exact SE (i:=i) (wv3.mp nd).2 (by simpa using h1) (by simpa using h2) hk
theorem MG{kindOf:Str->Option NameKind}{x:Str}{v:Value}:∀{P:List Str}{vs:List Value}{i:Nat}{m:Str->Option Value},P.Nodup->P[i]?=some x->vs[i]?=some v->kindOf x≠some .local->
  bindC kindOf (P.zip vs) m x=some v
 | [],_,_,_,_,h,_,_=>by simp at h
 | _::_,[],_,_,_,_,h,_=>by simp at h
 | p::P,w::vs,0,m,nd,h1,h2,hk=>by
  simp at h1 h2;subst h1;subst h2;show bindC kindOf ((p,w)::P.zip vs) m p=_;unfold bindC;rw[QZ λv a=>(wv3.mp nd).1 (xV a).1,bD hk];simp
 | p::P,w::vs,i+1,m,nd,h1,h2,hk=>by
  show bindC kindOf ((p,w)::P.zip vs) m x=_;unfold bindC;exact MG (i:=i) (wv3.mp nd).2 (by simpa using h1) (by simpa using h2) hk
def mY(N:List Str)(vs:List V):St:=vs.map some++List.replicate (N.length-↑vs) none
def gM(CX:jY)(P:Program)(w:World)(K:Fq)(mg:Str->Option Value)(base:Heap)(N:List Str)(qual:Str)(scope:Scope)(f:Addr)(cd:Value)(A:Around)(outer:List Env)(s:Shared)(H:Hp)(E:XK):Cx where
 prog:=P
 w:=w
 K:=K
 mg:=mg
 base:=base
 A:=A.deeper<|envOfC qual scope s⁻¹ f cd
 N:=N
 s₀:=s
 H₀:=H
 env:=envOfC qual scope s⁻¹ f cd
 outer:=outer
 stack:=envOfC qual scope s⁻¹ f cd::outer
 ex:=[]
 calm:=true
 fn:=λ_=>true
 pn:=[]
 xe:=λe s'=>wpAny (model P w) (A.deeper<|envOfC qual scope s⁻¹ f cd) (leaving (envOfC qual scope s⁻¹ f cd) e) (λ_ s''=>CX outer H s E e s'') (λe' s''=>CX outer H s E e' s'') s'
def MU{a:Scope}{n:Nat}{x:Str}(h:a.names.lookup x=some .cell):∃c,(cellsFrom n a.names []).lookup x=some c:=by
 have q:=PySem.W.cellsFrom_some a.names n []<|.inl h;exact vk9.mp q
def WJ{CX:jY}{P:Program}{w:World}{K:Fq}{mg:Str->Option Value}{base:Heap}{N ps:List Str}{d:Str}{scope:Scope}{f:Addr}{m:Value}{A:Around}{outer:List Env}{s G:Shared}{H:Hp}{E:XK}{us:List Value}{vs:List V}
  (S:bY N ps scope) (hd:A.handled=none) (j:Env0 P w K mg base A outer s H) (hl:↑vs=↑ps) (r:Vals vs us)
  (x:InCallC s s⁻¹ (bindL (envOfC d scope s⁻¹ f m).kindOf (ps.zip us) λ_=>none) (cellsFrom (s⁻¹+1) scope.names []) (bindC (envOfC d scope s⁻¹ f m).kindOf (ps.zip us) λ_=>none) G):
  Inv (gM CX P w K mg base N d scope f m A outer s H E) [] (mY N vs) H G:=by
 have O:↑ps<=N.length:=by have:=cM List.length S.pre;rw[eS]at this;lia
 obtain⟨h1,tk,rfl,C⟩:=x.done;have o:∀b:Addr,b∉(gM CX P w K mg base N d scope f m A outer s H E).ex:=λb z=>absurd (show b∈([]:List Addr) from z) (by simp)
 exists ⟨j.mod,S.kind,rfl,rfl,aY _,λy z c h1 h2=>?_,λy l=>?_,λy c _ h=>?_,λ_=>hd,Around.frames_deeper j.frames,.inr ⟨rfl,rfl⟩,λb z=>absurd z<|o b,j.bs,j.bsz,λb _ _=>o b,λb z=>absurd z<|o b,j.funs,j.frf⟩,
  rfl,j.bare,Un.kept C,⟨_,x.toInCall.ns,λi y v h1 h2 M=>?_⟩,λy c h=>⟨_,x.cell y c h⟩,j.hok.fresh<|aY _,λy c h=>?_,λp hp=>absurd (show p∈([]:List (Addr×Obj)) from hp) (by simp),j.hok.kept C
 .exact name_of_addr x.apart (oI h1)<|oI h2
 .have l:scope.names.lookup y=some .cell\/scope.names.lookup y=some .free:=l;rcases l with l | l
  .exact MU l
  .exact absurd rfl<|S.nofree _<|oI l
 .exact dM<|x.above y c<|oI h
 .have hi:i<↑vs:=by
   unfold mY at h2
   by_cases hi:i<↑vs
   .exact hi
   .rw[iR<|by simpa using hi]at h2;rw[List.getElem?_replicate]at h2
    split at h2 <;> cases h2
  have J:vs[i]?=some v:=by
   unfold mY at h2;rw[jM (by simpa using hi),bZ]at h2;cases e:vs[i]? with
   | none=>rw[e]at h2;cases h2
   | some a=>rw[e]at h2;cases h2;rfl
  obtain⟨u,I,L⟩:=r.get J;have hp:ps[i]?=some y:=by
   rw[<-S.pre,List.getElem?_take_of_lt<|by lia];exact h1
  have B:ps.Nodup:=by rw[<-S.pre];exact S.nd.sublist<|List.take_sublist _ _
  exists u,L;rcases S.par y (dC hp)with k | k
  .exact .inl ⟨k,SE B hp I k⟩
  .obtain⟨c,e⟩:=MU (n:=s⁻¹+1) k;refine .inr ⟨.inl k,c,e,?_⟩;have q:=x.cell y c e;rw[MG B hp I (by show scope.names.lookup y≠_;rw[k];decide)]at q;exact q
 .exact j.hok.fresh<|dM<|x.above y c<|oI h
 .unfold mY;show _=N.length;rw[bJ,aI,List.length_replicate];lia
def yQ{CX:jY}{P:Program}{w:World}{K:Fq}{mg:Str->Option Value}{base:Heap}{k:Nat}{f:Addr}{name a:Str}{d:Arguments}{body:List Stmt}{scope:Scope}{G kV C B h ct O:Value}{L od:Option Addr}
  {a6:Array (Option Value)} {N ps:List Str} {sp:Sp} (lk:K.lookup f=some ⟨O,od,.func<|PySem.W.fnOf name a d body scope G kV C B L h ct,a6⟩) (Z:PySem.W.codeIn K h a=true) (S:bY N ps scope)
  (len:∀vs H Q E,sp vs H Q E->↑vs=↑ps)
  (a2:∀(A:Around)(outer:List Env)(s:Shared)(H:Hp)(vs:List V)(Q:VK)(E:XK),Room k (A.deeper<|envOfC a scope s⁻¹ f h)->sp vs H Q E-> ∃t,PSs (gM CX P w K mg base N a scope f h A outer s H E) body t/\t {nx:=λ_ H'=>Q .non H',rt:=Q} (mY N vs) H):
  aQ P w K mg base CX (k+1) f (PySem.W.fnOf name a d body scope G kV C B L h ct) ps sp:=by
 refine⟨len,λA outer s H args us vs Q E hr i Y r z=>?_⟩;have hl:=len _ _ _ _ z;have l:K.In s.heap:=i.mod.kin.keeps λb o e=>(i.bs b o e).1;have T:s.heap.NoLimit:=i.mod.nolimit.keeps λb o e=>(i.bs b o e).1;have M:∀y∈ps.zip us,scope.names.lookup y.1=some .local\/(scope.names.lookup y.1=some .cell/\((cellsFrom (s⁻¹+1) scope.names []).lookup y.1).isSome=true):=by
  rintro⟨n,v⟩ X;rcases S.par n (xV X).1 with q | q
  .exact .inl q
  .exact .inr ⟨q,PySem.W.cellsFrom_some _ _ _<|.inl q⟩
 refine codeAny_call_function hr.depth (l _ _ lk) rfl S.co S.gen rfl (PySem.W.codeRec_of l Z)<|Y _ _ _ _ ?_;refine wpAny_newFunctionEnv_cells S.kind M λenv he m x=>?_;subst he;refine⟨T.keeps x.toInCall.keep,codeAny_func ?_⟩;obtain⟨t,ht,hq⟩:=a2 A outer s H vs Q E (hr.deeper _) z;have I:Inv (gM CX P w K mg base N a scope f h A outer s H E) [] (mY N vs) H m:=WJ S hr.hd i hl r x;refine fF (ht [] m (mY N vs) H _ I hq) (λfl s' hs=>?_) λe s' hs=>hs;have fin:∀{σ':St}{H':Hp}{v:V}{u:Value},Inv (gM CX P w K mg base N a scope f h A outer s H E) [] σ' H' s'->RelV v u->Q v H'->CE outer P w H s Q u s':=
  λ{σ' H' v u} J j q=>⟨v,H',J.os,J.bare,J.base,J.hok,j,q⟩
 cases fl with
 | ret u=>
  obtain⟨v,σ',H',J,j,q⟩:=hs;exact fin J j q
 | next=>
  obtain⟨σ',H',J,q⟩:=hs;exact fin (v:=V.non) (u:=Value.none) J rfl q
 | brk=>
  obtain⟨_,_,_,q⟩:=hs;exact False.elim q
 | cont=>
  obtain⟨_,_,_,q⟩:=hs;exact False.elim q
section
variable{x:Str}{p pos:Pos}{e:Expr}{es:List Expr}{t:TA}{id T:String}{r:List V->Hp->VK->Prop}
def mJ(r:List V->Hp->VK->Prop)(t:TA):TE:=λσ H Q=>t σ H λvs H1=>r vs H1 Q
def eR(u:CallR X (.builtin id) r)(f:Gl X x)(l:X.mg x=none)(w:bootBuiltins x=some (.builtin id))(b:PA X (e::es) t)(i:x≠"__name__":=by decide)(o:(x == ("__debug__":Str))=false:=by decide)
  (he:starEach (e::es) X.env=(false,eval e X.env)::starEach es X.env:=by rfl) (d:(backTo pos<|starEach es X.env).any (·.1)=false:=by rfl):PE X (.Call (.Name x p) (e::es) [] pos) (mJ r t):=by
 intro a s σ H Q I h;refine vP<|mI I f l w ?_ i o;exact PyProof.Rows.callWith_builtin1 (aX (b pos a s σ H _ I h) <| by rintro us q ⟨vs,H1,m,j,n⟩;exact u a q σ H1 vs us Q m j n) he d
def fG(u:CallR X (.type T) r)(f:Gl X x)(l:X.mg x=none)(w:bootBuiltins x=some (.type T))(b:PA X (e::es) t)(i:x≠"__name__":=by decide)(o:(x == ("__debug__":Str))=false:=by decide)
  (he:starEach (e::es) X.env=(false,eval e X.env)::starEach es X.env:=by rfl) (d:(backTo pos<|starEach es X.env).any (·.1)=false:=by rfl):PE X (.Call (.Name x p) (e::es) [] pos) (mJ r t):=by
 intro a s σ H Q I h;refine vP<|mI I f l w ?_ i o;exact mX (aX (b pos a s σ H _ I h) <| by rintro us q ⟨vs,H1,m,j,n⟩;exact u a q σ H1 vs us Q m j n) he d
end
end L2
namespace HT
open PySem PyProof.Rows
section
open PySem.SeqAt
open PySem.AutoSeq1 (wpAny_loadPart')
open PySem.MeetsSeq PySem.MeetsSeq2 PySem.MeetsSeq3
end
section
variable{prog:Program}{w:World}{A:Around}{E:Vp}{s:Shared}
def ZL{t b:Addr}{vs ws:List Value}{Q:Vp}(x:IsTup s.heap t vs.toArray)(z:IsTup s.heap b ws.toArray)(u:vs≠[])
  (h1:ws=[]->Q (.ref t) s) (h2:ws≠[]->Q (.ref s⁻¹) {s with heap:=s.heap.push {cls:=.type "tuple",data:=.seq (vs++ws).toArray}})
  (hsz:↑vs+↑ws<=sizeLine):wpAny (model prog w) A (binaryOp .Add (.ref t)<|.ref b) Q E s:=by
 obtain⟨⟨cls,i,data,r⟩,d,q,n,hd⟩:=id x;obtain⟨⟨B,m,data2,o⟩,a,l,j,h⟩:=id z;simp only at q hd l h;subst q hd l h;have e:vs.toArray++ws.toArray=(vs++ws).toArray:=by simp
 by_cases f:ws=[]
 .exact concat_meets ⟨_,d,rfl⟩ ⟨_,a,rfl⟩ noFill_tuple_add seq_tuple_add PySem.F.slot_tuple_add PySem.F.entry_tuple_add (PySem.F.args_tuple_add_2 _ _)
   (tuple_addW1 t b vs.toArray ws.toArray n j i m r o (by simpa using u)<|by simp[f]) ⟨d,a,h1 f⟩
 .refine concat_meets ⟨_,d,rfl⟩ ⟨_,a,rfl⟩ noFill_tuple_add seq_tuple_add PySem.F.slot_tuple_add PySem.F.entry_tuple_add (PySem.F.args_tuple_add_2 _ _)
   (tuple_addW2 t b vs.toArray ws.toArray n j i m r o (by simpa using u) (by simpa using f)<|by rw[cN,cN];exact hsz) ⟨d,a,?_⟩
  rw[e];exact h2 f
def sIx(n d:Nat):Option Int->Nat
 | none=>d
 | some v=>if v<0 then(v+(n:Int)).toNat else min v.toNat n
def ND(n d:Nat):sIx n d none=d:=rfl
def DX(n d k:Nat):sIx n d (some (k:Int))=min k n:=by
 show(if (k:Int)<0 then((k:Int)+(n:Int)).toNat else min (k:Int).toNat n)=min k n;rw[bD (by lia),yB]
def rP(n d:Nat)(hd:d<=n)(o:Option Int):sIx n d o<=n:=by
 cases o with
 | none=>exact hd
 | some v=>
  show(if v<0 then(v+(n:Int)).toNat else min v.toNat n)<=n
  by_cases a:v<0
  .rw[bE a];lia
  .rw[bD a];exact Nat.min_le_right _ _
def QY(v:Int)(n d:Nat):(if v<0 then max (v+(n:Int)) 0 else min v (n:Int))=((sIx n d (some v):Nat):Int):=by
 show(if v<0 then max (v+(n:Int)) 0 else min v (n:Int))=(((if v<0 then(v+(n:Int)).toNat else min v.toNat n):Nat):Int)
 by_cases a:v<0
 .simp only[bE a];lia
 .simp only[bD a];lia
def ZD(lo hi:Option Int)(n:Nat):Builtin.Slice.sliceAdjust lo hi 1 (n:Int)=(((sIx n 0 lo:Nat):Int),((sIx n n hi:Nat):Int)):=by
 have h1:¬((1:Int)<0):=by lia
 unfold Builtin.Slice.sliceAdjust;simp only[h1,iO];refine Prod.ext ?_ ?_
 .cases lo with
  | none=>rfl
  | some v=>exact QY v n 0
 .cases hi with
  | none=>rfl
  | some v=>exact QY v n n
def ZC(i j:Nat):Builtin.Slice.slicePlaces (i:Int) (j:Int) 1=j-i:=by
 unfold Builtin.Slice.slicePlaces;have h1:(1:Int) > 0:=by lia
 simp only[h1,if_true,Int.ediv_one]
 split <;> lia
def OG{v:Value}{o:Option Int}{Q:Option Int->Shared->Prop}(p:IsPart v o)(h:Q o s):wpAny (model prog w) A (Builtin.Slice.slicePartIndex v) Q E s:=by
 cases p with
 | none=>exact slicePart_none h
 | int i t=>exact slicePart_int h
def NQ{f:Addr}{d e:Value}{lo hi:Option Int}{n:Nat}{Q:Int×Int×Nat->Shared->Prop}(hs:s.heap.IsSliceOf f d e .none)(j:IsPart d lo)(i:IsPart e hi)
  (h:Q (((sIx n 0 lo:Nat):Int),1,sIx n n hi-sIx n 0 lo) s):wpAny (model prog w) A (Builtin.Slice.sliceApplied (.ref f)<|pure (n:Int)) Q E s:=by
 obtain⟨os,a,l,b⟩:=id hs;unfold Builtin.Slice.sliceApplied Builtin.Slice.sliceFields;refine aF<|aF<|eA a b (x:=d) rfl<|aF<|eA a b (x:=e) rfl<|aF<|eA a b (x:=.none) rfl<|bF ?_;refine aF<|slicePart_none ?_;show wpAny _ _ (if ((1:Int) == 0)=true then _ else _) _ _ s;rw[bD<|by decide];refine aF<|OG j<|aF<|OG i<|aF<|bF ?_;show wpAny _ _ (match Builtin.Slice.sliceAdjust lo hi 1 (n:Int)with | (lo,hi)=>pure (lo,(1:Int),Builtin.Slice.slicePlaces lo hi 1)) _ _ s;rw[ZD lo hi n];show wpAny _ _ (pure (((sIx n 0 lo:Nat):Int),(1:Int),Builtin.Slice.slicePlaces ((sIx n 0 lo:Nat):Int) ((sIx n n hi:Nat):Int) 1)) _ _ s;rw[ZC];exact bF h
def Aq(xs:Array Value)(i k:Nat):((List.range k).filterMap λ(m:Nat)=>xs[((i:Int)+(m:Int)*1).toNat]?).toArray=((xs.toList.drop i).take k).toArray:=by
 have e:(λ(m:Nat)=>xs[((i:Int)+(m:Int)*1).toNat]?)=λm=>xs[i+m]?:=by
  funext m
  have:((i:Int)+(m:Int)*1).toNat=i+m:=by lia
  rw[this]
 rw[e];have:=pick_run xs i k;rw[List.filterMap_map]at this;have a:((λx=>xs[x]?)∘λx=>i+x)=λm=>xs[i+m]?:=rfl;rw[a]at this;rw[this]
def VH{t d:Addr}{items:Array Value}{e f:Value}{lo hi:Option Int}{Q:Vp}(b:IsTup s.heap t items)(hs:s.heap.IsSliceOf d e f .none)(j:IsPart e lo)(o:IsPart f hi)
  (u:¬(sIx items.size 0 lo=0/\sIx items.size items.size hi=items.size))
  (h:Q (.ref s⁻¹) {s with heap:=s.heap.push {cls:=.type "tuple",data:=.seq ((items.toList.drop<|sIx items.size 0 lo).take<|sIx items.size items.size hi-sIx items.size 0 lo).toArray}})
  (hsz:items.size<=sizeLine):wpAny (model prog w) A (getItem (.ref t)<|.ref d) Q E s:=by
 have a:sizeOk (.seq ((items.toList.drop<|sIx items.size 0 lo).take<|sIx items.size items.size hi-sIx items.size 0 lo).toArray):=by
  show((items.toList.drop<|sIx items.size 0 lo).take<|sIx items.size items.size hi-sIx items.size 0 lo).toArray.size<=sizeLine;rw[cN,eS,lL,CP];lia
 have B:sIx items.size items.size hi<=items.size:=rP _ _ (aY _) hi;obtain⟨os,r,n,x⟩:=id hs;have l:s.TypeIs (.ref d) "slice":=⟨os,r,n⟩;unfold getItem
 try with_reducible refine iU ?_
 first | refine aF (bF ?_) | skip
 refine aF<|wpAny_sequenceKey b.typeIs (by decide) ?_;refine aF<|kQ (name:=Str.ofString "__getitem__") b.typeIs wx8<|iY wx8 b.typeIs entry_tuple_getitem ?_<|args_tuple_getitem _ _
 show wpAny _ _ (Builtin.Tuple.tupleItemsOf (.ref t) >>= _) _ _ s;refine aF<|tupleItemsOf_ b ?_;refine aF<|uU l ?_;rw[bE<|by decide];refine aF<|NQ hs j o ?_;have i:¬((((sIx items.size 0 lo:Nat):Int) == 0 && (1:Int) == 1 && (sIx items.size items.size hi-sIx items.size 0 lo) == items.size)=true):=by
  intro q;rw[oD,oD]at q;have z:((sIx items.size 0 lo:Nat):Int)=0:=eq_of_beq q.1.1;have C:sIx items.size items.size hi-sIx items.size 0 lo=items.size:=eq_of_beq q.2;exact u ⟨by lia,by lia⟩
 show wpAny _ _ (if (((sIx items.size 0 lo:Nat):Int) == 0 && (1:Int) == 1 && (sIx items.size items.size hi-sIx items.size 0 lo) == items.size)=true then _ else _) _ _ s;rw[bD i,Aq]
 first
  | exact aF (m:=Builtin.Tuple.tupleExact _) (kF (bF ⟨_,rfl,bF h⟩) a)
  | exact aF (m:=Builtin.Tuple.tupleExact _) (kF (aF<|bF<|bF ⟨_,rfl,bF h⟩) a)
  | exact aF (aF (m:=Builtin.Tuple.tupleExact _)<|kF (bF<|bF ⟨_,rfl,bF h⟩) a)
  | exact aF (aF (m:=Builtin.Tuple.tupleExact _)<|kF (bF ⟨_,rfl,bF h⟩) a)
end
end HT
namespace L2
open PySem PySem.Spec PyProof.Rows
variable{prog:Program}{w:World}{A:Around}{E:Vp}{s:Shared}
variable{X:Cx}
abbrev TO:=St->Hp->(Option Int->Hp->Prop)->Prop
def PO(X:Cx)(e:Option Expr)(t:TO):Prop:=
 ∀(pins:List (Addr×Obj))(s:Shared)(σ:St)(H:Hp)(Q:Option Int->Hp->Prop),Inv X pins σ H s->t σ H Q->
  wpAny (model X.prog X.w) X.A (evalPart e X.env) (λu s'=>∃o H',Inv X pins σ H' s'/\IsPart u o/\Q o H') X.xe s
def PB:TO:=λ_ H Q=>Q none H
def oC(t:TE):TO:=λσ H Q=>t σ H λx H1=>∃i,x=.int i/\Q (some i) H1
section
variable{e:Expr}{te:TE}{lo hi:Option Expr}{tl th:TO}{pos p2:Pos}
def jA:PO X none PB:=by
 intro a s σ H Q I h;rw[evalPart_none];exact bF ⟨none,H,I,.none,h⟩
def jH(h:PE X e te):PO X (some e) (oC te):=by
 intro a s σ H Q I j;rw[evalPart_some];refine aX (h a s σ H _ I j) ?_;rintro u l ⟨x,H1,d,f,b⟩;obtain⟨i,rfl,q⟩:=b;obtain⟨t,rfl⟩:=f;exact⟨some i,H1,d,.int i t,q⟩
def SlR(X:Cx)(r:V->Option Int->Option Int->Hp->VK->Prop):Prop:=
 ∀(pins:List (Addr×Obj))(s:Shared)(σ:St)(H:Hp)(x:V)(v vl vu:Value)(lo hi:Option Int)(sl:Addr)(Q:VK),Inv X pins σ H s->RelV x v->s.heap.IsSliceOf sl vl vu .none->IsPart vl lo->IsPart vu hi->r x lo hi H Q->
  ∃T id,typeLookup (.type T) "__getitem__"=pure (some<|.builtin id)/\s.TypeIs v T/\wpAny (model X.prog X.w) X.A (getItem v<|.ref sl) (EP X pins σ Q) X.xe s
def SlR.or{r r':V->Option Int->Option Int->Hp->VK->Prop}(h:SlR X r)(h':SlR X r'):SlR X (λx lo hi H Q=>r x lo hi H Q\/r' x lo hi H Q):=by
 intro f s σ H x v a e lo hi j Q I b hs d i q;rcases q with q | q
 .exact h f s σ H x v a e lo hi j Q I b hs d i q
 .exact h' f s σ H x v a e lo hi j Q I b hs d i q
def LK(r:V->Option Int->Option Int->Hp->VK->Prop)(te:TE)(tl th:TO):TE:=λσ H Q=>te σ H λx H1=>tl σ H1 λl H2=>th σ H2 λu H3=>r x l u H3 Q
def jE{r:V->Option Int->Option Int->Hp->VK->Prop}(hr:SlR X r)(he:PE X e te)(hl:PO X lo tl)(K:PO X hi th):PE X (.Subscript e (.Slice lo hi none p2) pos) (LK r te tl th):=by
 intro a s σ H Q I h;refine Subscript_<|aX (he a s σ H _ I h) ?_;rintro v z ⟨x,H1,m,j,o⟩;refine wpAny_Slice<|aX (hl a z σ H1 _ m o) λd s2 ⟨l,H2,J,E,N⟩=>aX (K a s2 σ H2 _ J N) ?_;rintro f s3 ⟨u,H3,C,B,n⟩;rw[evalPart_none];refine bF ?_;have i:Inv X a σ H3 {s3 with heap:=s3.heap.push {cls:=.type "slice",data:=.fields #[d,f,.none]}}:=C.kept (t':=s3.toks) λb O q=>bS _ q;obtain⟨T,id,M,L,G⟩:=hr a {s3 with heap:=s3.heap.push {cls:=.type "slice",data:=.fields #[d,f,.none]}} σ H3 x v d f l u s3⁻¹ Q i j (Heap.IsSliceOf.new ..) E B n;show wpAny (model X.prog X.w) X.A (subscriptTail e (.Slice lo hi none p2) v<|.ref s3⁻¹) (EP X a σ Q) X.xe {s3 with heap:=s3.heap.push {cls:=.type "slice",data:=.fields #[d,f,.none]}};exact tail_any (ops:=[.ref s3⁻¹,v]) L M G (by with_unfolding_all rfl)
def cH(xs:List V)(lo hi:Option Int):List V:=(xs.drop<|HT.sIx ↑xs 0 lo).take<|HT.sIx ↑xs ↑xs hi-HT.sIx ↑xs 0 lo
def PV(xs:List V)(lo hi:Option Int):↑(cH xs lo hi)<=↑xs:=by
 unfold cH;rw[eS,lL];lia
def KG(K:Fq):V->Option Int->Option Int->Hp->VK->Prop:=λx lo hi H Q=>∃a xs,x=.ref a/\SqT K H a xs/\
 ¬(HT.sIx ↑xs 0 lo=0/\HT.sIx ↑xs ↑xs hi=↑xs)/\∀p,H p=none->Q (.ref p) (upd H p<|.tup<|cH xs lo hi)
def QF:SlR X (KG X.K):=by
 intro n s σ H x v u w lo hi A Q I f hs i j h;obtain⟨a,xs,rfl,l,m,q⟩:=h;cases f;obtain⟨its,r,e,hz⟩:=I.tuple l;have d:its.toArray.size=↑xs:=by rw[cN];exact r.length.symm
 exists "tuple",_,wx8.lookup,e.typeIs;refine HT.VH e hs i j (by rw[d];exact m) ?_ (by rw[d];exact hz);rw[d];refine⟨.ref s⁻¹,_,I.laid (t':=s.toks) (o:=.tup<|cH xs lo hi) (λb z q=>bS _ q) (aY _) ?_,rfl,q _<|I.hok.fresh<|aY _⟩;exact⟨⟨gF (PV xs lo hi) hz,_,dD _ rfl,rfl⟩,_,(r.drop<|HT.sIx ↑xs 0 lo).take<|HT.sIx ↑xs ↑xs hi-HT.sIx ↑xs 0 lo,IsTup.new _ _⟩
def nM(K:Fq):R2:=λx y H Q=>∃a b xs ys,x=.ref a/\y=.ref b/\SqT K H a xs/\SqT K H b ys/\xs≠[]/\↑xs+↑ys<=sizeLine/\
 (ys=[]->Q (.ref a) H)/\(ys≠[]->∀p,H p=none->Q (.ref p) (upd H p<|.tup<|xs++ys))
def Vals.nil_iff{xs:List V}{us:List Value}(r:Vals xs us):us=[]↔xs=[]:=by
 cases r with
 | nil=>simp
 | cons _ _=>simp
def ZX:OpR X (binaryOp .Add) (nM X.K):=by
 intro B s σ H x y v u Q I i r h;obtain⟨a,b,xs,ys,rfl,rfl,f,n,m,hz,j,A⟩:=h;cases i;cases r;obtain⟨its,e,l,_⟩:=I.tuple f;obtain⟨E,d,p2,_⟩:=I.tuple n;refine HT.ZL l p2 (λz=>m<|e.nil_iff.mp z) (λz=>⟨.ref a,H,I,rfl,j<|d.nil_iff.mp z⟩) (λz=>?_) (by rw[<-↑e,<-↑d];exact hz);refine⟨.ref s⁻¹,_,I.laid (t':=s.toks) (o:=.tup<|xs++ys) (λb C q=>bS _ q) (aY _) ?_,rfl,A (λw=>z<|d.nil_iff.mpr w) _<|I.hok.fresh<|aY _⟩;exact⟨⟨by rw[bJ];exact hz,_,dD _ rfl,rfl⟩,_,e.append d,IsTup.new _ _⟩
end
def kB(n:Nat)(i:Int):Option Nat:=if 0<=i then(if i<n then some i.toNat else none) else if -(n:Int)<=i then some (i+n).toNat else none
def dY{α:Type}(xs:List α)(i:Int):Option α:=(kB ↑xs i).bind λj=>xs[j]?
def LR{n:Nat}{i:Int}{j:Nat}(h:kB n i=some j):seqIndex? i n=some j/\j<n/\-(n:Int)<=i/\i<n:=by
 unfold kB at h
 by_cases h0:0<=i
 .rw[bE h0]at h
  by_cases h1:i<n
  .rw[bE h1]at h;have e:i.toNat=j:=jN h;exact⟨by rw[seqIndex_of h0 h1,e],by lia,by lia,h1⟩
  .rw[bD h1]at h;cases h
 .rw[bD h0]at h
  by_cases h1:-(n:Int)<=i
  .rw[bE h1]at h;have e:(i+n).toNat=j:=jN h;exact⟨by rw[seqIndex_neg (by lia) h1,e],by lia,h1,by lia⟩
  .rw[bD h1]at h;cases h
def GS{α:Type}{xs:List α}{i:Int}{v:α}(h:dY xs i=some v):∃j,seqIndex? i ↑xs=some j/\xs[j]?=some v/\j<↑xs/\-(↑xs:Int)<=i/\i<↑xs:=by
 unfold dY at h;cases e:kB ↑xs i with
 | none=>rw[e]at h;cases h
 | some j=>
  rw[e]at h;obtain⟨h1,h2,a,b⟩:=LR e;exact⟨j,h1,h,h2,a,b⟩
def mQ{α:Type}{xs:List α}{j:Nat}{v:α}(h:xs[j]?=some v):dY xs (j:Int)=some v:=by
 have a:j<↑xs:=(wr1.mp h).1;have e:kB ↑xs (j:Int)=some j:=by
  unfold kB;rw[bE (by lia),bE<|by lia];simp
 unfold dY;rw[e];exact h
def MS{α:Type}(xs:List α)(v:α):dY (xs++[v]) (-1)=some v:=by
 have hl:↑(xs++[v])=↑xs+1:=by simp
 have e:kB ↑(xs++[v]) (-1)=some ↑xs:=by
  unfold kB;rw[hl,bD (by decide),bE<|by lia]
  congr 1
  lia
 unfold dY;rw[e];show(xs++[v])[↑xs]?=some v;simp
def IT(b:Expr):Prop:=∀o i,subscripted b false o i=operate [o,i] (getItem o i)
def IxR(X:Cx)(r:R2):Prop:=
 ∀(value slice:Expr)(pins:List (Addr×Obj))(s:Shared)(σ:St)(H:Hp)(x y:V)(v u:Value)(Q:VK),Inv X pins σ H s->RelV x v->RelV y u->r x y H Q->
  subscripted slice false v u=operate [v,u] (getItem v u)->wpAny (model X.prog X.w) X.A (subscriptTail value slice v u) (EP X pins σ Q) X.xe s
def MtR(X:Cx)(id:String)(r:V->List V->Hp->VK->Prop):Prop:=
 ∀(pins:List (Addr×Obj))(s:Shared)(σ:St)(H:Hp)(x:V)(xs:List V)(v:Value)(us:List Value)(Q:VK),Inv X pins σ H s->RelV x v->Vals xs us->r x xs H Q->
  wpAny (model X.prog X.w) X.A (call (.builtin id)<|v::us) (EP X pins σ Q) X.xe s
section
variable{a b:Expr}{ta tb:TE}{pos:Pos}
def IxR.or{r r':R2}(h:IxR X r)(h':IxR X r'):IxR X (λx y H Q=>r x y H Q\/r' x y H Q):=by
 intro value a d s σ H x y v u Q I b e q hs;rcases q with q | q
 .exact h value a d s σ H x y v u Q I b e q hs
 .exact h' value a d s σ H x y v u Q I b e q hs
def MtR.or{id:String}{r r':V->List V->Hp->VK->Prop}(h:MtR X id r)(h':MtR X id r'):MtR X id (λx xs H Q=>r x xs H Q\/r' x xs H Q):=by
 intro b s σ H x xs v us Q I a rs q;rcases q with q | q
 .exact h b s σ H x xs v us Q I a rs q
 .exact h' b s σ H x xs v us Q I a rs q
def uA{r:R2}(hr:IxR X r)(d:PE X a ta)(j:PE X b tb)(hs:IT b):PE X (.Subscript a b pos) (dR r ta tb):=by
 intro i s σ H Q I h;exact Subscript_<|qT d j I h λv u s2 x y H2 f e l q=>hr a b i s2 σ H2 x y v u Q f e l q<|hs _ _
inductive vX(K:Fq)(x y:V)(H:Hp)(Q:VK):Prop
 | mk(p:Addr)(xs:List V)(i:Int)(v:V)(h1:x=.ref p)(h2:y=.int i)(h3:SqL K H p xs)(h4:dY xs i=some v)(q:Q v H):vX K x y H Q
def kZ(K:Fq):R2:=λx y H Q=>vX K x y H Q
inductive yJ(K:Fq)(x y:V)(H:Hp)(Q:VK):Prop
 | mk(p:Addr)(xs:List V)(i:Int)(v:V)(h1:x=.ref p)(h2:y=.int i)(h3:SqT K H p xs)(h4:dY xs i=some v)(q:Q v H):yJ K x y H Q
def iK(K:Fq):R2:=λx y H Q=>yJ K x y H Q
def FM:R2:=λx y H Q=>∃z i c,x=.str z/\y=.int i/\↑z<=sizeLine/\dY z.cps.toList i=some c/\Q (.str ⟨#[c]⟩) H
def UG:IxR X (kZ X.K):=by
 intro value a f s σ H x y v u Q I m B h hs;obtain⟨p,xs,i,z,rfl,rfl,o,he,q⟩:=h;cases m;obtain⟨t,rfl⟩:=B;obtain⟨its,r,b,hz⟩:=I.list o;obtain⟨j,h1,h2,C,n,A⟩:=GS he;obtain⟨w,e,l⟩:=r.get h2;have hl:=↑r;have E:=lT;have fin:EP X f σ Q w s:=⟨z,H,I,l,q⟩
 by_cases h0:0<=i
 .have d:i.toNat=j:=by
   rw[seqIndex_of h0 A]at h1;exact jN h1
  exact item_listR b.isList h0 (by lia) (by rw[d];simpa using e) fin hs
 .have d:(i+(its.toArray.size:Int)).toNat=j:=by
   rw[seqIndex_neg (by lia) n]at h1;rw[cN,<-hl];exact jN h1
  exact subscriptTail_builtinR (x:=w) b.isList.typeIs slot_list_getitem.lookup
   (wpAny_getItem_list_neg (Q:=λr s'=>r=w/\EP X f σ Q r s') b.isList (by lia) (by rw[cN] <;> lia) (by lia) (by rw[d];simpa using e) ⟨rfl,fin⟩) hs
def KW:IxR X (iK X.K):=by
 intro value a d s σ H x y v u Q I f n h hs;obtain⟨p,xs,i,z,rfl,rfl,m,he,q⟩:=h;cases f;obtain⟨t,rfl⟩:=n;obtain⟨its,r,b,hz⟩:=I.tuple m;obtain⟨j,h1,h2,o,A,C⟩:=GS he;obtain⟨w,l,e⟩:=r.get h2;have hl:=↑r;have B:=lT;have fin:EP X d σ Q w s:=⟨z,H,I,e,q⟩;exact subscriptTail_builtinR (x:=w) b.typeIs slot_tuple_getitem.lookup
  (getItem_tuple (j:=j) (Q:=λr s'=>r=w/\EP X d σ Q r s') b (by lia) (by lia) (by rw[cN,<-hl];exact h1) (by simpa using l) ⟨rfl,fin⟩) hs
def NR:IxR X FM:=by
 intro value a o s σ H x y v u Q I d l h hs;obtain⟨z,i,c,rfl,rfl,hz,he,q⟩:=h;obtain⟨t,rfl⟩:=d;obtain⟨t',rfl⟩:=l;obtain⟨j,h1,h2,r,b,f⟩:=GS he;have hl:↑z.cps.toList=↑z:=by simp[Str.length]
 rw[hl]at h1 b f;have n:=lT;exact tail_any (typeIs_str s z t) slot_str_getitem.lookup (getItem_str (c:=c) (by
  have m:decide (i < -(2 ^ 63:Int))=false:=gA (by lia);have e:decide (i≥2 ^ 63)=false:=gA (by lia);rw[m,e,Bool.or_false]) (by rw[h1];simpa using h2) ⟨.str ⟨#[c]⟩,H,I.tok _,⟨_,rfl⟩,q⟩) hs
def WM(its:List Value)(n j:Nat)(u:Value):Obj.mapSeq (·.setIfInBounds j u) {cls:=.type "list",data:=.seq its.toArray n}={cls:=.type "list",data:=.seq (its.set j u).toArray n}:=by
 simp[Obj.mapSeq]
theorem Inv.lst{a:List (Addr×Obj)}{σ:St}{H:Hp}{s:Shared}{p:Addr}{xs:List V}(I:Inv X a σ H s)(h:H p=some (.lst xs)):
  ∃(its:List Value)(n:Nat),Vals xs its/\s.heap.get? p=some {cls:=.type "list",data:=.seq its.toArray n}/\↑xs<=sizeLine:=by
 obtain⟨z,its,n,r,e⟩:=I.hok p _ h;exact⟨its,n,r,e,z⟩
def Inv.lstUpd{d:List (Addr×Obj)}{σ:St}{H:Hp}{s:Shared}{p:Addr}{xs ys:List V}{its its':List Value}{n a:Nat}{f:Obj->Obj}(I:Inv X d σ H s)(h:H p=some (.lst xs))
  (j:s.heap.get? p=some {cls:=.type "list",data:=.seq its.toArray n}) (i:f {cls:=.type "list",data:=.seq its.toArray n}={cls:=.type "list",data:=.seq its'.toArray a}) (r:Vals ys its') (hz:↑ys<=sizeLine) (t:Nat):
  Inv X d σ (upd H p<|.lst ys) {s with heap:=s.heap.update p f,toks:=t}:=by
 have e:(s.heap.update p f).get? p=some {cls:=.type "list",data:=.seq its'.toArray a}:=by
  rw[uE f j (by rw[i] <;> rfl),i]
 refine I.write (x:=p) (e:=p) (by rw[h];trivial) (.inl rfl) (λb u l q=>(rM _ _<|bW l).trans q) ⟨_,e⟩ ?_;exact⟨hz,its',a,r,e⟩
def AE:V->V->V->Hp->(Hp->Prop)->Prop:=λo i v H Q=>∃p xs k j,o=.ref p/\i=.int k/\H p=some (.lst xs)/\kB ↑xs k=some j/\Q (upd H p<|.lst<|xs.set j v)
def tY:AG X AE:=by
 intro w s σ H o i v A B u Q I m l x h;obtain⟨p,xs,k,j,rfl,rfl,hp,z,q⟩:=h;cases m;obtain⟨t,rfl⟩:=l;obtain⟨its,n,r,b,hz⟩:=I.lst hp;obtain⟨h1,h2,d,e⟩:=LR z;have hl:=↑r;have C:=lT;have f:Inv X w σ (upd H p<|.lst<|xs.set j v) {s with heap:=s.heap.update p<|Obj.mapSeq (·.setIfInBounds j u)}:=
  I.lstUpd hp b (WM its n j u) (r.set x j) (by rw[List.length_set];exact hz) s.toks
 by_cases h0:0<=k
 .have a:k.toNat=j:=by
   rw[seqIndex_of h0 e]at h1;exact jN h1
  exact PySem.W.ki_setAt b h0 (by lia) (by rw[cN,<-hl];exact e) (by rw[a];exact⟨_,f,q⟩)
 .have a:(k+(its.toArray.size:Int)).toNat=j:=by
   rw[seqIndex_neg (by lia) d]at h1;rw[cN,<-hl];exact jN h1
  exact PySem.W.ki_setBack b (by lia) (by rw[cN,<-hl];exact d) (by lia) (by rw[a];exact⟨_,f,q⟩)
def YU(lo hi:Option Int)(n:Nat):(sliceBounds lo hi none n).1=((HT.sIx n 0 lo:Nat):Int)/\(sliceBounds lo hi none n).2.1=((HT.sIx n n hi:Nat):Int)/\(sliceBounds lo hi none n).2.2=1:=by
 refine⟨?_,?_,rfl⟩
 .cases lo with
  | none=>simp[sliceBounds,HT.sIx]
  | some i=>
   simp only[sliceBounds,HT.sIx,Option.getD_none,show(1:Int) > 0 by decide,if_true]
   by_cases h:i<0
   .simp only[h,if_true] <;> lia
   .simp only[h,iO] <;> lia
 .cases hi with
  | none=>simp[sliceBounds,HT.sIx]
  | some i=>
   simp only[sliceBounds,HT.sIx,Option.getD_none,show(1:Int) > 0 by decide,if_true]
   by_cases h:i<0
   .simp only[h,if_true] <;> lia
   .simp only[h,iO] <;> lia
def WZ(its:List Value)(lo hi:Option Int):slicePick its.toArray lo hi none=((its.drop<|HT.sIx ↑its 0 lo).take<|HT.sIx ↑its ↑its hi-HT.sIx ↑its 0 lo).toArray:=by
 obtain⟨h1,h2,a⟩:=YU lo hi its.toArray.size;unfold slicePick;rw[h1,h2,a];simp only[sliceRange_one,pick_run,cN] <;> rfl
def xB(K:Fq):V->Option Int->Option Int->Hp->VK->Prop:=λx lo hi H Q=>∃a xs,x=.ref a/\SqL K H a xs/\∀p,H p=none->Q (.ref p) (upd H p<|.lst<|cH xs lo hi)
def rZ:SlR X (xB X.K):=by
 intro m s σ H x v n u lo hi z Q I e hs f j h;obtain⟨a,xs,rfl,l,q⟩:=h;cases e;obtain⟨its,r,d,hz⟩:=I.list l;have i:=↑r;exists "list",_,slot_list_getitem.lookup,d.isList.typeIs;refine wpAny_getItem_list_slice d.isList hs f j .none (by simp) ?_ (by rw[cN] <;> lia);rw[WZ,<-i];refine⟨.ref s⁻¹,_,I.laid (t':=s.toks) (o:=.lst<|cH xs lo hi) (λb w q=>bS _ q) (aY _) ?_,rfl,q _<|I.hok.fresh<|aY _⟩;exact⟨gF (PV xs lo hi) hz,_,0,(r.drop<|HT.sIx ↑xs 0 lo).take<|HT.sIx ↑xs ↑xs hi-HT.sIx ↑xs 0 lo,dD _ rfl⟩
def iH:V->Bool
 | .non=>true
 | .bl _=>true
 | .int _=>true
 | .str _=>true
 | _=>false
def gY:V->V->Bool
 | .non,.non=>true
 | .bl a,.bl b=>a == b
 | .bl a,.int b=>(if a then 1 else 0) == b
 | .int a,.bl b=>a == (if b then 1 else 0)
 | .int a,.int b=>a == b
 | .str a,.str b=>a == b
 | _,_=>false
def oP{A:Around}{s:Shared}{y x:V}{u v:Value}(f:RelV y u)(d:RelV x v)(h:iH y=true)(e:iH x=true):SeqAt.EqAt A s u v (gY y x):=by
 cases y with
 | non=>
  cases f;cases x with
  | non=>cases d;exact SeqAt.EqAt.same _
  | bl b=>cases d;exact SeqAt.EqAt.none_bool b
  | int b=>obtain⟨t,rfl⟩:=d;exact SeqAt.EqAt.none_int b t
  | str b=>obtain⟨t,rfl⟩:=d;exact SeqAt.EqAt.none_str b t
  | _=>exact absurd (show false=true from e) dX
 | bl a=>
  cases f;cases x with
  | non=>cases d;exact SeqAt.EqAt.bool_none a
  | bl b=>cases d;exact SeqAt.EqAt.bool_bool a b
  | int b=>obtain⟨t,rfl⟩:=d;exact SeqAt.EqAt.bool_int a b t
  | str b=>obtain⟨t,rfl⟩:=d;exact SeqAt.EqAt.bool_str a b t
  | _=>exact absurd (show false=true from e) dX
 | int a=>
  obtain⟨t',rfl⟩:=f;cases x with
  | non=>cases d;exact SeqAt.EqAt.int_none a t'
  | bl b=>cases d;exact SeqAt.EqAt.int_bool a t' b
  | int b=>obtain⟨t,rfl⟩:=d;exact SeqAt.EqAt.int_int a t' b t
  | str b=>obtain⟨t,rfl⟩:=d;exact SeqAt.EqAt.int_str a t' b t
  | _=>exact absurd (show false=true from e) dX
 | str a=>
  obtain⟨t',rfl⟩:=f;cases x with
  | non=>cases d;exact SeqAt.EqAt.str_none a t'
  | bl b=>cases d;exact SeqAt.EqAt.str_bool a t' b
  | int b=>obtain⟨t,rfl⟩:=d;exact SeqAt.EqAt.str_int a t' b t
  | str b=>obtain⟨t,rfl⟩:=d;exact SeqAt.EqAt.str_str a t' b t
  | _=>exact absurd (show false=true from e) dX
 | _=>exact absurd (show false=true from h) dX
def gJ(x:V)(u:Value):Bool:=match u with
 | .none=>gY .non x
 | .bool b=>gY (.bl b) x
 | .int i _=>gY (.int i) x
 | .str z _=>gY (.str z) x
 | _=>false
def JV{x y:V}{u:Value}(r:RelV y u)(f:iH y=true):gJ x u=gY y x:=by
 cases y with
 | non=>cases r;rfl
 | bl b=>cases r;rfl
 | int i=>obtain⟨t,rfl⟩:=r;rfl
 | str z=>obtain⟨t,rfl⟩:=r;rfl
 | _=>exact absurd (show false=true from f) dX
theorem yW{x:V}:∀{xs:List V}{us:List Value},Vals xs us->xs.all iH=true->us.any (gJ x)=xs.any λy=>gY y x
 | _,_,.nil,_=>rfl
 | y::xs,u::us,.cons r t,f=>by
  rw[List.all_cons,oD]at f;rw[vW,vW,JV r f.1,yW t f.2]
theorem uB{A:Around}{s:Shared}{x:V}{v:Value}(d:RelV x v)(b:iH x=true):∀{xs:List V}{us:List Value},Vals xs us->xs.all iH=true->∀u∈us,SeqAt.EqAt A s u v<|gJ x u
 | _,_,.nil,_=>λu a=>by cases a
 | y::xs,u::us,.cons r t,f=>λe a=>by
  rw[List.all_cons,oD]at f;rcases wr5.mp a with rfl | a
  .rw[JV r f.1];exact oP r d f.1 b
  .exact uB d b t f.2 e a
def gU(x:V)(xs:List V):Bool:=xs.any λy=>gY y x
inductive OV(K:Fq)(neg:Bool)(x y:V)(H:Hp)(Q:VK):Prop
 | mk(p:Addr)(xs:List V)(h1:y=.ref p)(h2:SqL K H p xs\/SqT K H p xs)(h3:iH x=true)(h4:xs.all iH=true)(q:Q (.bl<|if neg then !gU x xs else gU x xs) H):OV K neg x y H Q
def jK(K:Fq)(neg:Bool):R2:=λx y H Q=>OV K neg x y H Q
def sD:OpR X (compareOp .In) (jK X.K false):=by
 intro j s σ H x y v u Q I f i h;obtain⟨p,xs,rfl,a,e,fs,q⟩:=h;cases i;rcases a with a | a
 .obtain⟨its,r,b,hz⟩:=I.list a;refine SeqAt.in_listAt (gJ x) b.isList (λw d=>uB f e r fs w<|by simpa using d) ⟨.bl _,H,I,rfl,?_⟩;rw[show its.toArray.any (gJ x)=its.any (gJ x) by simp,yW r fs];exact q
 .obtain⟨its,r,b,hz⟩:=I.tuple a;refine SeqAt.in_tupleAt (gJ x) b (λw d=>uB f e r fs w<|by simpa using d) ⟨.bl _,H,I,rfl,?_⟩;rw[show its.toArray.any (gJ x)=its.any (gJ x) by simp,yW r fs];exact q
def CY:OpR X (compareOp .NotIn) (jK X.K true):=by
 intro j s σ H x y v u Q I f i h;obtain⟨p,xs,rfl,a,e,fs,q⟩:=h;cases i;rcases a with a | a
 .obtain⟨its,r,b,hz⟩:=I.list a;refine SeqAt.notIn_listAt (gJ x) b.isList (λw d=>uB f e r fs w<|by simpa using d) ⟨.bl _,H,I,rfl,?_⟩;rw[show its.toArray.any (gJ x)=its.any (gJ x) by simp,yW r fs];exact q
 .obtain⟨its,r,b,hz⟩:=I.tuple a;refine SeqAt.notIn_tupleAt (gJ x) b (λw d=>uB f e r fs w<|by simpa using d) ⟨.bl _,H,I,rfl,?_⟩;rw[show its.toArray.any (gJ x)=its.any (gJ x) by simp,yW r fs];exact q
def gK:CallR X (.builtin "len") (λxs H Q=>∃p ys,xs=[.ref p]/\(SqL X.K H p ys\/SqT X.K H p ys)/\Q (.int ↑ys) H):=by
 intro f s σ H xs us Q I r h;obtain⟨p,ys,rfl,a,q⟩:=h;obtain⟨u,rfl,e⟩:=kD r;cases e;have i:=lT;rcases a with a | a
 .obtain⟨its,r',b,hz⟩:=I.list a;have d:=↑r';exact Calls.call_len_list b.isList (by simp only[cN] <;> lia) ⟨.int ↑ys,H,I.tok _,⟨s.toks+1,by rw[cN,d]⟩,q⟩
 .obtain⟨its,r',b,hz⟩:=I.tuple a;have d:=↑r';exact len_tuple b (by simp only[cN] <;> lia) ⟨.int ↑ys,H,I.tok _,⟨s.toks+1,by rw[cN,d]⟩,q⟩
def XH:CallR X (.builtin "len") (λxs H Q=>∃z,xs=[.str z]/\↑z<=sizeLine/\Q (.int ↑z) H):=by
 intro a s σ H xs us Q I r h;obtain⟨z,rfl,hz,q⟩:=h;obtain⟨u,rfl,t,rfl⟩:=kD r;have b:=lT;exact len_str (by lia) ⟨.int ↑z,H,I.tok _,⟨_,rfl⟩,q⟩
def CallR.or{f:Value}{r r':List V->Hp->VK->Prop}(h:CallR X f r)(h':CallR X f r'):CallR X f (λxs H Q=>r xs H Q\/r' xs H Q):=by
 intro a s σ H xs us Q I rs q;rcases q with q | q
 .exact h a s σ H xs us Q I rs q
 .exact h' a s σ H xs us Q I rs q
def iB:CallR X (.type "tuple") (λxs H Q=>∃p ys,xs=[.ref p]/\((SqL X.K H p ys/\∀l,H l=none->Q (.ref l) (upd H l<|.tup ys))\/(SqT X.K H p ys/\Q (.ref p) H))):=by
 intro f s σ H xs us Q I r h;obtain⟨p,ys,rfl,h⟩:=h;obtain⟨u,rfl,i⟩:=kD r;cases i;rcases h with ⟨hq,q⟩ | ⟨hq,q⟩
 .obtain⟨its,r',a,hz⟩:=I.list hq;have m:=↑r';refine call_tuple_list a.isList (λh' kp=>?_) (by simp only[cN] <;> lia);have d:Inv X f σ H {s with heap:=h'}:=I.kept (t':=s.toks) kp;have j:Inv X f σ (upd H h'.objs.size<|.tup ys) {s with heap:=h'.push {cls:=.type "tuple",data:=.seq its.toArray}}:=
   d.laid (t':=s.toks) (λb o e=>bS _ e) (aY _) (show ObjOk X.prog X.w _ _ _ (.tup ys) from ⟨⟨hz,_,dD _ rfl,rfl⟩,its,r',IsTup.new _ _⟩)
  exact⟨.ref h'.objs.size,_,j,rfl,q _<|d.hok.fresh<|aY _⟩
 .obtain⟨its,r',a,hz⟩:=I.tuple hq;exact call_tuple_same a ⟨.ref p,H,I,rfl,q⟩
def IL(K:Fq)(T:String)(x:V)(H:Hp):Prop:=match x with
 | .str _=>T="str"
 | .int _=>T="int"
 | .ref p=>(T="list"/\∃xs,SqL K H p xs)\/(T="tuple"/\∃o,K.lookup p=some o/\o.cls=.type "tuple"/\o.dict=none)\/
   (T="dict"/\((∃kvs,H p=some (.dK kvs))\/∃kvs,H p=some (.dT kvs)))\/(T="set"/\∃S n,H p=some (.set S n))
 | _=>False
def NT{f:List (Addr×Obj)}{σ:St}{H:Hp}{s:Shared}{T:String}{x:V}{v:Value}(I:Inv X f σ H s)(r:RelV x v)(ty:IL X.K T x H):
  s.TypeIs v T/\∀a,v=.ref a->∃ob,s.heap.get? a=some ob/\ob.dict=none:=by
 cases x with
 | str z=>
  obtain⟨t,rfl⟩:=r;cases (show T="str" from ty);exact⟨typeIs_str s z t,λ_ e=>nomatch e⟩
 | int i=>
  obtain⟨t,rfl⟩:=r;cases (show T="int" from ty);exact⟨typeIs_int s i t,λ_ e=>nomatch e⟩
 | ref p=>
  cases r;rcases ty with ⟨rfl,xs,hq⟩ | ⟨rfl,o,hk,hc,hd⟩ | ⟨rfl,hk⟩ | ⟨rfl,S,n,hk⟩
  .obtain⟨its,_,d,_⟩:=I.list hq;refine⟨d.isList.typeIs,λa e=>?_⟩;cases e;obtain⟨o,n,e,c,hd,_⟩:=d;exact⟨o,e,hd⟩
  .refine⟨⟨o,I.kIn p o hk,hc⟩,λa e=>?_⟩;cases e;exact⟨o,I.kIn _ o hk,hd⟩
  .have z:∃o,s.heap.get? p=some o/\o.ExactDict:=by
    rcases hk with ⟨kvs,hk⟩ | ⟨kvs,hk⟩
    .obtain⟨_,_,_,_,o,_,_,e,ex,_⟩:=I.hok p _ hk;exact⟨o,e,ex⟩
    .obtain⟨_,_,_,_,o,_,_,e,ex,_⟩:=I.hok p _ hk;exact⟨o,e,ex⟩
   obtain⟨o,e,ex⟩:=z;refine⟨⟨o,e,ex.1⟩,λa b=>?_⟩;cases b;exact⟨o,e,ex.2.1⟩
  .obtain⟨o,_,_,_,e,ex,_⟩:=I.hok p _ hk;refine⟨⟨o,e,ex.1⟩,λa b=>?_⟩;cases b;exact⟨o,e,ex.2.1⟩
 | _=>exact False.elim ty
def EX(K:Fq)(T:String)(r:V->List V->Hp->VK->Prop)(to:TE):TE:=λσ H Q=>to σ H λx H1=>IL K T x H1/\r x [] H1 Q
inductive HG(K:Fq)(T:String)(r:V->List V->Hp->VK->Prop)(t:TA)(x:V)(σ:List (Option V))(H:Hp)(Q:VK):Prop
 | mk(h:IL K T x H)(q:t σ H λxs H2=>r x xs H2 Q):HG K T r t x σ H Q
def uK(K:Fq)(T:String)(r:V->List V->Hp->VK->Prop)(to:TE)(t:TA):TE:=λσ H Q=>to σ H λx H1=>HG K T r t x σ H1 Q
variable{o e:Expr}{es:List Expr}{to:TE}{t:TA}{name:Str}{apos cpos:Pos}{T id:String}{r:V->List V->Hp->VK->Prop}
def sT(q:PlainAttrs T)(slot:Slot T name id)(n:typeOf (.builtin id)=pure (.type "method_descriptor"))(f:MtR X id r)(l:PE X o to)
  (e:attributeBase o name X.env (eval o X.env)=eval o X.env:=by rfl) (j:(apos.endLine == cpos.line)=true:=by rfl):PE X (.Call (.Attribute o name apos) [] [] cpos) (EX X.K T r to):=by
 intro d s σ H Q I h;refine wpAny_Call_method0_late e j<|aX (l d s σ H _ I h) ?_;rintro v m ⟨x,H1,b,a,ty,i⟩;obtain⟨h1,h2⟩:=NT b a ty;exact⟨T,id,q,slot,n,h1,h2,lI rfl<|PySem.evalArgs_none<|f d m σ H1 x [] v [] Q b a .nil i⟩
def fI(G:PlainAttrs T)(slot:Slot T name id)(n:typeOf (.builtin id)=pure (.type "method_descriptor"))(u:MtR X id r)(A:PE X o to)(i:PA X (e::es) t)
  (C:attributeBase o name X.env (eval o X.env)=eval o X.env:=by rfl)
  (m:((backTo cpos<|starEach (e::es) X.env).all (λx=>!x.1) && (backToKw cpos<|keywordEach [] X.env).all (λx=>x.1.isSome) && decide (↑(e::es)+↑([]:List Keyword)+(if ([]:List Keyword).isEmpty then 0 else 1)<30))=true:=by rfl)
  (E:(apos.endLine == cpos.line)=true:=by rfl) (hs:starEach (e::es) X.env=(false,eval e X.env)::starEach es X.env:=by rfl) (j:(backTo cpos<|starEach es X.env).any (·.1)=false:=by rfl):
  PE X (.Call (.Attribute o name apos) (e::es) [] cpos) (uK X.K T r to t):=by
 intro a s σ H Q I h;refine wpAny_Call_method_late C m E rfl<|aX (A a s σ H _ I h) ?_;rintro v B ⟨x,H1,d,b,ty,w⟩;obtain⟨h1,h2⟩:=NT d b ty;exists T,id,G,slot,n,h1,h2;have f:=i cpos a B σ H1 _ d w;rw[hs]at f ⊢;refine lI (by show(false || (backTo cpos<|starEach es X.env).any (·.1))=false;rw[j] <;> rfl)<|sI ?_;exact aX f <| by rintro us s2 ⟨vs,H2,z,q,l⟩;exact u a s2 σ H2 x vs v us Q z b q l
end
def ED(X:Cx)(id:String)(r:V->List V->Hp->VK->Prop):Prop:=
 ∀(pins:List (Addr×Obj))(s:Shared)(σ:St)(H:Hp)(x:V)(xs:List V)(v:Value)(us:List Value)(Q:VK),Inv X pins σ H s->RelV x v->Vals xs us->r x xs H Q->
  wpAny (model X.prog X.w) X.A (call (.builtin id)<|v::us) (EP X pins σ Q) X.xe s
def Vals.one:∀{x:V}{us:List Value},Vals [x] us->∃u,us=[u]/\RelV x u
 | _,_,.cons r .nil=>⟨_,rfl,r⟩
def Vals.zero:∀{us:List Value},Vals [] us->us=[]
 | _,.nil=>rfl
theorem Vals.dropLast{xs:List V}{us:List Value}(h:Vals xs us):Vals xs.dropLast us.dropLast:=by
 induction h with
 | nil=>exact .nil
 | cons r t ih=>
  cases t with
  | nil=>exact .nil
  | cons q t'=>exact .cons r ih
theorem Vals.eraseIdx:∀{xs:List V}{us:List Value}(i:Nat),Vals xs us->Vals (xs.eraseIdx i) (us.eraseIdx i)
 | _,_,_,.nil=>.nil
 | _,_,0,.cons _ t=>t
 | _,_,i+1,.cons r t=>.cons r<|Vals.eraseIdx i t
theorem Vals.reverse{xs:List V}{us:List Value}(h:Vals xs us):Vals xs.reverse us.reverse:=by
 induction h with
 | nil=>exact .nil
 | cons r t ih=>rw[CQ,CQ];exact Vals.append ih<|.cons r .nil
theorem Vals.rep{xs:List V}{us:List Value}(h:Vals xs us):∀k:Nat,Vals (List.replicate k xs).flatten (List.replicate k us).flatten
 | 0=>.nil
 | k+1=>by
  rw[yY,yY,CT,CT];exact Vals.append h<|Vals.rep h k
def Ad{α:Type}(l:List α):l.eraseIdx (↑l-1)=l.dropLast:=by
 induction l with
 | nil=>rfl
 | cons a r ih=>
  cases r with
  | nil=>rfl
  | cons b r=>
   have e:↑(a::b::r)-1=(↑(b::r)-1)+1:=by
    have h1:↑(a::b::r)=↑r+2:=rfl;have h2:↑(b::r)=↑r+1:=rfl;lia
   rw[e,List.eraseIdx_cons_succ,ih]
   all_goals rfl
theorem QQ{α:Type}:∀(l:List α)(i:Nat),↑(l.eraseIdx i)<=↑l
 | [],_=>aY _
 | _::_,0=>jB _
 | _::r,i+1=>Nat.succ_le_succ<|QQ r i
theorem SU(its:List Value):∀(k:Nat)(a:List Value),
  List.foldl (λf d=>f++d) a.toArray (List.replicate k its.toArray)=(a++(List.replicate k its).flatten).toArray
 | 0,a=>by simp
 | k+1,a=>by
  have e:a.toArray++its.toArray=(a++its).toArray:=by simp
  have b:(a++its)++(List.replicate k its).flatten=a++(List.replicate (k+1) its).flatten:=by
   rw[yY,CT,jG]
  rw[<-b,<-SU its k (a++its),<-e,yY,vJ]
section
variable{pins:List (Addr×Obj)}{σ:St}{H:Hp}{s:Shared}{l b:Addr}{xs ys zs:List V}
def Inv.lset{its its':List Value}{n:Nat}{f:Array Value->Array Value}{t':Nat}(I:Inv X pins σ H s)(d:H l=some (.lst xs))
  (e:s.heap.get? l=some {cls:=.type "list",data:=.seq its.toArray n}) (b:f its.toArray=its'.toArray) (i:Vals ys its') (hz:↑ys<=sizeLine):
  Inv X pins σ (upd H l<|.lst ys) {s with heap:=s.heap.update l<|Obj.mapSeq f,toks:=t'}:=by
 have q:=PySem.IsL.update e f;rw[b]at q;refine I.write (x:=l) (e:=l) (by rw[d];exact trivial) (.inl rfl) (λj u h a=>(rM s.heap (Obj.mapSeq f)<|bW h).trans a) ⟨_,q⟩ ?_;exact⟨hz,its',_,i,q⟩
def Inv.lnew{its:List Value}{t':Nat}(I:Inv X pins σ H s)(a:Vals ys its)(hz:↑ys<=sizeLine):
  Inv X pins σ (upd H s⁻¹<|.lst ys) {s with heap:=s.heap.push {cls:=.type "list",data:=.seq its.toArray},toks:=t'}:=
 I.laid (λ_ _ q=>bS _ q) (aY _) ⟨hz,its,0,a,dD _ rfl⟩
theorem Inv.fresh(I:Inv X pins σ H s):H s⁻¹=none:=I.hok.fresh<|aY _
def Inv.lstM(I:Inv X pins σ H s)(a:H l=some (.lst xs)):↑xs<=sizeLine/\∃(its:List Value)(n:Nat),Vals xs its/\↑xs=↑its/\s.heap.get? l=some {cls:=.type "list",data:=.seq its.toArray n}:=by
 obtain⟨z,its,n,r,e⟩:=I.hok l _ a;exact⟨z,its,n,r,↑r,e⟩
def SR{n:Nat}(h:n<=sizeLine):Builtin.List.listTooLong n=false:=by
 unfold Builtin.List.listTooLong;exact gA (by lia)
end
inductive xH(x:V)(vs:List V)(H:Hp)(Q:VK):Prop
 | mk(l:Addr)(xs:List V)(y:V)(h1:x=.ref l)(h2:vs=[y])(h3:H l=some (.lst xs))(h4:↑xs<sizeLine)(q:Q .non (upd H l<|.lst<|xs++[y])):xH x vs H Q
def uM:V->List V->Hp->VK->Prop:=λx vs H Q=>xH x vs H Q
def fL:ED X "list.append" uM:=by
 intro i s σ H x vs v us Q I b d h;obtain⟨l,xs,y,rfl,rfl,a,hz,q⟩:=h;cases b;obtain⟨u,rfl,f⟩:=d.one;obtain⟨z,its,n,r,hl,e⟩:=I.lstM a;refine sC F.slot_list_append ⟨_,e,rfl⟩ F.entry_list_append (F.args_list_append_2 _ _) (PySem.list_append l its.toArray n u<|by rw[cN];lia) ⟨e,?_⟩;refine⟨.non,_,I.lset (its':=its++[u]) a e (by simp) (r.append<|.cons f .nil) ?_,rfl,q⟩;rw[bJ,dQ];lia
def Ap:V->List V->Hp->VK->Prop:=λx vs H Q=>∃l b xs zs,x=.ref l/\vs=[.ref b]/\H l=some (.lst xs)/\H b=some (.lst zs)/\↑xs+↑zs<=sizeLine/\Q .non (upd H l<|.lst<|xs++zs)
def ZK:ED X "list.extend" Ap:=by
 intro C s σ H x vs v us Q I j A h;obtain⟨l,b,xs,zs,rfl,rfl,d,m,hz,q⟩:=h;cases j;obtain⟨u,rfl,w⟩:=A.one;cases w;obtain⟨z,its,n,r,hl,e⟩:=I.lstM d;obtain⟨G,a,i,o,E,B⟩:=I.lstM m;have hsz:its.toArray.size+a.toArray.size<=sizeLine:=by rw[cN,cN];lia
 have f:¬(!its.toArray.isEmpty && Builtin.List.listTooLong (its.toArray.size+a.toArray.size))=true:=by
  rw[SR hsz,Bool.and_false];exact dX
 refine sC F.slot_list_extend ⟨_,e,rfl⟩ F.entry_list_extend (F.args_list_extend_2 _ _)
  (AutoSeq1.list_extend_list_list_0 l its.toArray n b a.toArray i f (by rw[cN];lia)<|by lia) ⟨e,B,?_⟩
 refine⟨.non,_,I.lset (its':=its++a) d e (by simp) (r.append o) ?_,rfl,q⟩;rw[bJ];lia
def JO:V->List V->Hp->VK->Prop:=λx vs H Q=>∃l xs y,x=.ref l/\vs=[]/\H l=some (.lst xs)/\xs[↑xs-1]?=some y/\Q y (upd H l<|.lst xs.dropLast)
def rN:ED X "list.pop" JO:=by
 intro w s σ H x vs v us Q I d j h;obtain⟨l,xs,y,rfl,rfl,a,m,q⟩:=h;cases d;have i:=j.zero;subst i;obtain⟨z,its,n,r,hl,e⟩:=I.lstM a;obtain⟨u,f,o⟩:=r.get m;have b:its.toArray[its.toArray.size-1]?=some u:=by
  show its.toArray[↑its-1]?=some u;rw[<-Array.getElem?_toList,<-hl];exact f
 refine sC F.slot_list_pop ⟨_,e,rfl⟩ F.entry_list_pop (F.args_list_pop_1 _) (MeetsSeq.list_pop_last l its.toArray n u b<|by rw[cN];lia) ⟨e,?_⟩;refine⟨y,_,I.lset (its':=its.dropLast) a e ?_ r.dropLast ?_,o,q⟩
 .show its.toArray.eraseIdxIfInBounds (its.toArray.size-1)=its.dropLast.toArray;rw[cN,List.eraseIdxIfInBounds_toArray,Ad]
 .rw[List.length_dropLast];lia
def RJ:V->List V->Hp->VK->Prop:=λx vs H Q=>∃l xs i k y,x=.ref l/\vs=[.int i]/\H l=some (.lst xs)/\-(2 ^ 63)<=i/\i<2 ^ 63/\seqIndex? i ↑xs=some k/\xs[k]?=some y/\Q y (upd H l<|.lst<|xs.eraseIdx k)
def YD:ED X "list.pop" RJ:=by
 intro B s σ H x vs v us Q I d j h;obtain⟨l,xs,i,k,y,rfl,rfl,a,h1,h2,f,m,q⟩:=h;cases d;obtain⟨u,rfl,o⟩:=j.one;obtain⟨t,rfl⟩:=o;obtain⟨z,its,n,r,hl,e⟩:=I.lstM a;obtain⟨w,A,b⟩:=r.get m;refine sC F.slot_list_pop ⟨_,e,rfl⟩ F.entry_list_pop (F.args_list_pop_2 _ _)
  (MeetsSeq.list_pop_at l its.toArray n i t k w (fitsIndex_both h1 h2) (by rw[cN,<-hl];exact f) (by rw[<-Array.getElem?_toList];exact A)<|by rw[cN];lia) ⟨e,?_⟩
 refine⟨y,_,I.lset (its':=its.eraseIdx k) a e ?_ (r.eraseIdx k) ?_,b,q⟩
 .show its.toArray.eraseIdxIfInBounds k=(its.eraseIdx k).toArray;rw[List.eraseIdxIfInBounds_toArray]
 .have:=QQ xs k;lia
def xT:R2:=λx y H Q=>∃l b xs zs,x=.ref l/\y=.ref b/\H l=some (.lst xs)/\H b=some (.lst zs)/\↑xs+↑zs<=sizeLine/\∀p,H p=none->Q (.ref p) (upd H p<|.lst<|xs++zs)
def vC:OpR X (binaryOp .Add) xT:=by
 intro A s σ H x y v u Q I d w h;obtain⟨l,b,xs,zs,rfl,rfl,m,f,hz,q⟩:=h;cases d;cases w;obtain⟨z,its,n,r,hl,e⟩:=I.lstM m;obtain⟨E,a,B,j,C,o⟩:=I.lstM f;refine PySem.P.add_list e o ?_ (by rw[cN,cN];lia);have i:its.toArray++a.toArray=(its++a).toArray:=by simp
 rw[i];exact⟨.ref _,_,I.lnew (t':=s.toks) (r.append j) (by rw[bJ];lia),rfl,q _ I.fresh⟩
def HV:R2:=λx y H Q=>∃l k xs,x=.ref l/\y=.int k/\H l=some (.lst xs)/\-(2 ^ 63)<=k/\k<2 ^ 63/\↑xs*k.toNat<=sizeLine/\
 ∀p,H p=none->Q (.ref p) (upd H p<|.lst (List.replicate k.toNat xs).flatten)
def TZ{α:Type}(xs:List α)(k:Nat):(List.replicate k xs).flatten.length=k*↑xs:=by
 induction k with
 | zero=>simp
 | succ k ih=>rw[yY,CT,bJ,ih,Nat.succ_mul,Nat.add_comm]
def pT:OpR X (binaryOp .Mult) HV:=by
 intro G s σ H x y v u Q I i E h;obtain⟨l,k,xs,rfl,rfl,o,h1,h2,hz,q⟩:=h;cases i;obtain⟨t,rfl⟩:=E;obtain⟨z,its,n,r,hl,e⟩:=I.lstM o;have f:its.toArray.size*k.toNat<=sizeLine:=by rw[cN,<-hl];exact hz
 have j:¬its.toArray.size*k.toNat > (2 ^ 63-1) / 8:=by
  have:(sizeLine:Nat)<=(2 ^ 63-1) / 8:=by decide
  lia
 have C:¬(!Builtin.List.listFitsIndex k)=true:=by
  rw[fitsIndex_both h1 h2];exact dX
 have B:¬Builtin.List.listTooLong (its.toArray.size*k.toNat)=true:=by
  rw[SR f];exact dX
 have A:List.foldl (λb d=>b++d) #[] (List.replicate (if its.toArray.isEmpty=true then 0 else k.toNat) its.toArray)=(List.replicate k.toNat its).flatten.toArray:=by
  have w:∀m:Nat,List.foldl (λb d=>b++d) #[] (List.replicate m its.toArray)=(List.replicate m its).flatten.toArray:=λm=>by
   have:=SU its m [];rw[List.nil_append]at this;exact this
  rw[w];cases its with
  | nil=>simp
  | cons a r'=>rw[bD<|by simp]
 refine wpAny_binaryOp_repeat_ref (T:="list") (U:="int") (by decide) ⟨_,e,rfl⟩ (λs'=>typeIs_int s' k t) noFill_list_mul F.fills_int_mul F.slot_int_rmul repeat_list F.slot_int_index.lookup
  (sC F.slot_int_rmul (typeIs_int s k t) F.entry_int_rmul (F.args_int_rmul_2 _ _) (int___rmul___int_list k t l its.toArray n) ⟨e,rfl,⟨_,e,rfl⟩,sC F.slot_list_mul ⟨_,e,rfl⟩ F.entry_list_mul (F.args_list_mul_2 _ _) (AutoListH.list___mul___list_int_3 l its.toArray n k t C j B) ⟨e,?_⟩⟩)
 rw[A];exact⟨.ref _,_,I.lnew (t':=s.toks) (r.rep k.toNat) (by rw[TZ,Nat.mul_comm];exact hz),rfl,q _ I.fresh⟩
section
variable{κ:Type}[DecidableEq κ]
def aK(kvs:List (κ×V))(k:κ):Option V:=(kvs.find? λkv=>decide<|kv.1=k).map (·.2)
def aO(kvs:List (κ×V))(k:κ)(v:V):List (κ×V):=
 if (kvs.any λkv=>decide<|kv.1=k)=true then kvs.map (λkv=>if kv.1=k then(kv.1,v) else kv) else kvs++[(k,v)]
def iX{p:κ×V}{r:List (κ×V)}{k:κ}(e:p.1=k):aK (p::r) k=some p.2:=by simp[aK,kN,e]
def jC{p:κ×V}{r:List (κ×V)}{k:κ}(e:¬p.1=k):aK (p::r) k=aK r k:=by simp[aK,kN,e]
theorem oA(k:κ):∀kvs:List (κ×V),(kvs.any λa=>decide<|a.1=k)=(aK kvs k).isSome
 | []=>rfl
 | p::r=>by
  rw[vW]
  by_cases e:p.1=k
  .simp only[iX e,eE e,Bool.true_or,Option.isSome_some]
  .rw[jC e,gA e,Bool.false_or];exact oA k r
theorem RT(k j:κ)(y:V):∀kvs:List (κ×V),aK (kvs.map λa=>if a.1=k then(a.1,y) else a) j=(aK kvs j).map λx=>if j=k then y else x
 | []=>rfl
 | p::r=>by
  have b:=RT k j y r;rw[dB]
  by_cases h:p.1=k
  .rw[bE h]
   by_cases e:p.1=j
   .rw[iX (p:=(p.1,y)) e,iX e,Option.map_some,bE<|e.symm.trans h]
   .rw[jC (p:=(p.1,y)) e,jC e,b]
  .rw[bD h]
   by_cases e:p.1=j
   .rw[iX (p:=p) e,iX e,Option.map_some,bD λz=>h<|e.trans z]
   .rw[jC (p:=p) e,jC e,b]
theorem LY(k j:κ)(y:V):∀kvs:List (κ×V),aK kvs k=none->aK (kvs++[(k,y)]) j=if j=k then some y else aK kvs j
 | [],_=>by
  by_cases e:k=j
  .rw[bE e.symm];exact iX (p:=(k,y)) e
  .rw[bD λz=>e z.symm];exact jC (p:=(k,y)) e
 | p::r,hn=>by
  rw[List.cons_append];have a:¬p.1=k:=λz=>by rw[iX z]at hn;cases hn
  rw[jC a]at hn;have b:=LY k j y r hn
  by_cases e:p.1=j
  .rw[iX e,iX e,bD λz=>a<|e.trans z]
  .rw[jC e,jC e,b]
def nQ(kvs:List (κ×V))(k j:κ)(y:V):aK (aO kvs k y) j=if j=k then some y else aK kvs j:=by
 unfold aO
 by_cases a:(kvs.any λb=>decide<|b.1=k)=true
 .rw[bE a,RT];rw[oA]at a
  by_cases e:j=k
  .obtain⟨x,d⟩:=vk9.mp a;rw[bE e,e,d,Option.map_some,bE rfl]
  .rw[bD e];cases aK kvs j with
   | none=>rfl
   | some x=>rw[Option.map_some,bD e]
 .rw[bD a];refine LY k j y kvs ?_;rw[oA]at a;cases q:aK kvs k with
  | none=>rfl
  | some x=>rw[q]at a;exact(a rfl).elim
def jF(kvs:List (κ×V))(k:κ)(v:V):↑(aO kvs k v)<=↑kvs+1:=by
 unfold aO
 split
 .rw[aI];lia
 .rw[bJ,cL,iD];lia
def CD{kvs:List (κ×V)}{k:κ}(v:V)(h:aK kvs k=none):aO kvs k v=kvs++[(k,v)]:=by
 unfold aO;rw[oA,h];exact bD (by decide)
def RelO.isSome_eq{o:Option V}{u:Option Value}(r:RelO o u):o.isSome=u.isSome:=by
 cases o with
 | none=>cases u with
  | none=>rfl
  | some _=>exact(show False from r).elim
 | some _=>cases u with
  | none=>exact(show False from r).elim
  | some _=>rfl
theorem RelO.getD{o:Option V}{u:Option Value}{d:V}{d':Value}(r:RelO o u)(rd:RelV d d'):RelV (o.getD d) (u.getD d'):=by
 cases o with
 | none=>cases u with
  | none=>exact rd
  | some _=>exact(show False from r).elim
 | some _=>cases u with
  | none=>exact(show False from r).elim
  | some _=>exact r
def KV.val{kvs:List (κ×V)}{vs:List (κ×Value)}(r:KV kvs vs)(k:κ):RelO (aK kvs k) (valueAt vs k):=by
 unfold KV at r
 induction r with
 | nil=>exact iA
 | @cons p q ps qs h t ih=>
  obtain⟨h1,h2⟩:=h
  by_cases e:p.1=k
  .have a:q.1=k:=h1.symm.trans e;have b:valueAt (q::qs) k=some q.2:=by simp[valueAt,kN,a]
   rw[iX e,b];exact h2
  .have a:¬q.1=k:=λz=>e<|h1.trans z;have b:valueAt (q::qs) k=valueAt qs k:=by simp[valueAt,kN,a]
   rw[jC e,b];exact ih
theorem KV.any{kvs:List (κ×V)}{vs:List (κ×Value)}(r:KV kvs vs)(k:κ):(kvs.any λa=>decide<|a.1=k)=vs.any λa=>decide (a.1=k):=by
 unfold KV at r
 induction r with
 | nil=>rfl
 | cons h t ih=>rw[vW,vW,ih,h.1]
def KV.repl{kvs:List (κ×V)}{vs:List (κ×Value)}(r:KV kvs vs)(k:κ){y:V}{u:Value}(b:RelV y u):
  KV (kvs.map λa=>if a.1=k then(a.1,y) else a) (vs.map λa=>if a.1=k then(a.1,u) else a):=by
 unfold KV at r ⊢
 induction r with
 | nil=>exact .nil
 | @cons p q ps qs h t ih=>
  rw[dB,dB];refine .cons ?_ ih;obtain⟨h1,h2⟩:=h
  by_cases e:p.1=k
  .rw[bE e,bE<|h1.symm.trans e];exact⟨h1,b⟩
  .rw[bD e,bD λz=>e<|h1.trans z];exact⟨h1,h2⟩
def KV.put{kvs:List (κ×V)}{vs:List (κ×Value)}(r:KV kvs vs)(k:κ){y:V}{u:Value}(a:RelV y u):KV (aO kvs k y) (stored vs k u):=by
 unfold aO stored;rw[r.any k]
 by_cases e:(vs.any λb=>decide<|b.1=k)=true
 .rw[bE e,bE e];exact r.repl k a
 .rw[bD e,bD e];exact Paired.snoc r ⟨rfl,a⟩
theorem KV.length{kvs:List (κ×V)}{vs:List (κ×Value)}(r:KV kvs vs):↑kvs=↑vs:=Paired.length r
end
def kL{P:Program}{w:World}{k:aJ}{u:Value}(r:RelV (kV k) u):(cI P w).is k u=true:=by
 cases k with
 | inl i=>obtain⟨t,e⟩:=(show ∃t,u=Value.int i t from r);subst e;exact UU P w i t
 | inr x=>obtain⟨t,e⟩:=(show ∃t,u=Value.str x t from r);subst e;exact Bi P w x t
theorem LH{P:Program}{w:World}:∀{ks:List aJ}{us:List Value},Vals (ks.map kV) us->ItemsAre (cI P w) ks us
 | [],_,r=>by rw[List.map_nil]at r;cases r;exact .nil
 | k::ks,_,r=>by
  rw[dB]at r;cases r with
  | cons h t=>exact .cons (kL h)<|LH t
abbrev KT(H:Hp):List (List aJ×V)->List (List aJ×Addr×Value)->Prop:=Paired λp q=>p.1=q.1/\H q.2.1=some (.tup<|p.1.map kV)/\RelV p.2 q.2.2
def KT.val{H:Hp}{kvs:List (List aJ×V)}{xs:List (List aJ×Addr×Value)}(r:KT H kvs xs)(k:List aJ):RelO (aK kvs k) ((atKey xs k).map (·.2)):=by
 induction r with
 | nil=>exact iA
 | @cons p q ps qs h t ih=>
  obtain⟨h1,_,h2⟩:=h
  by_cases e:p.1=k
  .have a:q.1=k:=h1.symm.trans e;have b:atKey (q::qs) k=some q.2:=by simp[atKey,kN,a]
   rw[iX e,b];exact h2
  .have a:¬q.1=k:=λz=>e<|h1.trans z;have b:atKey (q::qs) k=atKey qs k:=by simp[atKey,kN,a]
   rw[jC e,b];exact ih
def KT.repl{H:Hp}{kvs:List (List aJ×V)}{xs:List (List aJ×Addr×Value)}(r:KT H kvs xs)(k:List aJ){y:V}{u:Value}(d:RelV y u):
  KT H (kvs.map λa=>if a.1=k then(a.1,y) else a) (xs.map<|putAt k u):=by
 induction r with
 | nil=>exact .nil
 | @cons p q ps qs h t ih=>
  rw[dB,dB];refine .cons ?_ ih;obtain⟨h1,h2,b⟩:=h;unfold putAt
  by_cases e:p.1=k
  .rw[bE e,bE<|h1.symm.trans e];exact⟨h1,h2,d⟩
  .rw[bD e,bD λz=>e<|h1.trans z];exact⟨h1,h2,b⟩
def KT.put{H:Hp}{kvs:List (List aJ×V)}{xs:List (List aJ×Addr×Value)}(r:KT H kvs xs)(k:List aJ){b:Addr}{y:V}{u:Value}(f:H b=some (.tup<|k.map kV))(a:RelV y u):
  KT H (aO kvs k y) (storedH xs k b u):=by
 have e:(kvs.any λd=>decide<|d.1=k)=(atKey xs k).isSome:=by
  rw[oA,(r.val k).isSome_eq,Option.isSome_map]
 unfold aO storedH;rw[e]
 by_cases q:(atKey xs k).isSome=true
 .rw[bE q,bE q];exact r.repl k a
 .rw[bD q,bD q];exact Paired.snoc r ⟨rfl,f,a⟩
def KT.keeps{H H':Hp}{kvs:List (List aJ×V)}{xs:List (List aJ×Addr×Value)}(r:KT H kvs xs)(a:∀b ys,H b=some (.tup ys)->H' b=some (.tup ys)):KT H' kvs xs:=
 Paired.mapP r λ_ _ z=>⟨z.1,a _ _ z.2.1,z.2.2⟩
section
variable{P:Program}{w:World}{H:Hp}{h:Heap}{a:Addr}
def HJ{u:HO}(ok:HOk P w H h)(e:Rd H a u):ObjOk P w H h a u:=e.ok ok
def lU{kvs:List (aJ×V)}(ok:HOk P w H h)(e:Rd H a (.dK kvs)):↑kvs<=sizeLine/\(a == sysModules)=false/\∃vs,KV kvs vs/\h.DictOf (cI P w) a vs:=
 show ObjOk P w H h a (.dK kvs) from HJ ok e
def vL{kvs:List (aJ×V)}(ok:HOk P w H h)(e:H a=some (.dK kvs)):↑kvs<=sizeLine/\(a == sysModules)=false/\∃vs,KV kvs vs/\h.DictOf (cI P w) a vs:=lU ok<|.inl e
def zC{ks:List aJ}(ok:HOk P w H h)(e:H a=some (.tup<|ks.map kV)):(tupleKind<|cI P w).is h ks a:=by
 obtain⟨_,its,r,o,h1,h2,n,b⟩:=(show ObjOk P w H h a (.tup<|ks.map kV) from ok a _ e);exact⟨o,its.toArray,n,h1,h2,b,by simpa using LH r⟩
def uZ{kvs:List (List aJ×V)}(ok:HOk P w H h)(e:Rd H a (.dT kvs)):↑kvs<=sizeLine/\(a == sysModules)=false/\
  ∃xs,KT H kvs xs/\h.DictOfH (tupleKind<|cI P w) a xs:=by
 obtain⟨z,y,xs,r,o,es,ep,h1,h2,f,d,i⟩:=(show ObjOk P w H h a (.dT kvs) from HJ ok e);refine⟨z,y,xs,r,o,es,ep,h1,h2,f,d,λx b=>?_,i⟩;have all:∀{l:List (List aJ×V)}{m:List (List aJ×Addr×Value)},KT H l m->∀x∈m,(tupleKind<|cI P w).is h x.1 x.2.1:=by
  intro l m q
  induction q with
  | nil=>intro x b;exact nomatch b
  | @cons p q ps qs hq t ih=>
   intro x b;rcases wr5.mp b with e | b
   .subst e;exact zC ok (by rw[<-hq.1];exact hq.2.1)
   .exact ih x b
 exact all r x b
def yU{kvs:List (List aJ×V)}(ok:HOk P w H h)(e:H a=some (.dT kvs)):↑kvs<=sizeLine/\(a == sysModules)=false/\
  ∃xs,KT H kvs xs/\h.DictOfH (tupleKind<|cI P w) a xs:=uZ ok<|.inl e
end
def DGet(H:Hp)(a:Addr)(y:V)(r:Option V):Prop:=
 (∃kvs k,Rd H a (.dK kvs)/\y=kV k/\r=aK kvs k)\/∃kvs k b,Rd H a (.dT kvs)/\y=.ref b/\H b=some (.tup<|k.map kV)/\r=aK kvs k
def DPut(H:Hp)(a:Addr)(y v:V)(H':Hp):Prop:=
 (∃kvs k,H a=some (.dK kvs)/\y=kV k/\↑kvs<sizeLine/\H'=upd H a (.dK<|aO kvs k v))\/
 ∃kvs k b,H a=some (.dT kvs)/\y=.ref b/\H b=some (.tup<|k.map kV)/\↑kvs<sizeLine/\H'=upd H a (.dT<|aO kvs k v)
theorem DGet.k{H:Hp}{a:Addr}{kvs:List (aJ×V)}{k:aJ}(e:H a=some (.dK kvs)):DGet H a (kV k) (aK kvs k):=.inl ⟨kvs,k,.inl e,rfl,rfl⟩
theorem DPut.k{H:Hp}{a:Addr}{kvs:List (aJ×V)}{k:aJ}{v:V}(e:H a=some (.dK kvs))(hl:↑kvs<sizeLine):DPut H a (kV k) v (upd H a<|.dK<|aO kvs k v):=.inl ⟨kvs,k,e,rfl,hl,rfl⟩
def DPut.t{H:Hp}{a b:Addr}{kvs:List (List aJ×V)}{k:List aJ}{v:V}(e:H a=some (.dT kvs))(d:H b=some (.tup<|k.map kV))(hl:↑kvs<sizeLine):
  DPut H a (.ref b) v (upd H a<|.dT<|aO kvs k v):=.inr ⟨kvs,k,b,e,rfl,d,hl,rfl⟩
section
variable{pins:List (Addr×Obj)}{σ:St}{H:Hp}{s:Shared}{a:Addr}{y v:V}{u r:Value}{o:Option V}{A:Around}{E:Vp}
def Inv.big(I:Inv X pins σ H s):sysModules<s⁻¹:=by
 have h:mainGlobals<s⁻¹:=(I.mod.glob.keeps I.bk).lt;exact gI (by decide) h
def Bn{Q:Vp}(r:A.units+1<cLine)(I:Inv X pins σ H s)(g:DGet H a y (some v))(n:RelV y u)(h:∀d s',Inv X pins σ H s'->RelV v d->Q d s'):
  wpAny (model X.prog X.w) A (getItem (.ref a) u) Q E s:=by
 rcases g with ⟨kvs,k,e,ey,l⟩ | ⟨kvs,k,b,e,ey,eb,l⟩
 .subst ey;obtain⟨z,hd,vs,f,j⟩:=lU I.hok e;obtain⟨d,m,i⟩:=RelO.some_of (v:=v) (o:=valueAt vs k) (by rw[l];exact f.val k);exact wpAny_getItem_of (kL n) j.mapOf m<|h d _ (I.tok _) i
 .subst ey;cases (show u=Value.ref b from n);obtain⟨z,hd,xs,f,j⟩:=uZ I.hok e;obtain⟨d,m,i⟩:=RelO.some_of (v:=v) (o:=(atKey xs k).map (·.2)) (by rw[l];exact f.val k);obtain⟨p,hp,q⟩:=wt0.mp m;refine wpAny_getItem_heap (zF r) (zC I.hok eb) j hp ?_;rw[q];exact h d _ (I.tok _) i
def tX{h':Heap}{t':Nat}{d:HO}(I:Inv X pins σ H s)(f:yF (H a))(hs:Heap.SameBut a s.heap h')(he:∃q,h'.get? a=some q)(new:ObjOk X.prog X.w (upd H a d) h' a d):
  Inv X pins σ (upd H a d) {s with heap:=h',toks:=t'}:=
 I.write (x:=a) (e:=a) f (.inl rfl) (λb q h z=>(hs.2 b h).trans z) he new
def CZ{P:Program}{w:World}{H':Hp}{h':Heap}{kvs:List (aJ×V)}{vs:List (aJ×Value)}(z:↑kvs<=sizeLine)(hd:(a == sysModules)=false)(b:KV kvs vs)(d:h'.DictOf (cI P w) a vs):
  ObjOk P w H' h' a (.dK kvs):=⟨z,hd,vs,b,d⟩
def VP{H':Hp}{Q:Unit->Shared->Prop}(C:A.units+1<cLine)(I:Inv X pins σ H s)(g:DPut H a y v H')(o:RelV y u)(n:RelV v r)(h:∀s',Inv X pins σ H' s'->Q () s'):
  wpAny (model X.prog X.w) A (setItem (.ref a) u r) Q E s:=by
 rcases g with ⟨kvs,k,e,ey,l,eH⟩ | ⟨kvs,k,b,e,ey,eb,l,eH⟩
 .subst ey eH;obtain⟨z,hd,vs,d,j⟩:=vL I.hok e;have hz:↑vs<=sizeLine:=by rw[<-↑d];exact z
  have hl:↑(aO kvs k v)<=sizeLine:=by have:=jF kvs k v;lia
  refine wpAny_setItem_pairs (hsz:=hz) (kL o) j λh' f hs=>h _ ?_;have he:∃q,h'.get? a=some q:=let ⟨q,_,_,i,_⟩:=f;⟨q,i⟩
  exact tX I (by rw[e];exact iA) hs he<|CZ hl hd (d.put k n) f
 .subst ey eH;cases (show u=Value.ref b from o);obtain⟨z,hd,xs,d,j⟩:=yU I.hok e;have hz:↑xs<=sizeLine:=by rw[<-Paired.length d];exact z
  have hl:↑(aO kvs k v)<=sizeLine:=by have:=jF kvs k v;lia
  refine wpAny_setItem_heap (hsz:=hz) (zF C) (zC I.hok eb) j λh' f hs=>h _ ?_;obtain⟨q,es,ep,i,h2,B,x,_,G⟩:=f;refine tX I (by rw[e];exact iA) hs ⟨q,i⟩ ⟨hl,hd,_,(d.put k eb n).keeps λc ys m=>?_,q,es,ep,i,h2,B,x,G⟩;rw[aC<|wQ m e λz=>nomatch z];exact m
end
section
variable{pins:List (Addr×Obj)}{σ:St}{H:Hp}{s:Shared}{a:Addr}{kvs:List (aJ×V)}{k:aJ}{u:Value}{A:Around}{E:Vp}
end
def mG(i:Expr):Prop:=∀ov iv,subscripted i false ov iv=operate [ov,iv] (getItem ov iv)
def EZ{prog:Program}{w:World}{A:Around}{E:Vp}{s:Shared}{env:Env}{value a:Expr}{pos:Pos}{T id:String}{Q:Vp}
  (hl:typeLookup (.type T) "__getitem__"=pure (some<|.builtin id)) (hs:mG a)
  (h:wpAny (model prog w) A (eval value env) (λo e=>wpAny (model prog w) A (eval a env) (λi b=>b.TypeIs o T/\wpAny (model prog w) A (getItem o i) Q E b) E e) E s):
  wpAny (model prog w) A (eval (.Subscript value a pos) env) Q E s:=by
 refine Subscript_<|fF h (λo e l=>fF l (λi b d=>?_) λ_ _ x=>x) λ_ _ x=>x;obtain⟨j,d⟩:=d;unfold subscriptTail;refine aF ?_;rw[getitemInPython_of_ne j.not_modules];refine aF<|nS j hl ?_;have fin:wpAny (model prog w) A (subscripted a false o i) (λr f=>wpAny (model prog w) A (letTemporaryGo value o r >>= λ_=>pure r) Q E f) E b:=by
  rw[hs o i];exact wpAny_operating<|fF d (λr f m=>aF<|wpAny_letTemporaryGo<|bF m) λ_ _ x=>x
 first
  | exact bF (aF fin)
  | exact aF (bF<|aF fin)
  | exact aF fin
def Ax{X:Cx}{f:List (Addr×Obj)}{σ:St}{H:Hp}{s:Shared}{a:Addr}{y:V}{o:Option V}(I:Inv X f σ H s)(g:DGet H a y o):s.TypeIs (.ref a) "dict":=by
 rcases g with ⟨kvs,k,e,_,_⟩ | ⟨kvs,k,b,e,_,_,_⟩
 .obtain⟨_,_,vs,_,d⟩:=lU I.hok e;exact d.typeIs
 .obtain⟨_,_,xs,_,d⟩:=uZ I.hok e;exact d.typeIs
inductive QX(x y:V)(H:Hp)(Q:VK):Prop
 | mk(a:Addr)(v:V)(h1:x=.ref a)(h2:DGet H a y (some v))(q:Q v H):QX x y H Q
def uQ(td ty:TE):TE:=λσ H Q=>td σ H λx H1=>ty σ H1 λy H2=>QX x y H2 Q
def oE(td ty tv:TE):TS:=λD σ H=>tv σ H λv H1=>td σ H1 λx H2=>ty σ H2 λy H3=>∃a H4,x=.ref a/\DPut H3 a y v H4/\D.nx σ H4
section
variable{o i e value:Expr}{pos pos' tpos:Pos}{td ty tv:TE}
def cQ(q:X.A.units+1<cLine)(r:PE X o td)(hi:PE X i ty)(hs:mG i):PE X (.Subscript o i pos) (uQ td ty):=by
 intro b s σ H Q I h;refine EZ vj7.lookup hs<|aX (r b s σ H _ I h) λu w ⟨x,H1,m,l,n⟩=>aX (hi b w σ H1 _ m n) ?_;rintro B s2 ⟨y,H2,d,z,a,v,ex,g,j⟩;subst ex;obtain rfl:u=Value.ref a:=l;exact⟨Ax d g,Bn q d g z λC s3 f e=>⟨v,H2,f,e,j⟩⟩
def hB(z:X.A.units+1<cLine)(m:PE X o td)(hi:PE X i ty)(J:PE X value tv)(hs:swapsWith value (some<|.Subscript o i pos') pos.line X.env=pure false):
  PS X (.Assign [.Subscript o i pos'] value pos) (oE td ty tv):=by
 intro b s σ H D I h;refine wpAny_Assign_Subscript (aX (J b s σ H _ I h) λr n ⟨v,H1,j,C,l⟩=>aX (m b n σ H1 _ j l) λu s2 ⟨x,H2,w,e,G⟩=>aX (hi b s2 σ H2 _ w G) λK s3 ⟨y,H3,q,E,a,B,ex,g,f⟩=>?_) hs;subst ex;obtain rfl:u=Value.ref a:=e;exact VP z q g E C λs4 d=>⟨σ,B,d,f⟩
end
def GZ{P:Program}{w:World}{H:Hp}(h:Heap)(a:sysModules<h.objs.size):ObjOk P w H (h.push {cls:=.type "dict",data:=.dict #[]}) h.objs.size (.dK []):=
 ⟨bT _,vc4.mpr<|bW<|bV a,[],.nil,Heap.DictOf.new h⟩
def Bb{P:Program}{w:World}{H:Hp}(h:Heap)(a:sysModules<h.objs.size):ObjOk P w H (h.push {cls:=.type "dict",data:=.dict #[]}) h.objs.size (.dT []):=
 ⟨bT _,vc4.mpr<|bW<|bV a,[],.nil,_,#[],0,dD _ rfl,⟨rfl,rfl,rfl⟩,rfl,rfl,kH⟩
def SK:TE:=λ_ H Q=>∀p,H p=none->Q (.ref p) (upd H p<|.dK [])
def sK:TE:=λ_ H Q=>∀p,H p=none->Q (.ref p) (upd H p<|.dT [])
section
variable{pos:Pos}
def tJ:PE X (.Dict [] [] pos) SK:=λb s σ H Q I h=>
 wpAny_Dict_empty ⟨.ref s⁻¹,_,I.laid (a:=s⁻¹) (o:=.dK []) (t':=s.toks) (λ_ _ q=>bS _ q) (aY _)<|GZ s.heap I.big,rfl,h _<|I.hok.fresh<|aY _⟩
def Bu:PE X (.Dict [] [] pos) sK:=λb s σ H Q I h=>
 wpAny_Dict_empty ⟨.ref s⁻¹,_,I.laid (a:=s⁻¹) (o:=.dT []) (t':=s.toks) (λ_ _ q=>bS _ q) (aY _)<|Bb s.heap I.big,rfl,h _<|I.hok.fresh<|aY _⟩
end
def FV:List (TE×TE)->St->Hp->(List (V×V)->Hp->Prop)->Prop
 | [],_,H,Q=>Q [] H
 | (tk,tv)::r,σ,H,Q=>tk σ H λx H1=>tv σ H1 λy H2=>FV r σ H2 λps H3=>Q ((x,y)::ps) H3
abbrev VV:List (V×V)->List (Value×Value)->Prop:=Paired λp q=>RelV p.1 q.1/\RelV p.2 q.2
def wK(X:Cx)(pos:Pos)(keys:List (Option Expr))(values:List Expr)(trs:List (TE×TE)):Prop:=
 ∀(pins:List (Addr×Obj))(s:Shared)(σ:St)(H:Hp)(Q:List (V×V)->Hp->Prop),Inv X pins σ H s->FV trs σ H Q->
  wpAny (model X.prog X.w) X.A (evalPairs<|pairTrees keys values X.env pos) (λvs s'=>∃ps H',Inv X pins σ H' s'/\VV ps vs/\Q ps H') X.xe s
def Cg{X:Cx}{pos:Pos}:wK X pos [] [] []:=λa s σ H Q I h=>pairTrees_nil_walk ⟨[],H,I,.nil,h⟩
def WC{X:Cx}{pos:Pos}{k v:Expr}{ks:List (Option Expr)}{vs:List Expr}{tk tv:TE}{b:List (TE×TE)}(j:PE X k tk)(q:PE X v tv)(hr:wK X pos ks vs b):
  wK X pos (some k::ks) (v::vs) ((tk,tv)::b):=λa s σ H Q I h=>
 pairTrees_cons_walk (aX (j a s σ H _ I h) λu l ⟨x,H1,e,d,i⟩=>aX (q a l σ H1 _ e i) λz s2 ⟨y,H2,n,r,w⟩=>
  aX (hr a s2 σ H2 _ n w) <| by rintro ws s3 ⟨ps,H3,m,o,f⟩;exact⟨(x,y)::ps,H3,m,.cons ⟨d,r⟩ o,f⟩)
def dU(kvs more:List (aJ×V)):List (aJ×V):=more.foldl (λacc kv=>aO acc kv.1 kv.2) kvs
def KV.merge:∀{more:List (aJ×V)}{rs:List (aJ×Value)}{kvs:List (aJ×V)}{vs:List (aJ×Value)},KV more rs->KV kvs vs->KV (dU kvs more) (merged vs rs):=by
 intro more rs kvs vs r;unfold KV at r
 induction r generalizing kvs vs with
 | nil=>intro q;exact q
 | @cons p q ps qs h t ih=>
  intro a;have e:KV (aO kvs p.1 p.2) (stored vs q.1 q.2):=by
   have:=a.put p.1 h.2;rw[<-h.1];exact this
  exact ih e
theorem zL:∀(more kvs:List (aJ×V)),↑(dU kvs more)<=↑kvs+↑more
 | [],kvs=>by show ↑kvs<=↑kvs+0;lia
 | p::r,kvs=>by
  have h1:=zL r<|aO kvs p.1 p.2;have h2:=jF kvs p.1 p.2;show(dU (aO kvs p.1 p.2) r).length<=_;rw[cL];lia
theorem LW{P:Program}{w:World}:∀{kvs:List (aJ×V)}{ws:List (Value×Value)},VV (kvs.map λd=>(kV d.1,d.2)) ws->∃rs,Carries (cI P w) ws rs/\KV kvs rs
 | [],_,r=>by rw[List.map_nil]at r;cases r;exact⟨[],iA,.nil⟩
 | p::kvs,_,r=>by
  rw[dB]at r;cases r with
  | @cons a b as bs h t=>
   obtain⟨rs,c,q⟩:=LW (P:=P) (w:=w) t;obtain⟨f,e⟩:=b;exact⟨(p.1,e)::rs,⟨kL h.1,rfl,c⟩,.cons ⟨rfl,h.2⟩ q⟩
def nX(trs:List (TE×TE)):TE:=λσ H Q=>∀p,H p=none->FV trs σ (upd H p<|.dK []) λps H2=>H2 p=some (.dK [])/\∃kvs:List (aJ×V),ps=kvs.map (λkv=>(kV kv.1,kv.2))/\↑kvs<=15/\Q (.ref p) (upd H2 p<|.dK<|dU [] kvs)
def ZG{X:Cx}{pos:Pos}{b:List (Option Expr)}{d:List Expr}{f:List (TE×TE)}(h:wK X pos b d f)(r:b.all (·.isSome)=true)(hl:↑b=↑d)(h0:b≠[])
  (C:↑b<=15):PE X (.Dict b d pos) (nX f):=by
 intro B s σ H Q I q;have A:=I.hok.fresh<|aY s⁻¹;have n:=I.laid (a:=s⁻¹) (o:=.dK []) (h':=s.heap.push {cls:=.type "dict",data:=.dict #[]}) (t':=s.toks) (λ_ _ q=>bS _ q) (aY _)<|GZ s.heap I.big;refine wpAny_Dict_walk (knd:=cI X.prog X.w) r hl h0 C<|aX (h B _ σ _ _ n<|q _ A) ?_;rintro ws s2 ⟨ps,H2,j,u,e,kvs,ep,lk,E⟩;subst ep;obtain⟨rs,c,m⟩:=LW (P:=X.prog) (w:=X.w) u;obtain⟨z,hd,G,l,x⟩:=vL j.hok e;cases l;refine⟨rs,c,x,λh' i hs=>⟨.ref s⁻¹,_,?_,rfl,E⟩⟩;have hz:↑(dU [] kvs)<=sizeLine:=by
  have h1:=zL kvs [];rw[iD]at h1;rw[sizeLine_eq];lia
 have he:∃q,h'.get? s⁻¹=some q:=let ⟨q,_,_,hq,_⟩:=i;⟨q,hq⟩
 exact tX j (by rw[e];exact iA) hs he<|CZ hz hd (m.merge .nil) i
structure M1(X:Cx)(o:Expr)(m:Str)(apos:Pos)(e:Expr)(cpos:Pos):Prop where
 base:attributeBase o m X.env (eval o X.env)=eval o X.env
 few:((backTo cpos<|starEach [e] X.env).all (λx=>!x.1) && (backToKw cpos<|keywordEach [] X.env).all (λx=>x.1.isSome) && decide (↑([e]:List Expr)+↑([]:List Keyword)+(if ([]:List Keyword).isEmpty then 0 else 1)<30))=true
 line:(apos.endLine == cpos.line)=true
 trees:backTo cpos (starEach [e] X.env)=[(false,eval e X.env)]
structure M2(X:Cx)(o:Expr)(m:Str)(apos:Pos)(e f:Expr)(cpos:Pos):Prop where
 base:attributeBase o m X.env (eval o X.env)=eval o X.env
 few:((backTo cpos<|starEach [e,f] X.env).all (λx=>!x.1) && (backToKw cpos<|keywordEach [] X.env).all (λx=>x.1.isSome) && decide (↑([e,f]:List Expr)+↑([]:List Keyword)+(if ([]:List Keyword).isEmpty then 0 else 1)<30))=true
 line:(apos.endLine == cpos.line)=true
 trees:backTo cpos (starEach [e,f] X.env)=[(false,eval e X.env),(false,eval f X.env)]
def tZ(H:Hp)(a:Addr):Prop:=(∃kvs,Rd H a<|.dK kvs)\/∃kvs,Rd H a<|.dT kvs
def vM{X:Cx}{i:List (Addr×Obj)}{σ:St}{H:Hp}{s:Shared}{a:Addr}(I:Inv X i σ H s)(d:tZ H a):
  s.TypeIs (.ref a) "dict"/\(∀b,Value.ref a=.ref b->∃f,s.heap.get? b=some f/\f.dict=none)/\(a == sysModules)=false:=by
 rcases d with ⟨kvs,e⟩ | ⟨kvs,e⟩
 .obtain⟨_,hd,vs,_,h⟩:=lU I.hok e;refine⟨h.typeIs,λb q=>?_,hd⟩;cases q;obtain⟨f,_,_,h1,h2,_⟩:=h;exact⟨f,h1,h2.2.1⟩
 .obtain⟨_,hd,xs,_,h⟩:=uZ I.hok e;refine⟨h.typeIs,λb q=>?_,hd⟩;cases q;obtain⟨f,_,_,h1,h2,_⟩:=h;exact⟨f,h1,h2.2.1⟩
section
variable{pins:List (Addr×Obj)}{σ:St}{H:Hp}{s:Shared}{a:Addr}{y d:V}{u r:Value}{o:Option V}{A:Around}{E:Vp}
def OL{Q:Vp}(j:A.units+1<cLine)(I:Inv X pins σ H s)(g:DGet H a y o)(i:RelV y u)(h:∀w' s',Inv X pins σ H s'->RelV (o.getD .non) w'->Q w' s'):
  wpAny (model X.prog X.w) A (call (.builtin "dict.get") [.ref a,u]) Q E s:=by
 rcases g with ⟨kvs,k,e,ey,l⟩ | ⟨kvs,k,b,e,ey,eb,l⟩
 .subst ey;obtain⟨z,hd,vs,f,d⟩:=lU I.hok e;refine lZ kI d.typeIs uV (GD _ _) (meets_dict_get (cI X.prog X.w) a (kL i) hd) ⟨_,d.mapOf,h _ _ (I.tok _) ?_⟩;rw[l];exact(f.val k).getD rfl
 .subst ey;cases (show u=Value.ref b from i);obtain⟨z,hd,xs,f,d⟩:=uZ I.hok e;refine lZ kI d.typeIs uV (GD _ _) (meetsH_dict_get (tupleKind<|cI X.prog X.w) a b hd) ⟨zF j,k,xs,zC I.hok eb,d,h _ _ (I.tok _) ?_⟩;rw[l];exact(f.val k).getD rfl
def RP{Q:Vp}(m:A.units+1<cLine)(I:Inv X pins σ H s)(g:DGet H a y o)(j:RelV y u)(rd:RelV d r)(h:∀w' s',Inv X pins σ H s'->RelV (o.getD d) w'->Q w' s'):
  wpAny (model X.prog X.w) A (call (.builtin "dict.get") [.ref a,u,r]) Q E s:=by
 rcases g with ⟨kvs,k,e,ey,l⟩ | ⟨kvs,k,b,e,ey,eb,l⟩
 .subst ey;obtain⟨z,hd,vs,i,f⟩:=lU I.hok e;refine lZ kI f.typeIs uV (JP _ _ _) (meets_dict_get_default (cI X.prog X.w) a (kL j) hd r) ⟨_,f.mapOf,h _ _ (I.tok _) ?_⟩;rw[l];exact(i.val k).getD rd
 .subst ey;cases (show u=Value.ref b from j);obtain⟨z,hd,xs,i,f⟩:=uZ I.hok e;refine lZ kI f.typeIs uV (JP _ _ _) (meetsH_dict_get_default (tupleKind<|cI X.prog X.w) a b hd r) ⟨zF m,k,xs,zC I.hok eb,f,h _ _ (I.tok _) ?_⟩;rw[l];exact(i.val k).getD rd
end
def OU(td ty:TE):TE:=λσ H Q=>td σ H λx H1=>∃a,x=.ref a/\tZ H1 a/\ty σ H1 λy H2=>∃o,DGet H2 a y o/\Q (o.getD .non) H2
def QH(td ty tx:TE):TE:=λσ H Q=>td σ H λx H1=>∃a,x=.ref a/\tZ H1 a/\ty σ H1 λy H2=>tx σ H2 λz H3=>∃o,DGet H3 a y o/\Q (o.getD z) H3
section
variable{o e f:Expr}{apos cpos:Pos}{td ty tx:TE}
def iT(z:X.A.units+1<cLine)(B:PE X o td)(he:PE X e ty)(m:M1 X o "get" apos e cpos):PE X (.Call (.Attribute o "get" apos) [e] [] cpos) (OU td ty):=by
 intro f s σ H Q I h;refine rY m.base m.few m.line uS kI DL<|aX (B f s σ H _ I h) ?_;rintro u C ⟨x,H1,b,l,a,ex,d,w⟩;subst ex;obtain rfl:u=Value.ref a:=l;obtain⟨n,q,_⟩:=vM b d;exists n,q;rw[m.trees];refine lI rfl<|sI<|kA<|aX (he f C σ H1 _ b w) λK s2 ⟨y,H2,r,E,J,g,G⟩=>nD ?_;exact OL z r g E λL s3 j i=>⟨_,H2,j,i,G⟩
def SS(L:X.A.units+1<cLine)(w:PE X o td)(he:PE X e ty)(M:PE X f tx)(m:M2 X o "get" apos e f cpos):PE X (.Call (.Attribute o "get" apos) [e,f] [] cpos) (QH td ty tx):=by
 intro b s σ H Q I h;refine rY m.base m.few m.line uS kI DL<|aX (w b s σ H _ I h) ?_;rintro u B ⟨x,H1,i,n,a,ex,d,r⟩;subst ex;obtain rfl:u=Value.ref a:=n;obtain⟨E,J,_⟩:=vM i d;exists E,J;rw[m.trees];refine lI rfl (sI (kA (aX (he b B σ H1 _ i r) λT s2 ⟨y,H2,K,N,O⟩=>
  kA (aX (M b s2 σ H2 _ K O) λW s3 ⟨z,H3,C,G,P,g,q⟩=>nD ?_))))
 exact RP L C g N G λY s4 j l=>⟨_,H3,j,l,q⟩
end
section
variable{pins:List (Addr×Obj)}{σ:St}{H:Hp}{s:Shared}{a:Addr}{kvs:List (aJ×V)}{A:Around}{E:Vp}
end
section
variable{pins:List (Addr×Obj)}{σ:St}{H:Hp}{s:Shared}{a:Addr}{y:V}{u:Value}{A:Around}{E:Vp}
end
end L2
namespace Att
open PySem PySem.W PySem.Calls PyProof.Rows
def Ag{P:Params}{h:Heap}:∀(d:List Int)(vs:List Value),WellAll P h vs (d.map WData.int)->IntsAre vs d:=by
 intro d
 induction d with
 | nil=>
  intro vs w;rw[List.map_nil]at w;cases w;exact .nil
 | cons n d ih=>
  intro vs w;rw[dB]at w;cases w with
  | cons a b=>
   cases a;exact .cons _ _<|ih _ b
def UV{l:OpenLaw}{n:Nat}(s:l.most=some n){P:Params}{h:Heap}{args:List WData}{i:List Value}
  (j:l.row.toRowW.claim.pre args=true) (o:WellAll P h i args):
  ∃a vs b,i=[Value.ref a]/\args=[WData.list<|b.map WData.int]/\h.get? a=some {cls:=.type "list",data:=.seq vs.toArray}/\IntsAre vs b/\↑b<=n:=by
 have z:WShape.hasAll [] args [.list .int]=true:=(pre_splitW j).1;have m:l.pre.holds [] {args:=args}=true:=(pre_splitW j).2;obtain⟨d,r,rfl,h1,h2⟩:=hasAllW_cons z;obtain rfl:=hasAllW_nil h2;obtain⟨xs,rfl,w⟩:=hasW_list h1;obtain⟨b,rfl⟩:=items_int w;have x:↑b<=n:=by
  unfold OpenLaw.pre at m;have e:(WTm.not<|.lt (.lit<|.int (n:Int))<|.len<|.arg 0).holds [] {args:=[.list<|b.map .int]}=true:=by
   have e:=(holds_andW m).1;rw[s]at e;exact e
  have f:=condW_of e<|w_not<|w_lt w_lit<|w_len_list<|w_arg rfl;rw[aI]at f;refine Nat.le_of_not_lt λq=>?_;have u:(n:Int)<((↑b:Nat):Int):=by lia
  first
   | (rw[eE u]at f;exact absurd f<|by decide)
   | (simp at f;lia)
 cases o with
 | cons w1 w2=>
  cases w2;cases w1 with
  | list ho hall=>exact⟨_,_,b,rfl,rfl,ho,Ag b _ hall,x⟩
def ZW(l:OpenLaw)(args:List WData):l.row.toRowW.claim.post args (.bool true) args=true:=
 postW_of (r:=l.row.toRowW) (X:=(true == true))
  (show WShape.has [] (.bool true) .bool=true by first | rfl | decide | simp[WShape.has,WShape.arms,WShape.armsAll])
  (show(WTm.eq .res<|.lit<|.bool true).value [] {args:=args,res:=some<|.bool true,after:=args}=some (.bool<|true == true) from w_eq_bool (w_res rfl) w_lit) rfl
def attach_call{l:OpenLaw}{n:Nat}{q:Program}{x:List Str}{A:(Str->Option Value)->Heap->Prop}{z:World->Heap->Prop}{d:DefRec}
  (O:l.most=some n) (C:d.params.defaults=[])
  (call:∀(w:World)(s₀ b:Shared)(mg s:Str->Option Value)(e:Addr)(o:Obj)(j h m:Value)(a:Addr)(vs:List Value)(i:List Int), Ground q x [] A w s₀ mg s b.heap->z w b.heap-> b.heap.get? e=some o->o.data=.func (docDef d.name d.params d.body d.scope j h m)->b.heap.CodeRec h d.name->mg d.name=some (.ref e)-> b.heap.get? a=some {cls:=.type "list",data:=.seq vs.toArray}->IntsAre vs i->↑i<=n->b.gens=#[]-> codeAny (model l.prog w) callerA (.call (.ref e) ⟨[.ref a],[]⟩) (λr s'=>r=.ok (.ret<|.bool true)/\OldK b.heap s'.heap/\s'.os=b.os/\AllBare s'.gens) b):
  WalkO q x A z l.row.toRowW d [] (λf vs=>PySem.call f vs):=by
 intro w s₀ b mg s G Y e o j h m X kV I hd P u W N args a7 as T aa ac L ad;obtain rfl:X=.none:=Dflts.none u C;obtain rfl:kV=.none:=Dflts.noKw u;obtain⟨a,vs,i,rfl,rfl,J,B,M⟩:=UV O T L;refine enter_call<|codeAny_mono (call w s₀ b mg s e o j h m a vs i G Y I (fd_plain hd) P W J B M N) λr s' Z=>?_;obtain⟨rfl,h2,H,K⟩:=Z;exact⟨.inl ⟨.bool true,.bool true,[],rfl,λ_=>rfl,.bool true,ZW l _,λ_=>⟨List.Pairwise.nil,λ_ E=>(nomatch E)⟩⟩,h2,H,K⟩
section
variable{prog:Program}{w:World}{A:Around}{E:Vp}{s:Shared}{K:Frag}
end
end Att
namespace L2
open PySem PySem.Spec PyProof.Rows
variable{prog:Program}{w:World}{A:Around}{E:Vp}{s:Shared}
variable{X:Cx}
theorem RI:∀{vs:List Value}{a:List Int},IntsAre vs a->Vals (a.map V.int) vs
 | _,_,.nil=>.nil
 | _,_,.cons n t h=>.cons ⟨t,rfl⟩<|RI h
def pB(H:Hp):Prop:=∀b,H b=none\/∃o xs,H b=some (.frz o<|.lst xs)
def WG{P:Program}{w:World}{K:Fq}{mg J:Str->Option Value}{CX:jY}{k:Nat}{G a:Addr}{fd:FuncData}{x:Str}{sp:Sp}{f:Shared}{vs:List Value}{B:List Int}
  (O:K.In f.heap) (M:f.heap.Ns mainGlobals mg) (i:f.heap.Ns builtinsNs J) (ac:∀x:Str,x≠"__name__"->J x=bootBuiltins x) (a5:f.heap.NoLimit) (hg:f.gens=#[])
  (C:f.heap.get? a=some {cls:=.type "list",data:=.seq vs.toArray}) (hi:IntsAre vs B) (hl:B.length<=sizeLine) (hr:Room k callerA)
  (F:∀base:Heap,K.In base->base.Ns mainGlobals mg->aQ P w K mg base CX k G fd [x] sp) (a2:∀(s:Shared)(u:Value),BindsTo s fd ⟨[u],[]⟩ [(x,u)])
  (aa:∀H:Hp,pB H->SqL K H a (B.map V.int)->sp [.ref a] H (λv _=>v=.bl true) λ_ _ _=>False)
  (ab:∀H e s',CX [] H f (λ_ _ _=>False) e s'->False):
  codeAny (model P w) callerA (.call (.ref G) ⟨[.ref a],[]⟩) (λr s'=>r=.ok (.ret<|.bool true)/\OldK f.heap s'.heap/\s'.os=f.os/\AllBare s'.gens) f:=by
 have Y:=RI hi;have a6:=↑hi;have L:∀H:Hp,pB H->SqL K H a (B.map V.int)->HOk P w H f.heap->(∀b,H b≠none->b=a)->(H a≠none->K.lookup a=none)->
   codeAny (model P w) callerA (.call (.ref G) ⟨[.ref a],[]⟩) (λr s'=>r=.ok (.ret<|.bool true)/\OldK f.heap s'.heap/\s'.os=f.os/\AllBare s'.gens) f:=by
  intro H N hS A T hK;have X:∀{b:Addr}{o:Obj},f.heap.get? b=some o->H b=none->(fY f.heap H).get? b=some o:=λe n=>VQ e n;have a9:∀{b:Addr}{o:Obj}{es:Array DictEntry}{ep:Nat},f.heap.get? b=some o->o.data=.dict es ep->H b=none:=λ{b o es ep} e d=>by
   cases q:H b with
   | none=>rfl
   | some u=>
    have I:b=a:=T b (by rw[q];simp);subst I;rw[C]at e;cases e;have d':Data.seq vs.toArray _=Data.dict es ep:=d;cases d'
  have E:∀{b:Addr}{m:Str->Option Value},f.heap.Ns b m->(fY f.heap H).Ns b m:=λ{b m} ⟨o,es,ep,e,d,r⟩=>⟨o,es,ep,X e<|a9 e d,d,r⟩;have W:K.In (fY f.heap H):=λb o e=>X (O b o e) (by
   cases q:H b with
   | none=>rfl
   | some u=>
    have I:b=a:=T b (by rw[q];simp);subst I;rw[hK<|by rw[q];simp]at e;cases e)
  have hM:Mod K mg (fY f.heap H):=⟨W,E M,⟨J,E i,ac⟩,let ⟨mc,h1,h2⟩:=a5;⟨mc,E h1,h2⟩⟩;have e0:Env0 P w K mg (fY f.heap H) callerA [] f H:=⟨rfl,hM,λb o e=>WT e,Nat.le_of_eq<|Cd _ _,trivial,λb i=>absurd (show b∈([]:List Addr) from i) (by simp),A,.of_eq hg⟩;refine codeAny_mono ((F _ W<|E M).run callerA [] f H ⟨[.ref a],[]⟩ [.ref a] [.ref a] _ _ hr e0 (a2 f<|.ref a) (.cons rfl .nil)<|aa H N hS) λr s' h=>?_;cases r with
  | error e=>exact(ab H e s' h).elim
  | ok fl=>
   cases fl with
   | next=>exact False.elim h
   | brk=>exact False.elim h
   | cont=>exact False.elim h
   | ret u=>
    obtain⟨v,H',os,l,un,a4,r',q⟩:=h;have q':v=.bl true:=q;subst q';obtain rfl:u=Value.bool true:=r';refine⟨rfl,OldK.of_keep λb o e=>?_,os,l⟩;cases q:H b with
    | none=>exact un.keep b o e q (by intro z;exact absurd (show b∈([]:List Addr) from z)<|by simp) (by simp)
    | some u=>
     rcases N b with z | ⟨ob,xs,z⟩
     .rw[q]at z;cases z
     .have z2:=un.frzs b ob _ z;obtain⟨Z,_⟩:=A b _ z;obtain⟨e2,_⟩:=a4 b _ z2;rw[e]at Z;cases Z;exact e2
 cases hk:K.lookup a with
 | some o=>
  have e:=O a o hk;rw[C]at e;cases e;refine L (λ_=>none) (λ_=>.inl rfl) (.inr ⟨_,vs.toArray,_,hk,rfl,rfl,rfl,by rw[cN,a6];exact hl,by simpa using Y⟩) (λb u z=>by have j:(none:Option HO)=some u:=z;cases j) (λb z=>absurd rfl z) λz=>absurd rfl z
 | none=>
  refine L (λb=>if b=a then some (.frz {cls:=.type "list",data:=.seq vs.toArray}<|.lst<|B.map V.int) else none) (λb=>?_) (.inl<|.inr ⟨{cls:=.type "list",data:=.seq vs.toArray},bE rfl⟩) (λb u z=>?_) (λb z=>?_) λ_=>hk
  .by_cases i:b=a
   .exact .inr ⟨_,_,bE i⟩
   .exact .inl<|bD i
  .by_cases i:b=a
   .have j:=(bE i).symm.trans z;cases j;subst i;exact⟨C,by rw[aI];exact hl,vs,_,Y,C⟩
   .have j:=(bD i).symm.trans z;cases j
  .by_cases i:b=a
   .exact i
   .exact absurd (bD i) z
def UX{l:PySem.W.OpenLaw}{n k:Nat}{q:Program}{a2:List Str}{XP:(Str->Option Value)->Heap->Prop}{z:World->Heap->Prop}{d:DefRec}{K:Params->Fq}{CX:World->jY}{sp:World->Sp}{x:Str}
  (P:l.most=some n) (B:n<=sizeLine) (a6:d.params.defaults=[]) (hr:Room k callerA)
  (X:∀(w:World)(h:Heap),z w h->(K w.params).In h)
  (F:∀(w:World)(mg:Str->Option Value)(i:Addr)(h:Heap),(K w.params).In h->h.Ns mainGlobals mg->mg d.name=some (.ref i)-> ∃fd:FuncData,(∀(s:Shared)(u:Value),BindsTo s fd ⟨[u],[]⟩ [(x,u)])/\ ∀base:Heap,(K w.params).In base->base.Ns mainGlobals mg->aQ l.prog w (K w.params) mg base (CX w) k i fd [x] (sp w))
  (E:∀(w:World)(H:Hp)(a:Addr)(j:List Int),↑j<=n->pB H->SqL (K w.params) H a (j.map V.int)->sp w [.ref a] H (λv _=>v=.bl true) λ_ _ _=>False)
  (J:∀(w:World)(H:Hp)(s:Shared)(e:Value)(s':Shared),CX w [] H s (λ_ _ _=>False) e s'->False):
  PySem.W.WalkO q a2 XP z l.row.toRowW d [] (λf vs=>PySem.call f vs):=by
 refine Att.attach_call P a6 λw s₀ M mg mb i o pm cd aa a vs j G Y ho hd a9 N I A r O=>?_;have m:=X w _ Y;obtain⟨fd,L,hF⟩:=F w mg i _ m G.T.g N;exact WG m G.T.g G.T.b G.T.builtins G.T.nolimit O I A (gF r B) hr hF L (λH C Z=>E w H a j r C Z) λH e s'=>J w H M e s'
def nG(s:Stmt):Arguments:=match s with
 | .FunctionDef _ a _ _ _ _ _ _ _ _=>a
 | _=>{posonlyargs:=[],args:=[],vararg:=none,kwonlyargs:=[],kw_defaults:=[],kwarg:=none,defaults:=[]}
def fU(s:Stmt):List Stmt:=match s with
 | .FunctionDef _ _ b _ _ _ _ _ _ _=>b
 | _=>[]
def bP(s:Stmt):Scope:=match s with
 | .FunctionDef _ _ _ _ _ _ sc _ _ _=>sc
 | _=>{kind:=.function,names:=[],isGenerator:=false,isCoroutine:=false}
abbrev bQ:jY:=λ_ _ _ _ _ _=>False
abbrev E0:XK:=λ_ _ _=>False
def FF{X:Cx}:DM bQ X E0:=λ_ _ _ _ _ _ _ h=>h.elim
structure Fun(K:Fq)(x qual:Str)(st:Stmt)(f:Addr)(fd:FuncData):Prop where
 ex:∃(oc:Value)(od:Option Addr)(kV doc pm:Value)(an:Option Addr)(cdv ct:Value)(osl:Array (Option Value)),
  fd=PySem.W.fnOf x qual (nG st) (fU st) (bP st) .none kV doc pm an cdv ct/\K.lookup f=some ⟨oc,od,.func fd,osl⟩/\PySem.W.codeIn K cdv qual=true
 kp:PySem.W.keepIn K (.ref f)=true
section
variable{P:Program}{w:World}{K:Fq}{mg:Str->Option Value}{base:Heap}
def Fun.ok{x a:Str}{st:Stmt}{f:Addr}{fd:FuncData}{N ps:List Str}{k:Nat}{sp:Sp}(F:Fun K x a st f fd)(S:bY N ps (bP st))(len:∀vs H Q E,sp vs H Q E->↑vs=↑ps)
  (e:∀(b:Value)(A:Around)(outer:List Env)(s:Shared)(H:Hp)(vs:List V)(Q:VK)(E:XK),Room k (A.deeper<|envOfC a (bP st) s⁻¹ f b)->sp vs H Q E-> ∃t,PSs (gM bQ P w K mg base N a (bP st) f b A outer s H E).nox (fU st) t/\t {nx:=λ_ H'=>Q .non H',rt:=Q} (mY N vs) H):aQ P w K mg base bQ (k+1) f fd ps sp:=by
 obtain⟨j,od,kV,m,l,o,b,ct,n,rfl,lk,d⟩:=F.ex;refine yQ lk d S len λA outer s H vs Q E hr i=>?_;obtain⟨t,h,q⟩:=e b A outer s H vs Q E hr i;exact⟨t,h.nox,q⟩
def Fun.binds{x a:Str}{st:Stmt}{f:Addr}{fd:FuncData}{ps:List Str}(F:Fun K x a st f fd)
  (h:∀(kV b d:Value)(i:Option Addr)(e ct:Value)(us:List Value),↑us=↑ps->bindArgs (PySem.W.fnOf x a (nG st) (fU st) (bP st) .none kV b d i e ct) ⟨us,[]⟩=pure (ps.zip us)):Binds K fd ps []:=by
 obtain⟨j,od,kV,b,d,i,e,ct,m,rfl,lk,l⟩:=F.ex;exact .all<|h kV b d i e ct
def MX{x a:Str}{st:Stmt}{f:Addr}{j:Value}{od h:Option Addr}{i:Array (Option Value)}{kV d e b ct:Value}(l:K.lookup f=some ⟨j,od,.func<|PySem.W.fnOf x a (nG st) (fU st) (bP st) .none kV d e h b ct,i⟩)
  (c:PySem.W.codeIn K b a=true) (k:PySem.W.keepIn K (.ref f)=true):Fun K x a st f (PySem.W.fnOf x a (nG st) (fU st) (bP st) .none kV d e h b ct):=⟨⟨j,od,kV,d,e,h,b,ct,i,rfl,l,c⟩,k⟩
end
def eU{A:Around}{k:Nat}(hr:Room k A):A.units+1<cLine:=Nat.lt_of_le_of_lt (Nat.add_le_add_left (by decide:1<=64) _) hr.units
def bO{n:Nat}(h:n<=1000):n<sizeLine:=Nat.lt_of_le_of_lt h (by decide)
def dJ{n:Nat}(h:Nat.ble n 1000=true):n<=sizeLine:=dM<|bO<|Nat.le_of_ble_eq_true h
def pv(i:Nat){x:Str}{pos:Pos}(b:X.N[i]?=some x:=by rfl)(d:xX X.env.scope x:=by first | exact eP rfl | exact Or.inr (eP rfl) | exact Or.inr (Or.inr rfl))(hd:(x == ("__debug__":Str))=false:=by decide)
  (a:(x == ("__classdict__":Str))=false:=by decide):PE X (.Name x pos) (aL i):=IW b d hd a
def cP{A B:Prop}(h:B):if false=true then A else B:=by
 rw[bD dX];exact h
def iV{A B:Prop}(h:A):if true=true then A else B:=by
 rw[bE rfl];exact h
def bB{c A B:Prop}[Decidable c](h1:c->A)(h2:¬c->B):if c then A else B:=by
 by_cases h:c
 .rw[bE h];exact h1 h
 .rw[bD h];exact h2 h
section
variable{κ:Type}[DecidableEq κ]
def BR{kvs:List (κ×V)}{k:κ}(h:aK kvs k=none):¬k∈kvs.map (·.1):=by
 intro m;obtain⟨p,hp,e⟩:=ws9.mp m;have q:(kvs.any λa=>decide<|a.1=k)=true:=vk3.mpr ⟨p,hp,eE e⟩;rw[oA,h]at q;exact absurd q (by simp)
def BC{kvs:List (κ×V)}{k:κ}{v:V}(h:aK kvs k=some v):k∈kvs.map (·.1):=by
 have q:(kvs.any λa=>decide<|a.1=k)=true:=by
  rw[oA,h]
  all_goals rfl
 obtain⟨p,hp,e⟩:=vk3.mp q;exact ws9.mpr ⟨p,hp,cS e⟩
theorem JE:∀{l:List κ}{k:κ},l.Nodup->¬k∈l->(l++[k]).Nodup
 | [],k,_,_=>by simp
 | a::r,k,h,hk=>by
  obtain⟨h1,h2⟩:=wv3.mp h;show(a::(r++[k])).Nodup;refine wv3.mpr ⟨λm=>?_,JE h2 λm=>hk<|wr5.mpr<|Or.inr m⟩;rcases wt2.mp m with q | q
  .exact h1 q
  .exact hk<|wr5.mpr<|eP (wr8.mp q).symm
end
def cC(env:Env):List (Str×NameKind)->List (Str×Addr)
 | []=>[]
 | (n,k)::r=>cC env r++(if k=.free then [(n,(env.cells.lookup n).getD 0)] else [])
theorem FK:∀(l:List (Str×NameKind))(a:List (Str×Addr)),(∀y∈l,y.2=.free->∃c,env.cells.lookup y.1=some c)->
  (forIn l a λ(x:Str×NameKind) (r:List (Str×Addr))=>if (x.2 == .free)=true then(do let c <-cellOf env x.1;pure (ForInStep.yield<|(x.1,c)::r):Sem (ForInStep<|List<|Str×Addr)) else pure (ForInStep.yield r))=pure (cC env l++a)
 | [],a,_=>by simp[cC]
 | (n,k)::r,a,h=>by
  rw[zJ]
  by_cases b:k=.free
  .subst b;obtain⟨c,f⟩:=h (n,.free) (by simp) rfl;have e:cellOf env n=pure c:=by unfold cellOf;rw[f]
   simp only[beq_self_eq_true,if_true,e,pure_bind];rw[FK r ((n,c)::a) λy d=>h y<|gX _ d];simp[cC,f]
  .have i:(k == NameKind.free)=false:=by simpa using b
   simp only[i,DU,iO,pure_bind];rw[FK r a λy d=>h y<|gX _ d];simp[cC,b]
def BW(h:∀y∈scope.names,y.2=.free->∃c,env.cells.lookup y.1=some c):closureFor scope env=pure (cC env scope.names):=by
 have e:=FK (env:=env) scope.names [] h;rw[fO]at e;unfold closureFor;refine Eq.trans ?_<|cM (λz=>z >>= pure) e;rfl
theorem KU:∀{l:List (Str×NameKind)},(x,c)∈cC env l->(x,NameKind.free)∈l/\c=(env.cells.lookup x).getD 0
 | [],h=>by simp[cC]at h
 | (n,k)::r,h=>by
  unfold cC at h;rcases wt2.mp h with h | h
  .obtain⟨h1,h2⟩:=KU h;exact⟨gX _ h1,h2⟩
  .by_cases a:k=.free
   .rw[bE a]at h;have e:=wr8.mp h;cases e;subst a;exact⟨by simp,rfl⟩
   .rw[bD a]at h;simp at h
theorem OP:∀{l:List (Str×NameKind)},(x,NameKind.free)∈l->(x,(env.cells.lookup x).getD 0)∈cC env l
 | [],h=>by simp at h
 | (n,k)::r,h=>by
  unfold cC;rcases wr5.mp h with h | h
  .cases h;exact fW _ (by simp)
  .exact qQ _<|OP h
theorem MP:∀{l:List (Str×Addr)},(x,v)∈l->(∀w,(x,w)∈l->w=v)->l.lookup x=some v
 | [],h,_=>by simp at h
 | (n,w)::r,h,u=>by
  rw[yE]
  by_cases e:x=n
  .subst e;simp[u w<|by simp]
  .have a:(x == n)=false:=by simpa using e
   rw[a];rcases wr5.mp h with h | h
   .cases h;exact absurd rfl e
   .exact MP h λb d=>u b<|gX _ d
def XY(h:(x,NameKind.free)∈l):(cC env l).lookup x=some ((env.cells.lookup x).getD 0):=
 MP (OP h) λw a=>(KU a).2
def cZ(X:Cx)(scope:Scope)(N':List Str)(s3:Shared)(H3:Hp)(C:Addr)(fp:List Addr):Cx:=
 {X with N:=N',s₀:=s3,H₀:=H3,env:=compEnvC scope (cC X.env scope.names) C X.env,outer:=X.stack,stack:=X.stack,ex:=fp,fn:=λx=>((cC X.env scope.names).lookup x).isNone,pn:=[],xe:=λ_ _=>False}
structure BlkN(X:Cx)(scope:Scope)(N':List Str)(src:List (Option Nat)):Prop where
 kind:scope.kind=.function
 nocell:(scope.names.all λy=>decide<|y.2≠.cell)=true
 locs:(scope.names.all λy=>decide<|y.2=.local->scope.names.lookup y.1=some .local)=true
 frees:(scope.names.all λy=>decide<|y.2=.free->X.env.kindOf y.1=some .cell\/X.env.kindOf y.1=some .free)=true
 slen:↑src=N'.length
 cap:((N'.zip src).all λp=>match p.2 with | some j=>decide (X.N[j]?=some p.1) && decide ((p.1,NameKind.free)∈scope.names) | none=>true)=true
def sub(src:List (Option Nat))(σ:St):St:=src.map λo=>o.bind λj=>(σ[j]?).join
def NY(h:(relabel scope env).names.lookup x=some k):(x,k)∈scope.names\/(k=.cell/\(x,NameKind.free)∈scope.names):=by
 have m:=oI h;obtain⟨⟨n,b⟩,a,e⟩:=ws9.mp m;dsimp only at e
 split at e
 .rename_i hc
  cases e;have:b=.free:=by
   simp only[oD,beq_iff_eq]at hc;exact hc.1.1
  subst this;exact .inr ⟨rfl,a⟩
 .cases e;exact .inl a
theorem RH{env:Env}:∀{names:List (Str×NameKind)},(x,NameKind.free)∈names->(∀k,(x,k)∈names->k≠.local/\k≠.globalExplicit/\k≠.globalImplicit/\k≠.cell)->
  let q:=(names.map λ(n,k)=>if (k == NameKind.free && env.scope.kind == .function && env.kindOf n == some .cell) then(n,NameKind.cell) else(n,k)).lookup x
  q=some .cell\/q=some .free
 | [],h,_=>by simp at h
 | (n,k)::r,h,u=>by
  intro q;show List.lookup x ((if (k == NameKind.free && env.scope.kind == .function && env.kindOf n == some .cell)=true then(n,NameKind.cell) else(n,k))::_)=_\/List.lookup x ((if (k == NameKind.free && env.scope.kind == .function && env.kindOf n == some .cell)=true then(n,NameKind.cell) else(n,k))::_)=_
  by_cases e:x=n
  .subst e;obtain⟨o,m,s,l⟩:=u k (by simp);have i:k=.free:=by cases k <;> simp_all
   subst i
   by_cases a:(NameKind.free == NameKind.free && env.scope.kind == .function && env.kindOf x == some .cell)=true
   .rw[bE a];left;simp[yE]
   .rw[bD a];right;simp[yE]
  .have b:(x == n)=false:=by simpa using e
   have d:=RH (env:=env) (names:=r) (x:=x) ((wr5.mp h).resolve_left λz=>e<|by cases z;rfl) λj f=>u j<|gX _ f
   split
   .simp only[yE,b];exact d
   .simp only[yE,b];exact d
section
variable{scope:Scope}{N':List Str}{src:List (Option Nat)}{pins:List (Addr×Obj)}{σ:St}{H3:Hp}{s3 s4:Shared}{C:Addr}{fp:List Addr}
theorem BlkN.cells(B:BlkN X scope N' src)(ok:X.Ok)(h:(x,NameKind.free)∈scope.names):∃c,X.env.cells.lookup x=some c/\(cC X.env scope.names).lookup x=some c:=by
 have q:=cS<|ww4.mp B.frees (x,.free) h;obtain⟨c,a⟩:=ok.has x<|q rfl;exact⟨c,a,by rw[XY h,a];rfl⟩
def BlkN.back(B:BlkN X scope N' src)(ok:X.Ok)(h:(cC X.env scope.names).lookup x=some c):X.env.cells.lookup x=some c/\(x,NameKind.free)∈scope.names:=by
 obtain⟨h1,h2⟩:=KU<|oI h;obtain⟨c',b,a⟩:=B.cells ok h1;rw[h]at a;cases a;exact⟨b,h1⟩
def BlkN.captured(B:BlkN X scope N' src){i j:Nat}{x:Str}(h1:N'[i]?=some x)(h2:src[i]?=some (some j)):X.N[j]?=some x/\(x,NameKind.free)∈scope.names:=by
 have hz:(N'.zip src)[i]?=some (x,some j):=by
  rw[DB];exact⟨h1,h2⟩
 have q:=ww4.mp B.cap (x,some j)<|dC hz;have a:(decide (X.N[j]?=some x) && decide ((x,NameKind.free)∈scope.names))=true:=q;rw[oD]at a;exact⟨cS a.1,cS a.2⟩
def QA(B:BlkN X scope N' src)(I:Inv X pins σ H3 s3)(n:∀b∈fp,dN X pins H3 b)(E:∀b∈fp,b<s3⁻¹)(w:∀x k,(x,k)∈scope.names->k=.free->∀k',(x,k')∈scope.names->k'=.free)
  (J:C=s3⁻¹) (M:s4.heap.Ns C (λ_=>none)) (l:∀b o,s3.heap.get? b=some o->s4.heap.get? b=some o) (A:s4.os=s3.os) (L:s4.gens=s3.gens):
  Inv (cZ X scope N' s3 H3 C fp) [] (sub src σ) H3 s4:=by
 subst J;have ok:=I.ok;exists ⟨ok.mod,B.kind,ok.glob,ok.blt,aY _,λx y c h1 h2=>?_,λx h=>?_,λx c h1 h2=>?_,ok.hd,ok.frames,.inl rfl,λb a=>⟨bV<|E b a,λx c h=>?_⟩,I.bs,gF ok.bsz I.sz,λb o e a=>?_,λb a hs=>?_,I.stack,I.stkFree⟩,
  A,?_,Un.kept l,⟨_,M,λi x v h1 h2 Y=>?_⟩,λx c h=>?_,I.hok.fresh<|aY _,λx c h=>I.freeC x c (B.back ok h).1,λp hp=>absurd (show p∈([]:List (Addr×Obj)) from hp) (by simp),I.hok.kept l
 .exact ok.inj x y c (B.back ok h1).1 (B.back ok h2).1
 .have h:(relabel scope X.env).names.lookup x=some .cell\/(relabel scope X.env).names.lookup x=some .free:=h;have f:(x,NameKind.free)∈scope.names:=by
   rcases h with h | h
   .rcases NY h with q | ⟨_,q⟩
    .exact absurd rfl<|cS<|ww4.mp B.nocell _ q
    .exact q
   .rcases NY h with q | ⟨z,_⟩
    .exact q
    .cases z
  obtain⟨c,_,e⟩:=B.cells ok f;exact⟨c,e⟩
 .have h1:((cC X.env scope.names).lookup x).isNone=true:=h1;have h2:(cC X.env scope.names).lookup x=some c:=h2;rw[h2]at h1;simp at h1
 .exact(n b a).2.2.2.2.1 x c (B.back ok h).1
 .rcases(n b a).2.2.2.1 with z | z
  .exact ok.noex b o e z
  .exact absurd (fC (bN e)<|gF ok.bsz z)<|hC _
 .rcases wr5.mp (I.stkSub b hs)with z | z
  .exact(n b a).2.1 z
  .exact(n b a).2.2.1 z
 .rw[L];exact I.bare
 .have s:∃j,src[i]?=some (some j)/\σ[j]?=some (some v):=by
   have h2:(src.map λo=>o.bind λj=>(σ[j]?).join)[i]?=some (some v):=h2;rw[bZ]at h2;cases e:src[i]? with
   | none=>rw[e]at h2;cases h2
   | some o=>
    rw[e]at h2;cases o with
    | none=>cases h2
    | some j=>
     exists j,rfl;have h2:some ((σ[j]?).join)=some (some v):=h2;cases e2:σ[j]? with
     | none=>rw[e2]at h2;cases h2
     | some z=>rw[e2]at h2;cases z with
      | none=>cases h2
      | some z=>cases h2;rfl
  obtain⟨j,P,W⟩:=s;obtain⟨H,f⟩:=B.captured h1 P;obtain⟨c,T,K⟩:=B.cells ok f;have r:=cS (ww4.mp B.frees _ f) rfl;obtain⟨m,_,hl⟩:=I.loc;have N:xX X.env.scope x:=by
   rcases r with z | z
   .exact .inr<|.inl z
   .exact .inr<|.inr z
  obtain⟨u,G,lk⟩:=hl j x v H W N;refine⟨u,G,.inr ⟨?_,c,K,?_⟩⟩
  .exact RH f λk O=>by
    have:=w x .free f rfl k O;subst this;exact⟨by decide,by decide,by decide,by decide⟩
  .rcases lk with ⟨z,_⟩ | ⟨_,c',e',⟨o,eo,ed⟩⟩
   .rcases r with y | y <;> (rw[z]at y;cases y)
   .rw[T]at e';cases e';exact⟨o,l _ _ eo,ed⟩
 .obtain⟨v,o,e,d⟩:=I.cell x c (B.back ok h).1;exact⟨v,o,l _ _ e,d⟩
 .show(sub src σ).length=N'.length;unfold sub;rw[aI];exact B.slen
end
def XE(I:Nat->Shared->Prop) (turn:∀n s,I n s->wpAny (model prog w) A (pyNext it) (λr a=>match r with
   | none=>R (.ok .next) a
   | some v=>wpAny (model prog w) A (letOwnedTupleGo target it v) (λ_ a=>wpAny (model prog w) A (assign target env v) (λ_ f=>
     wpAny (model prog w) A (forIn ifs true λc r=>if r=true then do let ok <-isTrue c env (eval c env);pure (ForInStep.yield ok) else pure (ForInStep.yield r)) (λok d=>
      if ok=true then wpAny (model prog w) A (eval elt env) (λx i=>
       wpAny (model prog w) A (call (.builtin "list.append") [acc,x]) (λ_ e=>∃m,m<n/\I m e) (λ_ _=>False) i) (λ_ _=>False) d
      else ∃m,m<n/\I m d) (λ_ _=>False) f) (λ_ _=>False) a) (λ_ _=>False) a) (λ_ _=>False) s) (n:Nat) (h:I n s):
  codeAny (model prog w) A (.compLoop (.ListComp elt [⟨target,iter,ifs,0⟩] scope pos) 0 it acc env) R s:=by
 refine codeAny_loop rfl I (λn s o=>?_) n h;show wpAny _ A ((compTurn (.ListComp elt [⟨target,iter,ifs,0⟩] scope pos) 0 it acc env).onRaise (λx=>do noteFrame x env;theTreesLotGoes x)) _ _ s;refine wpAny_noted ?_;rw[compTurn_list];refine aF<|rA<|aF<|fF (turn n s o) (λr a b=>?_) λ_ _ h'=>h'.elim;cases r with
 | none=>exact bF b
 | some v=>
  refine aF<|fF b (λ_ a b=>?_) λ_ _ h'=>h'.elim;refine aF<|fF b (λ_ f q=>aF<|fF q (λok d j=>?_) λ_ _ h'=>h'.elim) λ_ _ h'=>h'.elim;cases ok with
  | false=>exact bF ⟨rfl,j⟩
  | true=>
   exact aF<|aF<|fF j (λx i l=>aF<|fF l (λ_ e u=>bF<|bF ⟨rfl,u⟩) λ_ _ h'=>h'.elim) λ_ _ h'=>h'.elim
def oG(X:Cx)(ifs:List Expr)(t:TT):Prop:=
 ∀(pins:List (Addr×Obj))(s:Shared)(σ:St)(H:Hp)(Q:Bool->Hp->Prop),Inv X pins σ H s->t σ H Q->
  wpAny (model X.prog X.w) X.A (forIn ifs true λc r=>if r=true then do let ok <-isTrue c X.env (eval c X.env);pure (ForInStep.yield ok) else pure (ForInStep.yield r)) (TP X pins σ Q) X.xe s
def lS:TT:=λ_ H Q=>Q true H
def gT:oG X [] lS:=λ_ _ _ H _ I h=>wpAny_tests_nil ⟨H,I,h⟩
def vI(h:PT X c t):oG X [c] t:=λa s σ H Q I q=>wpAny_tests_one<|h a s σ H Q I q
def nA(J:It)(g:TG)(tt:TT)(te:TE)(D:Addr)(σ0:St)(H0:Hp)(Q:Hp->Prop):Prop:=
 ∃W:Nat->Nat->St->Hp->Prop,(∃m,W 0 m σ0 H0)/\∀i m σ H,W i m σ H->
 (J.stop i H/\Q H)\/(J.go i H/\∃N:St->Hp->Prop,(∀σ' H',N σ' H'->∃m',m'<m/\W (i+1) m' σ' H')/\∀x H',J.yld i H x H'->g x σ H' λσ2 H2=>tt σ2 H2 λb H3=>
  if b=true then te σ2 H3 λv H4=>∃xs,H4 D=some (.lst xs)/\↑xs<sizeLine/\N σ2 (upd H4 D<|.lst<|xs++[v]) else N σ2 H3)
section
variable{scope:Scope}{N':List Str}{src:List (Option Nat)}{pins:List (Addr×Obj)}{σ:St}{H2:Hp}{s2:Shared}
def SG{ag tg a8:Expr}{af:List Expr}{pos:Pos}{it:Addr}{fp:List Addr}{N:Nat->Heap->Prop}{J:It}{g:TG}{tt:TT}{te:TE}{Q:Addr->Hp->Prop}
  {RR:Value->Addr->Result->Shared->Prop} {E:Vp} (hc:X.calm=true)
  (B:BlkN X scope N' src) (b0:∀x k,(x,k)∈scope.names->k=.free->∀k',(x,k')∈scope.names->k'=.free) (T:eO X.prog X.w X.K tg J fp it N) (I:Inv X pins σ H2 s2) (h0:N 0 s2.heap) (G:∀b∈fp,dN X pins H2 b)
  (hg:∀s3 H3 C,PG (cZ X scope N' s3 H3 C fp) tg g) (ht:∀s3 H3 C,oG (cZ X scope N' s3 H3 C fp) af tt) (he:∀s3 H3 C,PE (cZ X scope N' s3 H3 C fp) ag te)
  (hw:∀D,H2 D=none->nA J g tt te D (sub src σ) (upd H2 D<|.lst []) (Q D))
  (hQ:∀D C H' s',C≠D->(∃m,s'.heap.Ns C m)->(∀ae ,Heap.SameBut C s'.heap ae->Inv X pins σ H' {s' with heap:=ae})->Inv X pins σ H' s'->H' C=none->C≠X.env.locals->(∀x c,X.env.cells.lookup x=some c->c≠C)->X.s₀⁻¹<=C->(∀p∈X.pn++pins,p.1≠C)->Q D H'->RR (.ref D) C (.ok .next) s'):
  wpAny (model X.prog X.w) X.A (newList []) (λai M=>wpAny (model X.prog X.w) X.A (newFunctionEnv scope X.env.globals (cC X.env scope.names) [] X.env.qual none .none<|some X.env) (λa7 s₄=>
   codeAny (model X.prog X.w) X.A (.compStart (.ListComp ag [⟨tg,a8,af,0⟩] scope pos) 0 (.ref it) ai {a7 with scope:=relabel scope X.env}) (RR ai a7.locals) s₄) E M) E s2:=by
 have a9:∀y∈scope.names,y.2≠.cell:=λy hy=>cS<|ww4.mp B.nocell y hy;refine kF<|wpAny_newFunctionEnv a9 (by intro y hy;simp at hy) (λP a5 a3=>?_) B.kind;dsimp only at a5 a3 ⊢;have b2:H2 s2⁻¹=none:=I.hok.fresh<|aY _;have l:Inv X pins σ (upd H2 s2⁻¹<|.lst []) {s2 with heap:=s2.heap.push {cls:=.type "list",dict:=none,data:=.seq ([]:List Value).toArray}}:=
  I.laid (t':=s2.toks) (λb o e=>bS _ e) (aY _) ⟨bT _,[],_,.nil,dD _ rfl⟩
 generalize hH3:(s2.heap.push {cls:=.type "list",dict:=none,data:=.seq ([]:List Value).toArray})=f at a5 a3 l ⊢;have ad:f.objs.size=s2⁻¹+1:=by rw[<-hH3,nI]
 have a2:∀b o,s2.heap.get? b=some o->f.get? b=some o:=λb o e=>by rw[<-hH3];exact bS _ e
 have a1:∀b o,f.get? b=some o->P.get? b=some o:=λb o e=>a3.extBut b o (bV<|bN e)<|bS _ e;have a4:s2⁻¹<f.objs.size:=by rw[ad];exact vZ _
 have am:∀b∈fp,dN X pins (upd H2 s2⁻¹<|.lst []) b:=λb j=>by
  obtain⟨o,e,_⟩:=T.obj _ _ h0 b j;refine⟨?_,(G b j).2⟩;rw[aC<|bV<|bN e];exact(G b j).1
 have a6:∀b∈fp,b<f.objs.size:=λb j=>by
  obtain⟨o,e,_⟩:=T.obj _ _ h0 b j;exact gI (bN e) a4
 have au:=QA (fp:=fp) (C:=f.objs.size) (s4:={s2 with heap:=P,toks:=s2.toks+↑([]:List (Str×Value))}) B l am a6 b0 rfl a5 a1 rfl rfl;have ao:N 0 P:=T.keep _ _ _ h0 λb j o e=>a1 b o<|a2 b o e;obtain⟨W,⟨m0,w0⟩,turn⟩:=hw s2⁻¹ b2;have ac:∀{H':Hp},(∀b∈fp,H' b=none)->∀b∈fp,dN (cZ X scope N' {s2 with heap:=f} (upd H2 s2⁻¹<|.lst []) f.objs.size fp) [] H' b:=λhn b j=>by
  refine⟨hn b j,bV<|a6 b j,?_,.inl j,λx c h=>(G b j).2.2.2.2.1 x c (B.back I.ok h).1,λp hp=>absurd (show p∈([]:List (Addr×Obj)) from hp)<|by simp⟩;intro z;rcases wr5.mp (l.stkSub b z)with y | y
  .exact(G b j).2.1 y
  .exact(G b j).2.2.1 y
 have fin:∀(s':Shared)(σ':St)(H':Hp),Inv (cZ X scope N' {s2 with heap:=f} (upd H2 s2⁻¹<|.lst []) f.objs.size fp) [] σ' H' s'->Q s2⁻¹ H'->RR (.ref s2⁻¹) f.objs.size (.ok .next) s':=λs' σ' H' L q=>by
  obtain⟨hh,gg,dd,ab,as⟩:=s';have aw:as=s2.os:=L.os;subst aw;have IX:Inv X pins σ H' {({s2 with heap:=f}:Shared)with heap:=hh,gens:=gg,drawn:=dd,toks:=ab}:=Inv.call (s:={s2 with heap:=f}) l (h':=hh) (g':=gg) (d':=dd) (t':=ab) (ch:=fp) L.base L.hok L.bare λb j=>⟨(G b j).2.2.2.1,(G b j).2.1,(G b j).2.2.2.2.1,(G b j).2.2.2.2.2⟩;have b5:s2⁻¹<=f.objs.size:=dM a4;have ap:f.objs.size≠X.env.locals:=dI l.lt;have an:∀x c,X.env.cells.lookup x=some c->c≠f.objs.size:=λx c e z=>by
   obtain⟨v,q⟩:=l.cell x c e;exact absurd (show c<f.objs.size from q.lt) (by rw[z];exact hC _)
  have ak:∀p∈X.pn++pins,p.1≠f.objs.size:=λp hp z=>by
   have:=bN (l.pin p hp).1;exact absurd (show p.1<f.objs.size from this) (by rw[z];exact hC _)
  have ah:H' f.objs.size=none:=L.free;obtain⟨m,hm,_⟩:=L.loc;refine hQ _ _ H' _ (dI a4) ⟨m,hm⟩ (λae sb=>?_) IX ah ap an (gF l.sz<|aY _) ak q;exact IX.turned (t':=ab) (λb o j e=>(sb.2 b j).trans e) ah ap (.inr<|gF l.sz<|aY _) an ak
 have H:∀M:Shared,M={s2 with heap:=P,toks:=s2.toks+↑([]:List (Str×Value))}->
   codeAny (model X.prog X.w) X.A (.compLoop (.ListComp ag [⟨tg,a8,af,0⟩] scope pos) 0 (.ref it) (.ref s2⁻¹)<|compEnvC scope (cC X.env scope.names) f.objs.size X.env)
    (RR (.ref s2⁻¹) f.objs.size) M:=by
  rintro M rfl;refine XE (λn s'=>∃i σ' H',Inv (cZ X scope N' {s2 with heap:=f} (upd H2 s2⁻¹<|.lst []) f.objs.size fp) [] σ' H' s'/\N i s'.heap/\(∀b∈fp,H' b=none)/\W i n σ' H') ?_ m0 ⟨0,_,_,au,ao,λb j=>(am b j).1,w0⟩;rintro n s5 ⟨i,σ5,Y,I5,aj,al,w5⟩;rcases turn i n σ5 Y w5 with ⟨stop,qn⟩ | ⟨go,Nx,hN,step⟩
  .refine aX (T.done (cZ X scope N' {s2 with heap:=f} (upd H2 s2⁻¹<|.lst []) f.objs.size fp) rfl rfl rfl hc i [] s5 σ5 Y _ I5 (ac al) aj stop) ?_;rintro r s6 ⟨hr,I6⟩;subst hr;exact fin s6 σ5 Y I6 qn
  .refine aX (T.item (cZ X scope N' {s2 with heap:=f} (upd H2 s2⁻¹<|.lst []) f.objs.size fp) rfl rfl rfl hc i [] s5 σ5 Y _ I5 (ac al) aj go) ?_;rintro r s6 ⟨u,hr,h6⟩;subst hr;refine aX h6 ?_;rintro _ s7 ⟨x,H7,I7,r7,y7,aa,ax⟩;have ar:=I7.pinned (ac ax)<|T.obj _ _ aa;refine aX (hg _ _ _ _ s7 σ5 H7 x u _ ar r7<|step x H7 y7) ?_;rintro _ s8 ⟨σ8,H8,I8,q8⟩;refine aX (ht _ _ _ _ s8 σ8 H8 _ I8 q8) ?_;rintro ok s9 ⟨H9,I9,q9⟩;have again:∀{σa:St}{O:Hp}{Z:Shared},Inv (cZ X scope N' {s2 with heap:=f} (upd H2 s2⁻¹<|.lst []) f.objs.size fp) ([]++vF fp s7.heap) σa O Z->Nx σa O->
     ∃m,m<n/\∃i σ' H',Inv (cZ X scope N' {s2 with heap:=f} (upd H2 s2⁻¹<|.lst []) f.objs.size fp) [] σ' H' Z/\N i Z.heap/\(∀b∈fp,H' b=none)/\W i m σ' H':=λ{σa O Z} Ia na=>by
    obtain⟨m',hm,wa⟩:=hN σa O na;refine⟨m',hm,i+1,σa,O,Ia.unpinned,T.keep _ _ _ aa λb j o e=>(Ia.pin (b,o)<|fW _<|fW _<|vA j e).1,λb j=>?_,wa⟩;obtain⟨o,e,d⟩:=T.obj _ _ aa b j;exact(Ia.pin (b,o)<|fW _<|fW _<|vA j e).2.1
   cases ok with
   | false=>exact again I9 q9
   | true=>
    refine aX (he _ _ _ _ s9 σ8 H9 _ I9 q9) ?_;rintro y ay ⟨v,b1,b3,aq,xs,hx,hl,az⟩;refine aX (fL (X:=cZ X scope N' {s2 with heap:=f} (upd H2 s2⁻¹<|.lst []) f.objs.size fp) _ ay σ8 b1 (.ref s2⁻¹) [v] (.ref s2⁻¹) [y] (λ_ H'=>Nx σ8 H') b3 rfl (.cons aq .nil) ⟨_,xs,v,rfl,rfl,hx,hl,az⟩) ?_;rintro _ b7 ⟨_,b6,av,_,b4⟩;exact again av b4
 exact codeAny_compStart_list (H _ rfl)<|T.self _ 0 _ _ _ ao<|H _ rfl
def BS(wi:TI)(src:List (Option Nat))(g:TG)(tt:TT)(te:TE):TE:=λσ H Q=>wi σ H λJ H2=>∀D,H2 D=none->nA J g tt te D (sub src σ) (upd H2 D<|.lst []) λH'=>Q (.ref D) H'
def jZ(Z:X.calm=true)(B:BlkN X scope N' src)(hi:PI X tg iter wi)(L:∀s3 H3 C fp,PG (cZ X scope N' s3 H3 C fp) tg g)(Y:∀s3 H3 C fp,oG (cZ X scope N' s3 H3 C fp) ifs tt)(he:∀s3 H3 C fp,PE (cZ X scope N' s3 H3 C fp) elt te)(n:(scope.names.all λy=>decide (y.2=.free->∀z∈scope.names,z.1=y.1->z.2=.free))=true:=by rfl')(hs:∀x,foldedSetIterable iter X.env x=pure x:=by intro _;rfl):
  PE X (.ListComp elt [⟨tg,iter,ifs,0⟩] scope pos) (BS wi src g tt te):=by
 intro j s σ H Q I h;have u:∀x k,(x,k)∈scope.names->k=.free->∀e,(x,e)∈scope.names->e=.free:=λx k d r e o=>cS (ww4.mp n (x,k) d) r (x,e) o rfl;have l:closureFor scope X.env=pure (cC X.env scope.names):=BW λy f i=>I.ok.has y.1<|cS (ww4.mp B.frees y f) i;have N:∀y∈scope.names,y.2=.local->scope.names.lookup y.1=some .local:=λy f=>cS<|ww4.mp B.locs y f;rw[eval_ListComp];refine BD (use:=none) rfl hs l B.kind N<|aX (hi j s σ H _ I h) λxv s₁ M=>aX M λad s2 h2=>?_;obtain⟨it,fp,tn,J,H2,rfl,O,T,h0,i,G⟩:=h2;refine SG (RR:=λK C=>compPost (model X.prog X.w) X.A X.xe none (EP X j σ Q) K C) (Q:=λD H'=>Q (.ref D) H') Z B u T O h0 i (λa b c=>L a b c fp) (λa b c=>Y a b c fp) (λa b c=>he a b c fp) G ?_;intro D C H' s' ab d P IX a9 ae ac aa af q;obtain⟨m,d⟩:=d;exact⟨m,d,λE W=>⟨.ref D,H',P E W,rfl,q⟩⟩
def tL(hc:X.calm=true)(hN:X.N.Nodup)(W:X.N[i]?=some y)(f:X.env.scope.names.lookup y=some .local)(B:BlkN X scope N' src)(hi:PI X tg iter wi)(hg:∀s3 H3 C fp,PG (cZ X scope N' s3 H3 C fp) tg g)(ht:∀s3 H3 C fp,oG (cZ X scope N' s3 H3 C fp) ifs tt)(he:∀s3 H3 C fp,PE (cZ X scope N' s3 H3 C fp) elt te)(ae:swapsWith (.ListComp elt [⟨tg,iter,ifs,0⟩] scope pos) (some<|.Name y py) spos.line X.env=pure true:=by rfl)(ac:(scope.names.all λy=>decide (y.2=.free->∀z∈scope.names,z.1=y.1->z.2=.free))=true:=by rfl')(hs:∀x,foldedSetIterable iter X.env x=pure x:=by intro _;rfl):
  PS X (.Assign [.Name y py] (.ListComp elt [⟨tg,iter,ifs,0⟩] scope pos) spos) (fN (BS wi src g tt te)<|cG i):=by
 intro n s σ H D I h;have a4:∀x k,(x,k)∈scope.names->k=.free->∀l,(x,l)∈scope.names->l=.free:=λx k j L l aa=>cS (ww4.mp ac (x,k) j) L (x,l) aa rfl;have O:closureFor scope X.env=pure (cC X.env scope.names):=BW λy f r=>I.ok.has y.1<|cS (ww4.mp B.frees y f) r;have a0:∀y∈scope.names,y.2=.local->scope.names.lookup y.1=some .local:=λy f=>cS<|ww4.mp B.locs y f;rw[exec_Assign_Name_used _ _ _ _ ae];refine aF<|rA<|aF ?_;show wpAny _ X.A (do let _ <-comprehension (.ListComp elt [⟨tg,iter,ifs,0⟩] scope pos) scope X.env _ (newList []) false (eval iter X.env) (some<|assign (.Name y py) X.env)) _ _ s;have h':wi σ H λJ H2=>∀d,H2 d=none->nA J g tt te d (sub src σ) (upd H2 d<|.lst []) λH'=>D.nx (σ.set i<|some<|.ref d) H':=h;refine aF<|fF (BD (use:=some<|assign (.Name y py) X.env) (Q:=λ_ s'=>SP X n D .next s') rfl hs O B.kind a0<|aX (hi n s σ H _ I h') λxv s₁ Z=>aX Z λam s2 h2=>?_) (λ_ s' hq=>bF<|bF hq) λ_ _ e=>e
 obtain⟨it,fp,tn,J,H2,rfl,I2,T,h0,r,P⟩:=h2;refine SG (RR:=λa9 C=>compPost (model X.prog X.w) X.A X.xe (some<|assign (.Name y py) X.env) (λ_ s'=>SP X n D .next s') a9 C) (Q:=λd H'=>D.nx (σ.set i<|some<|.ref d) H') hc B a4 T I2 h0 r (λa b c=>hg a b c fp) (λa b c=>ht a b c fp) (λa b c=>he a b c fp) P ?_;intro d C H' s' aj j ak IX a7 u E a8 M q;obtain⟨m,j⟩:=j;show wpAny _ X.A (assign (.Name y py) X.env<|.ref d) _ _ _;refine wpAny_assign_Name ?_;refine JZ (v:=.ref d) IX hN W (.inl f) rfl (λY ah a2=>?_)<|.inr f;obtain⟨a,ai,G⟩:=a2;have K:C≠a:=by
  rintro rfl;rcases G with z | z
  .exact u z
  .exact E _ _ z rfl
 refine⟨m,j.sameBut ai K,λal sb=>⟨_,H',?_,q⟩⟩;exact ah.turned (t':=Y.toks) (λb o hb e=>(sb.2 b hb).trans e) a7 u (.inr a8) E M
end
section
variable{pins:List (Addr×Obj)}{σ:St}{H:Hp}{s:Shared}{a:Addr}{o:Obj}{u:HO}
def Am(ok:HOk P w H h)(e:H a=some u)(f:∀xs,u≠.tup xs)(i:∀y,u≠.own y)(new:ObjOk P w (upd H a v) h a v):HOk P w (upd H a v) h:=λb z q=>by
 by_cases d:b=a
 .subst d;rw[zb1]at q;cases q;exact new
 .rw[aC d]at q;refine(ok b z q).stay (λc j _ r=>r) (λc r=>?_) λc xs r=>?_
  .rw[aC];exact r;rintro rfl;rw[e]at r;cases r;exact i _ rfl
  .rw[aC];exact r;rintro rfl;rw[e]at r;cases r;exact f _ rfl
def Inv.swap(I:Inv X pins σ H s)(e:H a=some u)(f:∀xs,u≠.tup xs)(o:∀y,u≠.own y)(j:∀ps,u≠.tbl ps)(hz:∀d y,X.H₀ a≠some (.frz d y))(new:ObjOk X.prog X.w (upd H a v) s.heap a v):Inv X pins σ (upd H a v) s:=by
 have ne:∀b,H b=none->b≠a:=λb n z=>by subst z;rw[e]at n;cases n
 refine⟨I.ok,I.os,I.bare,⟨I.base.keep,I.base.slot,λb d q n l=>?_,I.base.there,λb xs q=>?_,λb d y q=>?_,λb ps q=>?_⟩,I.loc,I.cell,?_,λx c h=>?_,λp hp=>?_,Am I.hok e f o new,I.len⟩
 .have:=I.base.free b d q n l;rw[aC<|ne b this];exact this
 .have:=I.base.tups b xs q;rw[aC];exact this;rintro rfl;rw[e]at this;cases this;exact f _ rfl
 .have:=I.base.frzs b d y q;rw[aC];exact this;rintro rfl;exact hz _ _ q
 .obtain⟨m,this⟩:=I.base.tbls b ps q;exists m;rw[aC];exact this;rintro rfl;rw[e]at this;cases this;exact j _ rfl
 .rw[aC<|ne _ I.free];exact I.free
 .rw[aC<|ne _<|I.freeC x c h];exact I.freeC x c h
 .obtain⟨h1,h2,i⟩:=I.pin p hp;exact⟨h1,by rw[aC<|ne _ h2];exact h2,i⟩
def Inv.unfrozen(I:Inv X pins σ H s)(e:H a=some (.dK kvs)):∀b y,X.H₀ a≠some (.frz b y):=λb y q=>by
 have:=I.base.frzs a b y q;rw[e]at this;cases this
def Inv.freeze(I:Inv X pins σ H s)(e:H a=some (.dK kvs))(b:s.heap.get? a=some o):Inv X pins σ (upd H a<|.frz o<|.dK kvs) s:=
 I.swap e (λ_ h=>nomatch h) (λ_ h=>nomatch h) (λ_ h=>nomatch h) (I.unfrozen e) ⟨b,I.hok a _ e⟩
def Inv.thaw(I:Inv X pins σ H s)(e:H a=some (.frz o<|.dK kvs))(hz:∀ob y,X.H₀ a≠some (.frz ob y)):Inv X pins σ (upd H a<|.dK kvs) s:=
 I.swap e (λ_ h=>nomatch h) (λ_ h=>nomatch h) (λ_ h=>nomatch h) hz (I.hok a _ e).2
end
def oB(ok:Hp->Prop)(xs:List V):It:=⟨λi H=>ok H/\i<↑xs,λi H x H'=>H'=H/\xs[i]?=some x,λi H=>ok H/\↑xs<=i⟩
def DJ(a:Addr)(o:Obj)(kvs:List (aJ×V))(H:Hp):Prop:=H a=some (.frz o<|.dK kvs)
def KV.get(r:KV kvs vs):∀{i:Nat}{k:aJ}{x:Value},vs[i]?=some (k,x)->∃v,kvs[i]?=some (k,v)/\RelV v x:=by
 unfold KV at r
 induction r with
 | nil=>intro i k x h;simp at h
 | @cons p q ps qs h t ih=>
  intro i k x a;cases i with
  | zero=>
   simp at a;subst a;obtain⟨b,p2⟩:=p;obtain⟨h1,h2⟩:=h;have h1:b=k:=h1;subst h1;exact⟨p2,by simp,h2⟩
  | succ i=>simpa using ih (by simpa using a)
def IZ{P:Program}{w:World}{h:Heap}{a:Addr}{o:Obj}{kvs:List (aJ×V)}(f:h.get? a=some o)(d:∃vs,KV kvs vs/\h.DictOf (cI P w) a vs):
  ∃vs ep,KV kvs vs/\∀h':Heap,h'.get? a=some o->h'.DictAt (cI P w) a vs ep:=by
 obtain⟨vs,r,o',es,ep,e,q⟩:=d;rw[f]at e;cases e;exact⟨vs,ep,r,λh' b=>⟨o,es,b,q⟩⟩
def VR{P:Program}{w:World}{K:Fq}{tg:Expr}{o:Obj}{kvs:List (aJ×V)}{vs:List (aJ×Value)}{ep:Nat}(a it:Addr)(a4:a≠it)(r:KV kvs vs)(hd:∀h':Heap,h'.get? a=some o->h'.DictAt (cI P w) a vs ep):
  eO P w K tg (oB (DJ a o kvs)<|kvs.map λkv=>kV kv.1) [it] it (λi h=>h.IsKeyIter it a i ↑vs ep) where
 mem:=by simp
 obj:=λi h st b f=>by
  have e:b=it:=by simpa using f
  subst e;obtain⟨o,e,c,d⟩:=st;exact⟨o,e,λv z=>by rw[d]at z;cases z⟩
 keep:=λi h h' st k=>st.at λo e=>k it (by simp) o e
 item:=by
  intro X q C u N i T s σ H E I j st J;subst q C u;obtain⟨hz,hi⟩:=J;have B:=(I.hok a _ hz).1;obtain⟨G,M,f2,L,m,l⟩:=j it (by simp);have hl:i<↑vs:=by rw[<-↑r];simpa using hi
  have W:=Walks.dictKeys (prog:=X.prog) (w:=X.w) (knd:=cI X.prog X.w) (A:=X.A) (I.ok.hd N) it a a4 vs ep;refine W.item i s _ _ hl ⟨st,hd _ B⟩ λv h' tk hv O Y=>?_;obtain⟨k,x,hx,hk⟩:=hv;have Z:Inv X T σ H {s with heap:=h',toks:=tk}:=I.turned (λb o f e=>Y b o (by simpa using f) e) G M L m l;obtain⟨o',e',c',d'⟩:=id O.1;obtain⟨v',a3,_⟩:=r.get hx;refine⟨_,rfl,oK (s:={s with heap:=h',toks:=tk}) e' c' d' (by decide) ⟨kV k,H,Z,?_,⟨rfl,by rw[bZ,a3];rfl⟩,O.1,λb f=>(j b f).1⟩⟩;rcases iI hk with ⟨n,t,rfl,rfl⟩ | ⟨n,t,rfl,rfl⟩
  .exact⟨t,rfl⟩
  .exact⟨t,rfl⟩
 done:=by
  intro X q C u N i T s σ H E I j st J;subst q C u;obtain⟨hz,hi⟩:=J;have B:=(I.hok a _ hz).1;obtain⟨G,M,f2,L,m,l⟩:=j it (by simp);have hl:↑vs<=i:=by rw[<-↑r];simpa using hi
  exact wpAny_pyNext_dict_end (I.ok.hd N) st (hd _ B) (by simpa using hl) λh' a2=>⟨rfl,I.turned (t':=s.toks) (λb o f e=>a2 b o f e) G M L m l⟩
 self:=λ_ _ _ _ _ st h=>wpAny_pyIter_keyiter st h
def TM{P:Program}{w:World}{K:Fq}{tg:Expr}{o:Obj}{kvs:List (aJ×V)}{vs:List (aJ×Value)}{ep:Nat}(a it:Addr)(a4:a≠it)(r:KV kvs vs)(hd:∀h':Heap,h'.get? a=some o->h'.DictAt (cI P w) a vs ep):
  eO P w K tg (oB (DJ a o kvs)<|kvs.map λkv=>kv.2) [it] it (λi h=>h.IsValIter it a i ↑vs ep) where
 mem:=by simp
 obj:=λi h st b f=>by
  have e:b=it:=by simpa using f
  subst e;obtain⟨o,e,c,d⟩:=st;exact⟨o,e,λv z=>by rw[d]at z;cases z⟩
 keep:=λi h h' st k=>st.at λo e=>k it (by simp) o e
 item:=by
  intro X n x q L i N s σ H E I j st C;subst n x q;obtain⟨hz,hi⟩:=C;have u:=(I.hok a _ hz).1;obtain⟨B,J,f2,G,m,l⟩:=j it (by simp);have hl:i<↑vs:=by rw[<-↑r];simpa using hi
  have W:=Walks.dictValues (prog:=X.prog) (w:=X.w) (knd:=cI X.prog X.w) (A:=X.A) (I.ok.hd L) it a a4 vs ep;refine W.item i s _ _ hl ⟨st,hd _ u⟩ λv h' tk hv M O=>?_;obtain⟨k,hx⟩:=hv;have T:Inv X N σ H {s with heap:=h',toks:=tk}:=I.turned (λb o f e=>O b o (by simpa using f) e) B J G m l;obtain⟨o',Z,c',d'⟩:=id M.1;obtain⟨v',Y,rv⟩:=r.get hx;exact⟨_,rfl,oK (s:={s with heap:=h',toks:=tk}) Z c' d' (by decide) ⟨v',H,T,rv,⟨rfl,by rw[bZ,Y];rfl⟩,M.1,λb f=>(j b f).1⟩⟩
 done:=by
  intro X n x q L i N s σ H E I j st C;subst n x q;obtain⟨hz,hi⟩:=C;have u:=(I.hok a _ hz).1;obtain⟨B,J,f2,G,m,l⟩:=j it (by simp);have hl:↑vs<=i:=by rw[<-↑r];simpa using hi
  exact wpAny_pyNext_values_end (I.ok.hd L) st (hd _ u) (by simpa using hl) λh' a2=>⟨rfl,I.turned (t':=s.toks) (λb o f e=>a2 b o f e) B J G m l⟩
 self:=λ_ _ _ _ _ st h=>wpAny_pyIter_valiter st h
section
variable{tg:Expr}
def zP(te:TE):TI:=λσ H R=>te σ H λx H1=>∃a kvs,x=.ref a/\H1 a=some (.dK kvs)/\∀o,R (oB (DJ a o kvs)<|kvs.map λkv=>kV kv.1)<|upd H1 a<|.frz o<|.dK kvs
def BB(hl:PE X l te):PI X tg l (zP te):=by
 intro z s σ H R I h;refine aX (hl z s σ H _ I h) ?_;rintro v d ⟨x,H1,j,w,A⟩;obtain⟨a,kvs,e,n,q⟩:=A;subst e;cases w;obtain⟨hz,u,hd⟩:=vL j.hok n;obtain⟨o,f⟩:∃o,d.heap.get? a=some o:=by obtain⟨vs,_,o,_,_,e,_⟩:=hd;exact⟨o,e⟩
 obtain⟨vs,ep,r,m⟩:=IZ f hd;refine wpAny_pyIter_dict u (m _ f) ?_;have i:=j.freeze n f;refine⟨d⁻¹,[d⁻¹],_,_,_,rfl,i.kept (t':=d.toks) λb o e=>bS _ e,VR a _ (bV<|bN f) r m,⟨_,dD _ rfl,rfl,rfl⟩,λb B=>?_,q o⟩;have e:b=d⁻¹:=by simpa using B
 subst e;exact i.fpOk (aY _)<|i.hok.fresh<|aY _
def AJ(te:TE):TI:=λσ H R=>te σ H λx H1=>∃a kvs,x=.ref a/\H1 a=some (.dK kvs)/\∀o,R (oB (DJ a o kvs)<|kvs.map λkv=>kv.2)<|upd H1 a<|.frz o<|.dK kvs
def Bw(hl:PE X l te)(base:attributeBase l "values" X.env (eval l X.env)=eval l X.env:=by rfl)(few:((backTo cpos<|starEach [] X.env).all (λx=>!x.1) && (backToKw cpos<|keywordEach [] X.env).all (λx=>x.1.isSome) && decide (↑([]:List Expr)+↑([]:List Keyword)+(if ([]:List Keyword).isEmpty then 0 else 1)<30))=true:=by rfl)(i:(apos.endLine == cpos.line)=true:=by rfl)(f:backTo cpos (starEach [] X.env)=[]:=by rfl):PI X tg (.Call (.Attribute l "values" apos) [] [] cpos) (AJ te):=by
 intro E s σ H R I h;refine rY base few i uS PySem.F.slot_dict_values PySem.F.type_dict_values<|aX (hl E s σ H _ I h) ?_;rintro u d ⟨x,H1,j,J,a,kvs,ex,B,q⟩;subst ex;obtain rfl:u=Value.ref a:=J;obtain⟨C,L,G⟩:=vM j<|.inl ⟨kvs,.inl B⟩;exists C,L;rw[f];refine lI rfl<|PySem.evalArgs_none ?_;obtain⟨hz,_,hd⟩:=vL j.hok B;obtain⟨o,m⟩:∃o,d.heap.get? a=some o:=by obtain⟨vs,_,o,_,_,e,_⟩:=hd;exact⟨o,e⟩
 obtain⟨vs,ep,r,n⟩:=IZ m hd;refine lZ PySem.F.slot_dict_values C PySem.F.entry_dict_values (PySem.F.args_dict_values_1 _) (meets_dict_values (cI X.prog X.w) a G) ⟨⟨vs,(n _ m).dictOf⟩,?_⟩;have A:(d.heap.push {cls:=.type "dict_values",data:=.fields #[.ref a]}).get? a=some o:=bS _ m;have M:Inv X E σ H1 {d with heap:=d.heap.push {cls:=.type "dict_values",data:=.fields #[.ref a]}}:=j.kept (t':=d.toks) λb o e=>bS _ e;refine wpAny_pyIter_values (s:={d with heap:=d.heap.push {cls:=.type "dict_values",data:=.fields #[.ref a]}}) ⟨_,dD _ rfl,rfl,rfl⟩ (n _ A) ?_;have z:=M.freeze B A;refine⟨_,[_],_,_,_,rfl,z.kept (t':=d.toks) λb o e=>bS _ e,TM a _ (bV<|bN A) r n,⟨_,dD _ rfl,rfl,rfl⟩,λb K=>?_,q o⟩;rw[wr8.mp K];exact z.fpOk (aY _)<|z.hok.fresh<|aY _
def zN(t:TE):TE:=λσ H Q=>∃a kvs,H a=some (.dK kvs)/\t σ H λv H'=>∃o,H' a=some (.frz o<|.dK kvs)/\Q v (upd H' a<|.dK kvs)
def PH(h:PE X e t):PE X e (zN t):=by
 intro i s σ H Q I ⟨a,kvs,b,q⟩;have hz:=I.unfrozen b;refine aX (h i s σ H _ I q) <| by rintro u l ⟨x,H1,f,d,o,h1,j⟩;exact⟨x,_,f.thaw h1 hz,d,j⟩
def xK(D:cU)(a:Addr)(kvs:List (aJ×V)):cU where
 nx:=λσ H=>∃o,H a=some (.frz o<|.dK kvs)/\D.nx σ (upd H a<|.dK kvs)
 rt:=λv H=>∃o,H a=some (.frz o<|.dK kvs)/\D.rt v (upd H a<|.dK kvs)
 bk:=λσ H=>∃o,H a=some (.frz o<|.dK kvs)/\D.bk σ (upd H a<|.dK kvs)
 ct:=λσ H=>∃o,H a=some (.frz o<|.dK kvs)/\D.ct σ (upd H a<|.dK kvs)
def zX(t:TS):TS:=λD σ H=>∃a kvs,H a=some (.dK kvs)/\t (xK D a kvs) σ H
def OE{st:Stmt}{t:TS}(h:PS X st t):PS X st (zX t):=by
 intro j s σ H D I ⟨a,kvs,i,q⟩;have hz:=I.unfrozen i;refine aX (h j s σ H _ I q) λf l e=>?_;cases f with
 | next=>obtain⟨σ',H',b,o,h1,d⟩:=e;exact⟨σ',_,b.thaw h1 hz,d⟩
 | brk=>obtain⟨σ',H',b,o,h1,d⟩:=e;exact⟨σ',_,b.thaw h1 hz,d⟩
 | cont=>obtain⟨σ',H',b,o,h1,d⟩:=e;exact⟨σ',_,b.thaw h1 hz,d⟩
 | ret u=>obtain⟨v,σ',H',b,r,o,h1,d⟩:=e;exact⟨v,σ',_,b.thaw h1 hz,r,d⟩
end
def yX(K:Fq)(a:Addr):It:=
 ⟨λi H=>∃xs x,SqL K H a xs/\xs[i]?=some x,λi H x H'=>∃p y,H p=none/\x=.ref p/\H'=upd H p (.tup [.int i,y])/\∀xs,SqL K H a xs->xs[i]?=some y,λi H=>∃xs,SqL K H a xs/\↑xs<=i⟩
def WY{P:Program}{w:World}{K:Fq}{es:List Expr}{k:Nat}{pos:Pos}(a e it:Addr)(ac:e≠it):eO P w K (.Tuple es k pos) (yX K a) [e,it] e (λi h=>(∃old,IsEnum h e it i old)/\h.IsListIter it a i) where
 mem:=by simp
 obj:=λi h st b f=>by
  obtain⟨⟨old,he⟩,hi⟩:=st;rcases wr5.mp f with rfl | f
  .exact⟨_,he,λv z=>by
    have z':Data.fields _=Data.cell v:=z;cases z'⟩
  .have e:b=it:=by simpa using f
   subst e;obtain⟨o,e,c,d⟩:=hi;exact⟨o,e,λv z=>by rw[d]at z;cases z⟩
 keep:=λi h h' st kp=>by
  obtain⟨⟨old,he⟩,hi⟩:=st;exact⟨⟨old,kp e (by simp) _ he⟩,hi.at λo x=>kp it (by simp) o x⟩
 item:=by
  intro X Z hw hK j i a2 s σ H E I J st hg;subst Z hw hK;obtain⟨xs,x,W,B⟩:=hg;obtain⟨⟨old,he⟩,L⟩:=st;obtain⟨its,rv,p,hz⟩:=I.list W;obtain⟨u,hu,ru⟩:=rv.get B;obtain⟨f0,f1,f2,f3,f4,f5⟩:=J e (by simp);obtain⟨O,T,g2,g3,g4,g5⟩:=J it (by simp);have aa:e<s⁻¹:=bN he;have a8:it<s⁻¹:=by obtain⟨_,x,_⟩:=L;exact bN x
  refine wpAny_pyNext_enum_item he L p.isList (x:=u) (by simpa using hu) ac λh' ho a6 hT hsz kk=>?_
  refine⟨_,rfl,wpAny_letOwnedTupleGo_enum (s:={s with heap:=h',toks:=s.toks+1}) ho λA a7 Y=>?_⟩;have ad:s⁻¹≠e:=dI aa;have ae:s⁻¹≠it:=dI a8;have C:H s⁻¹=none:=I.hok.fresh<|aY _;have keep:∀b o,b≠e->b≠it->s.heap.get? b=some o->A.get? b=some o:=λb o h1 h2 e=>(Y.2 b h1).trans<|kk b o h1 h2 e;have N:∀b u,H b=some u->b≠e/\b≠it:=λb u M=>⟨λz=>(by rw[z,f0]at M;cases M),λz=>(by rw[z,O]at M;cases M)⟩
  have l:Inv X a2 σ H {s with heap:=A,toks:=s.toks+1}:=by
   refine I.step (g':=s.gens) (d':=s.drawn) (ch:=[e,it]) (λb f=>?_) (λb o _ _ j e _=>keep b o (λz=>j<|by simp[z]) (λz=>j<|by simp[z]) e) (λb o _ _ j e _=>⟨o.slots,keep b o (λz=>j<|by simp[z]) (λz=>j<|by simp[z]) e⟩)
    (λ_ _ _ _ n=>n) (λb o j e=>⟨o,keep b o (λz=>j<|by simp[z]) (λz=>j<|by simp[z]) e⟩) (λ_ _ e=>e) (λ_ _ _ e=>e) (λb ps e=>⟨#[],by rw[e];simp⟩) (λm hm=>?_) (λb u eq=>?_) I.bare
   .rcases wr5.mp f with rfl | f
    .exact⟨f3,f1,f4,f5⟩
    .have e:b=it:=by simpa using f
     subst e;exact⟨g3,T,g4,g5⟩
   .obtain⟨o,es,ep,ho,r⟩:=hm;exact⟨o,es,ep,keep _ o (bW f1) (bW T) ho,r⟩
   .refine(I.hok b u eq).stay (λc v j q=>keep c v ?_ ?_ q) (λ_ q=>q) λ_ _ q=>q
    .rcases j with z | z
     .rw[z];exact(N b u eq).1
     .exact(N c _ z).1
    .rcases j with z | z
     .rw[z];exact(N b u eq).2
     .exact(N c _ z).2
  have ab:A.get? s⁻¹=some {cls:=.type "tuple",data:=.seq #[.int i s.toks,u]}:=(Y.2 _ ad).trans hT;have I1:Inv X a2 σ (upd H s⁻¹<|.tup [.int i,x]) {s with heap:=A,toks:=s.toks+1}:=by
   have base:=l.base;have hok:HOk X.prog X.w (upd H s⁻¹<|.tup [.int i,x]) A:=by
    intro b z q
    by_cases f:b=s⁻¹
    .subst f;rw[zb1]at q;cases q;refine⟨⟨by show 2<=sizeLine;decide,_,ab,rfl⟩,[.int i s.toks,u],.cons ⟨_,rfl⟩<|.cons ru .nil,_,ab,rfl,_,rfl⟩
    .rw[aC f]at q;refine(l.hok b z q).stay (λc w' _ r=>r) (λc r=>?_) λc xs r=>?_
     .rw[aC<|bA r C];exact r
     .rw[aC<|bA r C];exact r
   have old:∀b o',X.s₀.heap.get? b=some o'->b≠s⁻¹:=λb o' e=>bV<|fC (bN e) I.sz;refine⟨l.ok,l.os,l.bare,⟨base.keep,base.slot,λb G q n B=>?_,base.there,λb ys q=>?_,λb G y q=>?_,λb ps q=>?_⟩,l.loc,l.cell,?_,λy c h=>?_,λp hp=>?_,hok,l.len⟩
   .rw[aC<|old b G q];exact base.free b G q n B
   .have:=base.tups b ys q;rw[aC<|bA this C];exact this
   .have:=base.frzs b G y q;rw[aC<|bA this C];exact this
   .obtain⟨m,this⟩:=base.tbls b ps q;exact⟨m,by rw[aC<|bA this C];exact this⟩
   .rw[aC<|bV I.lt];exact I.free
   .obtain⟨v,q⟩:=I.cell y c h;rw[aC<|bV q.lt];exact I.freeC y c h
   .obtain⟨h1,h2,h3⟩:=l.pin p hp;have:=bN (I.pin p hp).1;exact⟨h1,by rw[aC<|bV this];exact h2,h3⟩
  have a9:A.IsListIter it a (i+1):=a6.at λo y=>(Y.2 it ac.symm).trans y;have af:IsEnum A e it ((i+1:Nat):Int) u:=by simpa using a7
  refine⟨.ref s⁻¹,_,I1,rfl,⟨_,x,C,rfl,rfl,λys hy=>by rw[I.list_inj hy W];exact B⟩,⟨⟨u,af⟩,a9⟩,λb f=>?_⟩;rcases wr5.mp f with rfl | f
  .rw[aC<|bW ad];exact f0
  .have e:b=it:=by simpa using f
   subst e;rw[aC<|bW ae];exact O
 done:=by
  intro X Z hw hK j i a2 s σ H E I J st hg;subst Z hw hK;obtain⟨xs,W,B⟩:=hg;obtain⟨⟨old,he⟩,L⟩:=st;obtain⟨its,rv,p,hz⟩:=I.list W;obtain⟨O,T,g2,g3,g4,g5⟩:=J it (by simp);have hl:=↑rv;refine wpAny_pyNext_enum_end (I.ok.hd j) he L p.isList (BX<|by simp;lia) λh' B=>⟨rfl,I.turned (t':=s.toks) (λb o f e=>B b o f e) O T g3 g4 g5⟩
 self:=λ_ _ _ _ _ st h=>by
  obtain⟨⟨old,he⟩,_⟩:=st;exact wpAny_pyIter_enum he h
def wM(K:Fq)(ta:TA):TI:=λσ H R=>ta σ H λvs H1=>∃a xs,vs=[.ref a]/\SqL K H1 a xs/\R (yX K a) H1
theorem boot_enumerate:bootBuiltins "enumerate"=some (.type "enumerate"):=by first | exact PySem.boot_enumerate | rfl
def TV{X:Cx}{es:List Expr}{k:Nat}{m:Pos}{a:Expr}{ta:TA}{p pos:Pos}(A:Gl X "enumerate")(w:X.mg "enumerate"=none)(n:PA X [a] ta)(hs:starEach [a] X.env=[(false,eval a X.env)]:=by rfl):PI X (.Tuple es k m) (.Call (.Name "enumerate" p) [a] [] pos) (wM X.K ta):=by
 intro j s σ H R I h;refine Call_<|mI I A w boot_enumerate<|mX (aX (n pos j s σ H _ I h) λus d ⟨vs,H1,f,u,x⟩=>?_) hs rfl;obtain⟨l,xs,e,E,q⟩:=x;subst e;cases u with
 | cons r rr=>
  cases rr;cases r;obtain⟨its,G,z,hz⟩:=f.list E;refine call_enumerate_list z.isList λh' he C hsz o=>?_;refine wpAny_pyIter_enum (s:={d with heap:=h'}) he ?_;have B:Inv X j σ H1 {d with heap:=h'}:=f.kept (t':=d.toks) o;refine⟨d⁻¹+1,[d⁻¹+1,d⁻¹],_,_,H1,rfl,B,WY l _ _<|Nat.succ_ne_self _,⟨⟨_,he⟩,C⟩,λb i=>?_,q⟩;rcases wr5.mp i with rfl | i
  .exact f.fpOk (jB _)<|f.hok.fresh<|jB _
  .have e:b=d⁻¹:=by simpa using i
   subst e;exact f.fpOk (aY _)<|f.hok.fresh<|aY _
def Cc(h:Q 0xFCA86420 {s with toks:=s.toks+1}):wpAny (model prog w) A (pyHash .none) Q E s:=by
 unfold pyHash pyHashByItsType;have a:[Value.none].any Value.onHeap=false:=rfl;refine aF ?_;rw[cRoomFor,bD<|by rw[a];exact dX];refine bF ?_;refine aF<|nS (typeIs_none s) vd8.lookup ?_;show wpAny _ _ (if (some (Value.builtin "NoneType.__hash__") == some Value.none)=true then _ else _) Q E s;rw[bD<|by rw[beq_builtin_none];exact dX];refine aF<|nS (typeIs_none s) vd8.lookup ?_;show wpAny _ _ (callSpecialIfBoundUnlessNone? .none "__hash__" _ >>= _) Q E s;refine aF (wpAny_callSpecialIfBoundUnlessNone?_slot (typeIs_none s) vd8 (iY vd8 (typeIs_none s) PySem.F.entry_NoneType_hash
   (show wpAny _ _ (do ret<|<-mkInt 0xFCA86420) _ _ s from wpAny_ret_mkInt ?_) (PySem.F.args_NoneType_hash_1 _)))
 show wpAny _ _ (if (decide (-(2:Int) ^ 63<=0xFCA86420) && decide ((0xFCA86420:Int)<2 ^ 63))=true then _ else _) Q E _;rw[bE<|by decide];exact bF h
def DP:Option aJ->Value->Bool
 | some k,v=>iJ k v
 | none,v=>match v with | .none=>true | _=>false
def lY(h:DP none v=true):v=.none:=by
 cases v <;> first | rfl | (simp[DP]at h)
def FN:iJ k .none=false:=by cases k <;> rfl
def xP(w:World):Option aJ->Int
 | some k=>xY w k
 | none=>0xFCA86420
def FX(prog:Program)(w:World):PySem.KeyKind prog w (Option aJ) where
 is:=DP
 hash:=xP w
 inj:=λv a b ha hb=>by
  cases a with
  | none=>
   have e:=lY ha;subst e;cases b with
   | none=>rfl
   | some b=>have hb:iJ b .none=true:=hb;rw[FN]at hb;cases hb
  | some a=>
   cases b with
   | none=>
    have e:=lY hb;subst e;have ha:iJ a .none=true:=ha;rw[FN]at ha;cases ha
   | some b=>exact cM some<|(cI prog w).inj v a b ha hb
 byValue:=λk v h=>by
  cases k with
  | none=>rw[lY h];rfl
  | some k=>exact(cI prog w).byValue k v h
 pyHash:=λ{A E s k v Q} hv h=>by
  cases k with
  | none=>rw[lY hv];exact Cc h
  | some k=>exact(cI prog w).pyHash (k:=k) hv h
 eqBool:=λ{A E s a b u v Q} hu hv h=>by
  cases a with
  | none=>
   have e:=lY hu;subst e;cases b with
   | none=>
    have e:=lY hv;subst e;have h:Q true s:=by simpa using h
    exact SeqAt.EqAt.same _ _ _ _ _ h
   | some b=>
    have h:Q false s:=by simpa using h
    rcases iI hv with ⟨i,t,rfl,rfl⟩ | ⟨x,t,rfl,rfl⟩
    .exact SeqAt.EqAt.none_int _ _ _ _ _ _ h
    .exact SeqAt.EqAt.none_str _ _ _ _ _ _ h
  | some a=>
   cases b with
   | none=>
    have e:=lY hv;subst e;have h:Q false s:=by simpa using h
    rcases iI hu with ⟨i,t,rfl,rfl⟩ | ⟨x,t,rfl,rfl⟩
    .exact SeqAt.EqAt.int_none _ _ _ _ _ _ h
    .exact SeqAt.EqAt.str_none _ _ _ _ _ _ h
   | some b=>exact(cI prog w).eqBool (a:=a) (b:=b) hu hv (by simpa using h)
 «strs»:=λk x t v h=>by
  cases k with
  | none=>have:=lY h;cases this
  | some k=>exact(cI prog w).strs k x t v h
def QN{prog:Program}{w:World}{h:Heap}{a:Addr}{vs:List (aJ×Value)}(d:h.DictOf (cI prog w) a vs):h.MapOf (FX prog w) a (λk=>k.bind<|valueAt vs):=by
 obtain⟨o,es,ep,e,c,b,f,hp,m⟩:=d;refine⟨o,es,ep,e,c,b,λx i=>?_,λk=>?_⟩
 .obtain⟨k,h1,h2⟩:=f x i;exact⟨some k,h1,h2⟩
 .cases k with
  | none=>
   show findBy DP es none=none;unfold findBy;rw[Array.find?_eq_none.mpr]
   .rfl
   .intro x i;obtain⟨k,h1,_⟩:=f x i;intro z;rw[lY z]at h1;have h1:iJ k .none=true:=h1;rw[FN]at h1;cases h1
  | some k=>
   have q:=(Heap.DictOf.mapOf (knd:=cI prog w) ⟨o,es,ep,e,c,b,f,hp,m⟩);obtain⟨o',n,r,j,_,l,_,q⟩:=q;rw[e]at j;cases j;rw[b]at l;cases l;exact q k
section
variable{o e f:Expr}{apos cpos:Pos}{td ty tx:TE}
def mF(H:Hp)(a:Addr)(y:V)(r:Option V):Prop:=∃kvs,Rd H a (.dK kvs)/\((y=.non/\r=none)\/∃k,y=kV k/\r=aK kvs k)
def oO(td ty:TE):TE:=λσ H Q=>td σ H λx H1=>∃a,x=.ref a/\tZ H1 a/\ty σ H1 λy H2=>∃o,mF H2 a y o/\Q (o.getD .non) H2
def rH(td ty tx:TE):TE:=λσ H Q=>td σ H λx H1=>∃a,x=.ref a/\tZ H1 a/\ty σ H1 λy H2=>tx σ H2 λz H3=>∃o,mF H3 a y o/\Q (o.getD z) H3
def YK(N:X.A.units+1<cLine)(G:PE X o td)(he:PE X e ty)(m:M1 X o "get" apos e cpos):PE X (.Call (.Attribute o "get" apos) [e] [] cpos) (oO td ty):=by
 intro l s σ H Q I h;refine rY m.base m.few m.line uS kI DL<|aX (G l s σ H _ I h) ?_;rintro u J ⟨x,H1,f,B,a,ex,d,E⟩;subst ex;obtain rfl:u=Value.ref a:=B;obtain⟨L,M,_⟩:=vM f d;exists L,M;rw[m.trees];refine lI rfl<|sI<|kA<|aX (he l J σ H1 _ f E) λC s2 ⟨y,H2,b,n,O,g,q⟩=>nD ?_;obtain⟨kvs,i,g⟩:=g;rcases g with ⟨rfl,rfl⟩ | ⟨k,rfl,rfl⟩
 .obtain rfl:C=Value.none:=n;obtain⟨z,hd,vs,T,j⟩:=lU b.hok i;exact lZ kI j.typeIs uV (GD _ _) (meets_dict_get (FX X.prog X.w) a (k:=none) rfl hd) ⟨_,QN j,⟨.non,H2,b.tok _,rfl,q⟩⟩
 .exact OL N b (.inl ⟨kvs,k,i,rfl,rfl⟩) n λP s3 K r=>⟨_,H2,K,r,q⟩
def Bm(W:X.A.units+1<cLine)(L:PE X o td)(he:PE X e ty)(Y:PE X f tx)(m:M2 X o "get" apos e f cpos):PE X (.Call (.Attribute o "get" apos) [e,f] [] cpos) (rH td ty tx):=by
 intro i s σ H Q I h;refine rY m.base m.few m.line uS kI DL<|aX (L i s σ H _ I h) ?_;rintro u M ⟨x,H1,l,G,a,ex,d,K⟩;subst ex;obtain rfl:u=Value.ref a:=G;obtain⟨O,P,_⟩:=vM l d;exists O,P;rw[m.trees];refine lI rfl (sI (kA (aX (he i M σ H1 _ l K) λJ s2 ⟨y,H2,T,B,Z⟩=>
  kA (aX (Y i s2 σ H2 _ T Z) λN s3 ⟨z,H3,b,r,ov,g,j⟩=>nD ?_))))
 obtain⟨kvs,n,g⟩:=g;rcases g with ⟨rfl,rfl⟩ | ⟨k,rfl,rfl⟩
 .obtain rfl:J=Value.none:=B;obtain⟨_,hd,vs,a2,q⟩:=lU b.hok n;exact lZ kI q.typeIs uV (JP _ _ _) (meets_dict_get_default (FX X.prog X.w) a (k:=none) rfl hd N) ⟨_,QN q,⟨z,H3,b.tok _,r,j⟩⟩
 .exact RP W b (.inl ⟨kvs,k,n,rfl,rfl⟩) B r λw' s4 C E=>⟨_,H3,C,E,j⟩
def zZ(td ty tx:TE):TE:=λσ H Q=>td σ H λx H1=>∃a,x=.ref a/\tZ H1 a/\ty σ H1 λy H2=>tx σ H2 λz H3=>∃kvs k,H3 a=some (.dK kvs)/\y=kV k/\↑kvs<sizeLine/\
 (∀v,aK kvs k=some v->Q v H3)/\(aK kvs k=none->Q z (upd H3 a<|.dK<|aO kvs k z))
def Al(L:PE X o td)(he:PE X e ty)(Z:PE X f tx)(m:M2 X o "setdefault" apos e f cpos):PE X (.Call (.Attribute o "setdefault" apos) [e,f] [] cpos) (zZ td ty tx):=by
 intro l s σ H Q I h;refine rY m.base m.few m.line uS PySem.F.slot_dict_setdefault PySem.F.type_dict_setdefault<|aX (L l s σ H _ I h) ?_;rintro u M ⟨x,H1,r,J,a,ex,d,K⟩;subst ex;obtain rfl:u=Value.ref a:=J;obtain⟨T,W,_⟩:=vM r d;exists T,W;rw[m.trees];refine lI rfl (sI (kA (aX (he l M σ H1 _ r K) λiv s2 ⟨y,H2,Y,ry,q2⟩=>
  kA (aX (Z l s2 σ H2 _ Y q2) λO s3 ⟨z,H3,j,C,kvs,k,A,G,hl,g1,P⟩=>nD ?_))))
 subst G;obtain⟨hz,hd,vs,i,B⟩:=vL j.hok A;have b:=i.val k;refine lZ PySem.F.slot_dict_setdefault B.typeIs PySem.F.entry_dict_setdefault (PySem.F.args_dict_setdefault_3 _ _ _) (kt_meets_setdefault (cI X.prog X.w) a (kL ry) hd O) ⟨vs,B,by rw[<-↑i];exact hz,λv n=>?_,λn h' E hs=>?_⟩
 .rw[n]at b;cases q:aK kvs k with
  | none=>rw[q]at b;exact False.elim b
  | some v'=>rw[q]at b;exact⟨v',H3,j.tok _,b,g1 v' q⟩
 .rw[n]at b;cases q:aK kvs k with
  | some v'=>rw[q]at b;exact False.elim b
  | none=>
   have he:∃q,h'.get? a=some q:=let ⟨q,_,_,hq,_⟩:=E;⟨q,hq⟩
   have N:↑(aO kvs k z)<=sizeLine:=by have:=jF kvs k z;lia
   exact⟨z,_,tX j (by rw[A];exact iA) hs he<|CZ N hd (i.put k C) E,C,P q⟩
end
def UH:∀{us:List Value},↑xs=↑us->(∀(i:Nat) x u,xs[i]?=some x->us[i]?=some u->RelV x u)->Vals xs us:=by
 induction xs with
 | nil=>intro us hl h;cases us with
  | nil=>exact .nil
  | cons _ _=>simp at hl
 | cons x xs ih=>intro us hl h;cases us with
  | nil=>simp at hl
  | cons u us=>exact .cons (h 0 x u rfl rfl) (ih (by simpa using hl) λi x u h1 h2=>h (i+1) x u (by simpa using h1)<|by simpa using h2)
def VA(K:X.calm=true):CallR X (.type "list") (λxs H Q=>∃p kvs,xs=[.ref p]/\Rd H p (.dK kvs)/\∀l,H l=none->Q (.ref l) (upd H l<|.lst<|kvs.map λb=>kV b.1)):=by
 intro N s σ H xs us Q I r h;obtain⟨p,kvs,rfl,A,q⟩:=h;obtain⟨u,rfl,z⟩:=kD r;cases z;obtain⟨hz,J,hd⟩:=lU I.hok A;obtain⟨o,f⟩:∃o,s.heap.get? p=some o:=by obtain⟨vs,_,o,_,_,e,_⟩:=hd;exact⟨o,e⟩
 obtain⟨vs,ep,j,C⟩:=IZ f hd;have L:=↑j;refine PySem.W.kdl_call (PySem.W.kdl_dict (knd:=cI X.prog X.w) (kvs:=vs) (ep:=ep) (d:=p) J) (I.ok.hd K) (C _ f) (by lia) λh' tk a c' kp e m=>?_
 refine⟨.ref s⁻¹,_,I.laid (t':=tk) kp (aY _) (show ObjOk X.prog X.w _ h' _ (.lst<|kvs.map λb=>kV b.1) from ⟨by rw[aI];exact hz,a.toList,c',?_,by simpa using e⟩),rfl,q _<|I.hok.fresh<|aY _⟩;refine UH (by have h1:=m.1;have h2:↑a.toList=a.size:=CP;rw[aI];lia) λi x u h1 h2=>?_
 obtain⟨k,y,E,B⟩:=m.2 i u (by rw[<-Array.getElem?_toList];exact h2);obtain⟨M,G,_⟩:=j.get E;rw[bZ,G]at h1;cases h1;rcases iI B with ⟨n,t,rfl,rfl⟩ | ⟨n,t,rfl,rfl⟩
 .exact⟨t,rfl⟩
 .exact⟨t,rfl⟩
def RM{prog:Program}{w:World}{A:Around}{bs:List Bool}{its:List Value}(r:Vals (bs.map V.bl) its):TruthOf prog w A (λi v=>its.toArray[i]?=some v) (λi=>bs.getD i false):=by
 intro i v s Q E b a;have b:its[i]?=some v:=by simpa using b
 have hl:=↑r;rw[aI]at hl;obtain⟨hi,_⟩:=wr1.mp b;have f:bs[i]?=some bs[i]:=bH (by lia);obtain⟨u,d,h⟩:=r.get (i:=i) (x:=V.bl bs[i]) (by rw[bZ,f];rfl);rw[b]at d;cases d;obtain rfl:v=Value.bool bs[i]:=h;have e:bs.getD i false=bs[i]:=by rw[fR,f];rfl
 have a:Q (bs.getD i false) s:=a;rw[e]at a;exact xI a
def Ae(bs:List Bool):(List.range ↑bs).any (λi=>bs.getD i false)=bs.any id:=by
 rw[vQ];simp only[vk3,List.mem_range]
 constructor
 .rintro⟨i,hi,h⟩;exists bs[i],gW hi;rw[fR,bH hi]at h;exact h
 .rintro⟨b,a,h⟩;obtain⟨i,hi,e⟩:=kY a;exists i,hi;rw[fR,bH hi,e];exact h
def As(bs:List Bool):(List.range ↑bs).all (λi=>bs.getD i false)=bs.all id:=by
 rw[vQ];simp only[ww4,List.mem_range]
 constructor
 .intro h b a;obtain⟨i,hi,e⟩:=kY a;have:=h i hi;rw[fR,bH hi,e]at this;exact this
 .intro h i hi;rw[fR,bH hi];exact h _<|gW hi
def UY(C:X.calm=true):CallR X (.builtin "any") (λxs H Q=>∃(p:Addr)(bs:List Bool),xs=[.ref p]/\SqL X.K H p (bs.map V.bl)/\Q (.bl<|bs.any id) H):=by
 intro w s σ H xs us Q I r h;obtain⟨p,bs,rfl,B,q⟩:=h;obtain⟨u,rfl,i⟩:=kD r;cases i;obtain⟨its,d,a,hz⟩:=I.list B;have hl:=↑d;rw[aI]at hl;obtain⟨o,m,_⟩:=id a.isList;refine call_any_walk<|BU a.isList ?_;have f:p≠s⁻¹:=bV<|bN m;have l:Inv X w σ H {s with heap:=s.heap.push {cls:=.type "list_iterator",data:=.fields #[.ref p,.int 0 0]}}:=I.kept (t':=s.toks) λb o e=>bS _ e;refine⟨_,_,_,_,_,_,_,rfl,Walks.list (A:=X.A.in1) (I.ok.hd C) _ p f its.toArray,⟨⟨_,dD _ rfl,rfl,rfl⟩,a.isList.at λo e=>bS _ e⟩,RM d,λh' tk j=>?_⟩;rw[cN,<-hl,Ae];refine⟨.bl _,H,l.turned (t':=tk) (λb o n e=>j b o (by simpa using n) e) (I.hok.fresh<|aY _) (dI I.lt) (.inr I.sz) (λx c e z=>?_) λp hp z=>?_,rfl,q⟩
 .obtain⟨v,q⟩:=I.cell x c e;exact absurd q.lt (by rw[z];exact hC _)
 .exact absurd (bN (I.pin p hp).1) (by rw[z];exact hC _)
def TN(C:X.calm=true):CallR X (.builtin "all") (λxs H Q=>∃(p:Addr)(bs:List Bool),xs=[.ref p]/\SqL X.K H p (bs.map V.bl)/\Q (.bl<|bs.all id) H):=by
 intro w s σ H xs us Q I r h;obtain⟨p,bs,rfl,B,q⟩:=h;obtain⟨u,rfl,i⟩:=kD r;cases i;obtain⟨its,d,a,hz⟩:=I.list B;have hl:=↑d;rw[aI]at hl;obtain⟨o,m,_⟩:=id a.isList;refine call_all_walk<|BU a.isList ?_;have f:p≠s⁻¹:=bV<|bN m;have l:Inv X w σ H {s with heap:=s.heap.push {cls:=.type "list_iterator",data:=.fields #[.ref p,.int 0 0]}}:=I.kept (t':=s.toks) λb o e=>bS _ e;refine⟨_,_,_,_,_,_,_,rfl,Walks.list (A:=X.A.in1) (I.ok.hd C) _ p f its.toArray,⟨⟨_,dD _ rfl,rfl,rfl⟩,a.isList.at λo e=>bS _ e⟩,RM d,λh' tk j=>?_⟩;rw[cN,<-hl,As];refine⟨.bl _,H,l.turned (t':=tk) (λb o n e=>j b o (by simpa using n) e) (I.hok.fresh<|aY _) (dI I.lt) (.inr I.sz) (λx c e z=>?_) λp hp z=>?_,rfl,q⟩
 .obtain⟨v,q⟩:=I.cell x c e;exact absurd q.lt (by rw[z];exact hC _)
 .exact absurd (bN (I.pin p hp).1) (by rw[z];exact hC _)
def TL(r:Vals (ss.map V.str) its):StrsAre its ss:=by
 induction ss generalizing its with
 | nil=>cases r;exact .nil
 | cons x ss ih=>
  cases r with
  | cons h t=>obtain⟨tk,rfl⟩:=h;exact .cons _ _<|ih t
def TW(r:StrsAre its ss):Vals (ss.map V.str) its:=by
 induction r with
 | nil=>exact .nil
 | cons _ _ _ ih=>exact .cons ⟨_,rfl⟩ ih
def XO:CallR X (.builtin "sorted") (λxs H Q=>∃(p:Addr)(ss:List Str),xs=[.ref p]/\SqL X.K H p (ss.map V.str)/\↑ss<64/\∀(l:Addr)(a:List Str),H l=none->a.Perm ss->sortedS a=true->Q (.ref l) (upd H l<|.lst<|a.map V.str)):=by
 intro x s σ H xs us Q I r h;obtain⟨p,ss,rfl,n,z,q⟩:=h;obtain⟨u,rfl,i⟩:=kD r;cases i;obtain⟨its,f,j,hz⟩:=I.list n;have hl:=↑f;rw[aI]at hl;refine sorted_strs j.isList (TL f) (by lia) λd a h1 h2 m=>?_
 obtain⟨e,he⟩:=sortedAll_at s.heap its d;refine⟨.ref<|s⁻¹+1,_,I.laid (t':=s.toks) (λb o e=>sortedAll_old e) (jB _) (show ObjOk X.prog X.w _ _ _ (.lst<|a.map V.str) from ⟨?_,d.toList,e,TW h1,by simpa [seqObj]using he⟩),rfl,q _ _ (I.hok.fresh<|jB _) h2 m⟩;rw[aI,h2.length_eq];rw[aI]at hz;exact hz
def VC(I:Nat->Shared->Prop) (turn:∀n s,I n s->wpAny (model prog w) A (pyNext it) (λr a=>match r with
   | none=>R (.ok .next) a
   | some v=>wpAny (model prog w) A (letOwnedTupleGo target it v) (λ_ a=>wpAny (model prog w) A (assign target env v) (λ_ j=>
     wpAny (model prog w) A (forIn ifs true λc r=>if r=true then do let ok <-isTrue c env (eval c env);pure (ForInStep.yield ok) else pure (ForInStep.yield r)) (λok d=>
      if ok=true then wpAny (model prog w) A (eval kx env) (λl o=>wpAny (model prog w) A (eval vx env) (λf e=>
       wpAny (model prog w) A (dictSet DD l f) (λ_ i=>∃m,m<n/\I m i) (λ_ _=>False) e) (λ_ _=>False) o) (λ_ _=>False) d
      else ∃m,m<n/\I m d) (λ_ _=>False) j) (λ_ _=>False) a) (λ_ _=>False) a) (λ_ _=>False) s) (n:Nat) (h:I n s):
  codeAny (model prog w) A (.compLoop (.DictComp kx vx [⟨target,iter,ifs,0⟩] scope pos) 0 it (.ref DD) env) R s:=by
 refine codeAny_loop rfl I (λn s z=>?_) n h;show wpAny _ A ((compTurn (.DictComp kx vx [⟨target,iter,ifs,0⟩] scope pos) 0 it (.ref DD) env).onRaise (λx=>do noteFrame x env;theTreesLotGoes x)) _ _ s;refine wpAny_noted ?_;rw[compTurn_dict];refine aF<|rA<|aF<|fF (turn n s z) (λr a b=>?_) λ_ _ h'=>h'.elim;cases r with
 | none=>exact bF b
 | some v=>
  refine aF<|fF b (λ_ a b=>?_) λ_ _ h'=>h'.elim;refine aF<|fF b (λ_ j B=>aF<|fF B (λok d q=>?_) λ_ _ h'=>h'.elim) λ_ _ h'=>h'.elim;cases ok with
  | false=>exact bF ⟨rfl,q⟩
  | true=>
   exact aF<|aF<|fF q (λl o u=>aF<|iU<|fF u (λf e C=>aF<|rA<|iU<|fF C (λ_ i E=>bF ⟨rfl,E⟩) λ_ _ h'=>h'.elim) λ_ _ h'=>h'.elim) λ_ _ h'=>h'.elim
def xO(pt:Hp->Addr->V->V->(Hp->Prop)->Prop)(J:It)(g:TG)(tt:TT)(tk te:TE)(D:Addr)(σ0:St)(H0:Hp)(Q:Hp->Prop):Prop:=
 ∃W:Nat->Nat->St->Hp->Prop,(∃m,W 0 m σ0 H0)/\∀i m σ H,W i m σ H->
 (J.stop i H/\Q H)\/(J.go i H/\∃N:St->Hp->Prop,(∀σ' H',N σ' H'->∃m',m'<m/\W (i+1) m' σ' H')/\∀x H',J.yld i H x H'->g x σ H' λσ2 H2=>tt σ2 H2 λb H3=>
  if b=true then tk σ2 H3 λkx H4=>te σ2 H4 λv H5=>pt H5 D kx v λH6=>N σ2 H6 else N σ2 H3)
structure xA(X:Cx)(o0:Addr->HO)(pt:Hp->Addr->V->V->(Hp->Prop)->Prop):Prop where
 new:∀(h:Heap)(H:Hp),sysModules<h.objs.size->ObjOk X.prog X.w H (h.push {cls:=.type "dict",data:=.dict #[]}) h.objs.size (o0 h.objs.size)
 put:∀(Y:Cx),Y.prog=X.prog->Y.w=X.w->Y.K=X.K->Y.A=X.A->∀(pins:List (Addr×Obj))(s:Shared)(σ:St)(H:Hp)(D:Addr)(k:V)(u:Value)(v:V)(y:Value)(R:Hp->Prop),Inv Y pins σ H s->RelV k u->RelV v y->pt H D k v R->
  wpAny (model X.prog X.w) X.A (dictSet D u y) (λ_ s'=>∃H',Inv Y pins σ H' s'/\R H') (λ_ _=>False) s
def YY:Hp->Addr->V->V->(Hp->Prop)->Prop:=λH D kx v R=>∃kvs k,kx=kV k/\H D=some (.dK kvs)/\↑kvs<sizeLine/\R (upd H D<|.dK<|aO kvs k v)
def ET{X:Cx}:xA X (λ_=>.dK []) YY where
 new h H z:=GZ h z
 put Y e1 e2 e3 e4 pins s σ H D kx u v y R I rk rv h:=by
  obtain⟨kvs,k,e,d,hl,q⟩:=h;subst e;rw[<-e1,<-e2];obtain⟨z,hd,vs,b,i⟩:=vL I.hok d;have hz:↑vs<=sizeLine:=by rw[<-↑b];exact z
  have f:↑(aO kvs k v)<=sizeLine:=by have:=jF kvs k v;lia
  refine wpAny_dictSet_pairs (knd:=cI Y.prog Y.w) (hsz:=hz) (kL rk) i λh' a hs=>?_;exact⟨_,tX (t':=s.toks+1) I (by rw[d];exact iA) hs (let ⟨q,_,_,hq,_⟩:=a;⟨q,hq⟩)<|CZ f hd (b.put k rv) a,q⟩
section
variable{scope:Scope}{N':List Str}{src:List (Option Nat)}{pins:List (Addr×Obj)}{σ:St}{H2:Hp}{s2:Shared}
def RN{kx vx tg a8:Expr}{af:List Expr}{pos:Pos}{it:Addr}{fp:List Addr}{O:Nat->Heap->Prop}{J:It}{g:TG}{tt:TT}{ai te:TE}{Q:Addr->Hp->Prop}
  {RR:Value->Addr->Result->Shared->Prop} {E:Vp} {l:Addr->HO} {pt:Hp->Addr->V->V->(Hp->Prop)->Prop} (hp:xA X l pt) (hc:X.calm=true)
  (B:BlkN X scope N' src) (b2:∀x k,(x,k)∈scope.names->k=.free->∀k',(x,k')∈scope.names->k'=.free) (T:eO X.prog X.w X.K tg J fp it O) (I:Inv X pins σ H2 s2) (h0:O 0 s2.heap) (G:∀b∈fp,dN X pins H2 b)
  (hg:∀s3 H3 C,PG (cZ X scope N' s3 H3 C fp) tg g) (ht:∀s3 H3 C,oG (cZ X scope N' s3 H3 C fp) af tt) (hk:∀s3 H3 C,PE (cZ X scope N' s3 H3 C fp) kx ai) (he:∀s3 H3 C,PE (cZ X scope N' s3 H3 C fp) vx te)
  (hw:∀D,H2 D=none->xO pt J g tt ai te D (sub src σ) (upd H2 D<|l D) (Q D))
  (hQ:∀D C H' s',C≠D->(∃m,s'.heap.Ns C m)->(∀ae ,Heap.SameBut C s'.heap ae->Inv X pins σ H' {s' with heap:=ae})->Inv X pins σ H' s'->H' C=none->C≠X.env.locals->(∀x c,X.env.cells.lookup x=some c->c≠C)->X.s₀⁻¹<=C->(∀p∈X.pn++pins,p.1≠C)->Q D H'->RR (.ref D) C (.ok .next) s'):
  wpAny (model X.prog X.w) X.A (newDict) (λah N=>wpAny (model X.prog X.w) X.A (newFunctionEnv scope X.env.globals (cC X.env scope.names) [] X.env.qual none .none<|some X.env) (λa7 s₄=>
   codeAny (model X.prog X.w) X.A (.compStart (.DictComp kx vx [⟨tg,a8,af,0⟩] scope pos) 0 (.ref it) ah {a7 with scope:=relabel scope X.env}) (RR ah a7.locals) s₄) E N) E s2:=by
 have a9:∀y∈scope.names,y.2≠.cell:=λy hy=>cS<|ww4.mp B.nocell y hy;refine kF<|wpAny_newFunctionEnv a9 (by intro y hy;simp at hy) (λY a5 a3=>?_) B.kind;dsimp only at a5 a3 ⊢;have b5:H2 s2⁻¹=none:=I.hok.fresh<|aY _;have H:Inv X pins σ (upd H2 s2⁻¹<|l s2⁻¹) {s2 with heap:=s2.heap.push {cls:=.type "dict",data:=.dict #[]}}:=
  I.laid (t':=s2.toks) (λb o e=>bS _ e) (aY _) (hp.new s2.heap _ I.big)
 generalize hH3:(s2.heap.push {cls:=.type "dict",data:=.dict #[]})=f at a5 a3 H ⊢;have ad:f.objs.size=s2⁻¹+1:=by rw[<-hH3,nI]
 have a2:∀b o,s2.heap.get? b=some o->f.get? b=some o:=λb o e=>by rw[<-hH3];exact bS _ e
 have a1:∀b o,f.get? b=some o->Y.get? b=some o:=λb o e=>a3.extBut b o (bV<|bN e)<|bS _ e;have a4:s2⁻¹<f.objs.size:=by rw[ad];exact vZ _
 have am:∀b∈fp,dN X pins (upd H2 s2⁻¹<|l s2⁻¹) b:=λb j=>by
  obtain⟨o,e,_⟩:=T.obj _ _ h0 b j;refine⟨?_,(G b j).2⟩;rw[aC<|bV<|bN e];exact(G b j).1
 have a6:∀b∈fp,b<f.objs.size:=λb j=>by
  obtain⟨o,e,_⟩:=T.obj _ _ h0 b j;exact gI (bN e) a4
 have av:=QA (fp:=fp) (C:=f.objs.size) (s4:={s2 with heap:=Y,toks:=s2.toks+↑([]:List (Str×Value))}) B H am a6 b2 rfl a5 a1 rfl rfl;have ao:O 0 Y:=T.keep _ _ _ h0 λb j o e=>a1 b o<|a2 b o e;obtain⟨W,⟨m0,w0⟩,turn⟩:=hw s2⁻¹ b5;have ac:∀{H':Hp},(∀b∈fp,H' b=none)->∀b∈fp,dN (cZ X scope N' {s2 with heap:=f} (upd H2 s2⁻¹<|l s2⁻¹) f.objs.size fp) [] H' b:=λhn b j=>by
  refine⟨hn b j,bV<|a6 b j,?_,.inl j,λx c h=>(G b j).2.2.2.2.1 x c (B.back I.ok h).1,λp hp=>absurd (show p∈([]:List (Addr×Obj)) from hp)<|by simp⟩;intro z;rcases wr5.mp (H.stkSub b z)with y | y
  .exact(G b j).2.1 y
  .exact(G b j).2.2.1 y
 have fin:∀(s':Shared)(σ':St)(H':Hp),Inv (cZ X scope N' {s2 with heap:=f} (upd H2 s2⁻¹<|l s2⁻¹) f.objs.size fp) [] σ' H' s'->Q s2⁻¹ H'->RR (.ref s2⁻¹) f.objs.size (.ok .next) s':=λs' σ' H' M q=>by
  obtain⟨hh,gg,dd,ab,au⟩:=s';have ax:au=s2.os:=M.os;subst ax;have IX:Inv X pins σ H' {({s2 with heap:=f}:Shared)with heap:=hh,gens:=gg,drawn:=dd,toks:=ab}:=Inv.call (s:={s2 with heap:=f}) H (h':=hh) (g':=gg) (d':=dd) (t':=ab) (ch:=fp) M.base M.hok M.bare λb j=>⟨(G b j).2.2.2.1,(G b j).2.1,(G b j).2.2.2.2.1,(G b j).2.2.2.2.2⟩;have b9:s2⁻¹<=f.objs.size:=dM a4;have ap:f.objs.size≠X.env.locals:=dI H.lt;have an:∀x c,X.env.cells.lookup x=some c->c≠f.objs.size:=λx c e z=>by
   obtain⟨v,q⟩:=H.cell x c e;exact absurd (show c<f.objs.size from q.lt) (by rw[z];exact hC _)
  have ak:∀p∈X.pn++pins,p.1≠f.objs.size:=λp hp z=>by
   have:=bN (H.pin p hp).1;exact absurd (show p.1<f.objs.size from this) (by rw[z];exact hC _)
  have ag:H' f.objs.size=none:=M.free;obtain⟨m,hm,_⟩:=M.loc;refine hQ _ _ H' _ (dI a4) ⟨m,hm⟩ (λae sb=>?_) IX ag ap an (gF H.sz<|aY _) ak q;exact IX.turned (t':=ab) (λb o j e=>(sb.2 b j).trans e) ag ap (.inr<|gF H.sz<|aY _) an ak
 have L:∀N:Shared,N={s2 with heap:=Y,toks:=s2.toks+↑([]:List (Str×Value))}->
   codeAny (model X.prog X.w) X.A (.compLoop (.DictComp kx vx [⟨tg,a8,af,0⟩] scope pos) 0 (.ref it) (.ref s2⁻¹)<|compEnvC scope (cC X.env scope.names) f.objs.size X.env)
    (RR (.ref s2⁻¹) f.objs.size) N:=by
  rintro N rfl;refine VC (λn s'=>∃i σ' H',Inv (cZ X scope N' {s2 with heap:=f} (upd H2 s2⁻¹<|l s2⁻¹) f.objs.size fp) [] σ' H' s'/\O i s'.heap/\(∀b∈fp,H' b=none)/\W i n σ' H') ?_ m0 ⟨0,_,_,av,ao,λb j=>(am b j).1,w0⟩;rintro n s5 ⟨i,σ5,Z,I5,aj,al,w5⟩;rcases turn i n σ5 Z w5 with ⟨stop,qn⟩ | ⟨go,Nx,hN,step⟩
  .refine aX (T.done (cZ X scope N' {s2 with heap:=f} (upd H2 s2⁻¹<|l s2⁻¹) f.objs.size fp) rfl rfl rfl hc i [] s5 σ5 Z _ I5 (ac al) aj stop) ?_;rintro r s6 ⟨hr,I6⟩;subst hr;exact fin s6 σ5 Z I6 qn
  .refine aX (T.item (cZ X scope N' {s2 with heap:=f} (upd H2 s2⁻¹<|l s2⁻¹) f.objs.size fp) rfl rfl rfl hc i [] s5 σ5 Z _ I5 (ac al) aj go) ?_;rintro r s6 ⟨u,hr,h6⟩;subst hr;refine aX h6 ?_;rintro _ s7 ⟨x,H7,I7,r7,y7,aa,ay⟩;have as:=I7.pinned (ac ay)<|T.obj _ _ aa;refine aX (hg _ _ _ _ s7 σ5 H7 x u _ as r7<|step x H7 y7) ?_;rintro _ s8 ⟨σ8,H8,I8,q8⟩;refine aX (ht _ _ _ _ s8 σ8 H8 _ I8 q8) ?_;rintro ok s9 ⟨H9,I9,q9⟩;have again:∀{σa:St}{P:Hp}{sa:Shared},Inv (cZ X scope N' {s2 with heap:=f} (upd H2 s2⁻¹<|l s2⁻¹) f.objs.size fp) ([]++vF fp s7.heap) σa P sa->Nx σa P->
     ∃m,m<n/\∃i σ' H',Inv (cZ X scope N' {s2 with heap:=f} (upd H2 s2⁻¹<|l s2⁻¹) f.objs.size fp) [] σ' H' sa/\O i sa.heap/\(∀b∈fp,H' b=none)/\W i m σ' H':=λ{σa P sa} Ia na=>by
    obtain⟨m',hm,wa⟩:=hN σa P na;refine⟨m',hm,i+1,σa,P,Ia.unpinned,T.keep _ _ _ aa λb j o e=>(Ia.pin (b,o)<|fW _<|fW _<|vA j e).1,λb j=>?_,wa⟩;obtain⟨o,e,d⟩:=T.obj _ _ aa b j;exact(Ia.pin (b,o)<|fW _<|fW _<|vA j e).2.1
   cases ok with
   | false=>exact again I9 q9
   | true=>
    refine aX (hk _ _ _ _ s9 σ8 H9 _ I9 q9) ?_;rintro kv b8 ⟨kk,b3,b0,rk,ar⟩;refine aX (he _ _ _ _ b8 σ8 b3 _ b0 ar) ?_;rintro y az ⟨v,b4,b6,aq,b1⟩;refine fF (hp.put (cZ X scope N' {s2 with heap:=f} (upd H2 s2⁻¹<|l s2⁻¹) f.objs.size fp) rfl rfl rfl rfl _ az σ8 b4 _ kk kv v y _ b6 rk aq b1) ?_ λ_ _ h=>h;rintro _ bb ⟨ba,aw,b7⟩;exact again aw b7
 exact codeAny_compStart_dict (L _ rfl)<|T.self _ 0 _ _ _ ao<|L _ rfl
def PQ(o0:Addr->HO)(pt:Hp->Addr->V->V->(Hp->Prop)->Prop)(wi:TI)(src:List (Option Nat))(g:TG)(tt:TT)(tkx te:TE):TE:=λσ H Q=>wi σ H λJ H2=>∀D,H2 D=none->xO pt J g tt tkx te D (sub src σ) (upd H2 D<|o0 D) λH'=>Q (.ref D) H'
def OI{n:Addr->HO}{pt:Hp->Addr->V->V->(Hp->Prop)->Prop}(hp:xA X n pt)(Z:X.calm=true)(B:BlkN X scope N' src)(hi:PI X tg iter wi)(M:∀s3 H3 C fp,PG (cZ X scope N' s3 H3 C fp) tg g)(ht:∀s3 H3 C fp,oG (cZ X scope N' s3 H3 C fp) ifs tt)(f:∀s3 H3 C fp,PE (cZ X scope N' s3 H3 C fp) kx tkx)(he:∀s3 H3 C fp,PE (cZ X scope N' s3 H3 C fp) vx te)(r:(scope.names.all λy=>decide (y.2=.free->∀z∈scope.names,z.1=y.1->z.2=.free))=true:=by rfl')(hs:∀x,foldedSetIterable iter X.env x=pure x:=by intro _;rfl):
  PE X (.DictComp kx vx [⟨tg,iter,ifs,0⟩] scope pos) (PQ n pt wi src g tt tkx te):=by
 intro l s σ H Q I h;have E:∀x k,(x,k)∈scope.names->k=.free->∀e,(x,e)∈scope.names->e=.free:=λx k d f e u=>cS (ww4.mp r (x,k) d) f (x,e) u rfl;have o:closureFor scope X.env=pure (cC X.env scope.names):=BW λy i j=>I.ok.has y.1<|cS (ww4.mp B.frees y i) j;have O:∀y∈scope.names,y.2=.local->scope.names.lookup y.1=some .local:=λy i=>cS<|ww4.mp B.locs y i;rw[arm_eval_DictComp];refine BD (use:=none) rfl hs o B.kind O<|aX (hi l s σ H _ I h) λxv s₁ N=>aX N λad s2 h2=>?_;obtain⟨it,fp,tn,J,H2,rfl,P,T,h0,j,K⟩:=h2;refine RN (RR:=λL C=>compPost (model X.prog X.w) X.A X.xe none (EP X l σ Q) L C) (Q:=λD H'=>Q (.ref D) H') hp Z B E T P h0 j (λa b c=>M a b c fp) (λa b c=>ht a b c fp) (λa b c=>f a b c fp) (λa b c=>he a b c fp) K ?_;intro D C H' s' ab d W IX a9 ae ac aa af q;obtain⟨m,d⟩:=d;exact⟨m,d,λG Y=>⟨.ref D,H',W G Y,rfl,q⟩⟩
def SF{E:Addr->HO}{pt:Hp->Addr->V->V->(Hp->Prop)->Prop}(hp:xA X E pt)(hc:X.calm=true)(hN:X.N.Nodup)(Y:X.N[i]?=some y)(f:X.env.scope.names.lookup y=some .local)(B:BlkN X scope N' src)(hi:PI X tg iter wi)(hg:∀s3 H3 C fp,PG (cZ X scope N' s3 H3 C fp) tg g)(ht:∀s3 H3 C fp,oG (cZ X scope N' s3 H3 C fp) ifs tt)(r:∀s3 H3 C fp,PE (cZ X scope N' s3 H3 C fp) kx tkx)(he:∀s3 H3 C fp,PE (cZ X scope N' s3 H3 C fp) vx te)(ae:swapsWith (.DictComp kx vx [⟨tg,iter,ifs,0⟩] scope pos) (some<|.Name y py) spos.line X.env=pure true:=by rfl)(ac:(scope.names.all λy=>decide (y.2=.free->∀z∈scope.names,z.1=y.1->z.2=.free))=true:=by rfl')(hs:∀x,foldedSetIterable iter X.env x=pure x:=by intro _;rfl):
  PS X (.Assign [.Name y py] (.DictComp kx vx [⟨tg,iter,ifs,0⟩] scope pos) spos) (fN (PQ E pt wi src g tt tkx te)<|cG i):=by
 intro n s σ H D I h;have a4:∀x k,(x,k)∈scope.names->k=.free->∀l,(x,l)∈scope.names->l=.free:=λx k j r l aa=>cS (ww4.mp ac (x,k) j) r (x,l) aa rfl;have P:closureFor scope X.env=pure (cC X.env scope.names):=BW λy f u=>I.ok.has y.1<|cS (ww4.mp B.frees y f) u;have a0:∀y∈scope.names,y.2=.local->scope.names.lookup y.1=some .local:=λy f=>cS<|ww4.mp B.locs y f;rw[exec_Assign_Name_used _ _ _ _ ae];refine aF<|rA<|aF ?_;show wpAny _ X.A (do let _ <-comprehension (.DictComp kx vx [⟨tg,iter,ifs,0⟩] scope pos) scope X.env _ (newDict) false (eval iter X.env) (some<|assign (.Name y py) X.env)) _ _ s;have h':wi σ H λJ H2=>∀d,H2 d=none->xO pt J g tt tkx te d (sub src σ) (upd H2 d<|E d) λH'=>D.nx (σ.set i<|some<|.ref d) H':=h;refine aF<|fF (BD (use:=some<|assign (.Name y py) X.env) (Q:=λ_ s'=>SP X n D .next s') rfl hs P B.kind a0<|aX (hi n s σ H _ I h') λxv s₁ h₁=>aX h₁ λam s2 h2=>?_) (λ_ s' hq=>bF<|bF hq) λ_ _ e=>e
 obtain⟨it,fp,tn,J,H2,rfl,I2,T,h0,u,W⟩:=h2;refine RN (RR:=λa9 C=>compPost (model X.prog X.w) X.A X.xe (some<|assign (.Name y py) X.env) (λ_ s'=>SP X n D .next s') a9 C) (Q:=λd H'=>D.nx (σ.set i<|some<|.ref d) H') hp hc B a4 T I2 h0 u (λa b c=>hg a b c fp) (λa b c=>ht a b c fp) (λa b c=>r a b c fp) (λa b c=>he a b c fp) W ?_;intro d C H' s' aj j ak IX a7 G K a8 O q;obtain⟨m,j⟩:=j;show wpAny _ X.A (assign (.Name y py) X.env<|.ref d) _ _ _;refine wpAny_assign_Name ?_;refine JZ (v:=.ref d) IX hN Y (.inl f) rfl (λZ ah a2=>?_)<|.inr f;obtain⟨a,ai,L⟩:=a2;have M:C≠a:=by
  rintro rfl;rcases L with z | z
  .exact G z
  .exact K _ _ z rfl
 refine⟨m,j.sameBut ai M,λal sb=>⟨_,H',?_,q⟩⟩;exact ah.turned (t':=Z.toks) (λb o hb e=>(sb.2 b hb).trans e) a7 G (.inr a8) K O
end
def zT(hi:Int)(n:Nat):It:=⟨λi _=>i<n,λi H x H'=>H'=H/\x=.int (hi-i),λi _=>n<=i⟩
def TF{P:Program}{w:World}{K:Fq}{tg:Expr}(it:Addr)(hi:Int)(n:Nat):eO P w K tg (zT hi n) [it] it (λi h=>IsRangeIter h it (hi+(i:Nat)*-1) ((n:Int)-(i:Nat))<|-1) where
 mem:=by simp
 obj:=λi h st b a=>by
  have e:b=it:=by simpa using a
  subst e;exact⟨_,st,λv z=>by
   have J:Data.fields _=Data.cell v:=z;cases J⟩
 keep:=λi h h' st k=>k it (by simp) _ st
 item:=by
  intro X l q m B i G s σ H E I d st u;subst l q m;obtain⟨r,A,O,x,j,f⟩:=d it (by simp);have W:=Walks.range (prog:=X.prog) (w:=X.w) (I.ok.hd B) it hi (-1) n;refine W.item i s _ _ u st λv h' tk T C L=>?_;obtain⟨t,rfl⟩:=T;have M:Inv X G σ H {s with heap:=h',toks:=tk}:=I.turned (λb o a e=>L b o (by simpa using a) e) r A x j f;refine⟨_,rfl,oK (s:={s with heap:=h',toks:=tk}) (n:="range_iterator") C rfl rfl (by decide) ⟨.int<|hi-i,H,M,⟨t,?_⟩,⟨rfl,rfl⟩,C,λb a=>(d b a).1⟩⟩;have e:hi+(i:Int)*-1=hi-i:=by lia
  rw[e]
 done:=by
  intro X l q m B i G s σ H E I d st u;subst l q m;obtain⟨r,A,O,x,j,f⟩:=d it (by simp);exact wpAny_pyNext_range_end (I.ok.hd B) st (by have:n<=i:=u;lia) λh' N=>⟨rfl,I.turned (t':=s.toks) (λb o a e=>N b o a e) r A x j f⟩
 self:=λ_ _ _ _ _ st h=>wpAny_pyIter_rangeiter st h
def Cb(f:-(2 ^ 30)<=a)(d:a<2 ^ 30)(h:-(2 ^ 30)<=b)(i:b<2 ^ 30):Builtin.Range.small a b (-1)=true:=by
 unfold Builtin.Range.small;have e:Builtin.Range.rangeSize a b (-1)=if a > b then a-b else 0:=by
  unfold Builtin.Range.rangeSize;simp only[show ¬((-1:Int) > 0) by decide,iO,show -(-1:Int)=1 by decide,Int.ediv_one]
  split <;> lia
 rw[e];simp only[Builtin.Range.rangeFitsLong,oD,Bool.or_eq_true,decide_eq_true_eq,beq_iff_eq,show ¬((-1:Int) > 0) by decide,iO]
 split <;> lia
def zH(ta:TA):TI:=λσ H R=>ta σ H λvs H1=>∃i j:Int,vs=[.int i,.int j,.int<|-1]/\(-(2 ^ 30)<=i/\i<2 ^ 30/\-(2 ^ 30)<=j/\j<2 ^ 30)/\R (zT i (i-j).toNat) H1
def WL(z:Gl X "range")(G:X.mg "range"=none)(x:PA X [a,b,c] ta)(hs:starEach [a,b,c] X.env=[(false,eval a X.env),(false,eval b X.env),(false,eval c X.env)]:=by rfl)(m:starEach [b,c] X.env=[(false,eval b X.env),(false,eval c X.env)]:=by rfl):PI X tg (.Call (.Name "range" p) [a,b,c] [] pos) (zH ta):=by
 intro n s σ H R I h;refine Call_ (mI I z G boot_range<|mX (aX (x pos n s σ H _ I h) λus d ⟨vs,H1,B,A,l⟩=>?_) (by rw[hs,m])<|by rw[m];rfl);obtain⟨i,j,e,⟨l,w,C,u⟩,q⟩:=l;subst e;cases A with
 | cons r rr=>
  cases rr with
  | cons r' rr=>
   cases rr with
   | cons r'' rr=>
    cases rr;obtain⟨t,rfl⟩:=r;obtain⟨t',rfl⟩:=r';obtain⟨J,rfl⟩:=r'';refine call_range_3 (by decide) ?_ (eP<|PyProof.noPylong_small<|by decide);refine wpAny_pyIter_range (IsRange.new ..) (Cb l w C u) ?_;have f:Inv X n σ H1 {d with heap:=d.heap.push {cls:=.type "range",data:=.fields #[.int i t,.int j t',.int (-1) J]},toks:=d.toks}:=B.kept λb o e=>bS _ e;refine⟨_,[_],_,_,H1,rfl,f.kept (t':=d.toks) λb o e=>bS _ e,TF _ i (i-j).toNat,?_,λb L=>?_,q⟩
    .have E:i+((0:Nat):Int)*-1=i:=by lia
     have K:(((i-j).toNat:Nat):Int)-((0:Nat):Int)=Builtin.Range.rangeSize i j (-1):=by
      unfold Builtin.Range.rangeSize;simp only[show ¬((-1:Int) > 0) by decide,iO,show -(-1:Int)=1 by decide,Int.ediv_one]
      split <;> lia
     show IsRangeIter _ _ (i+((0:Nat):Int)*-1) ((((i-j).toNat:Nat):Int)-((0:Nat):Int))<|-1;rw[E,K];exact dD _ rfl
    .rw[wr8.mp L];exact f.fpOk (aY _)<|f.hok.fresh<|aY _
def XQ{hi:Int}{n:Nat}{g:TG}{tb:TS}{D:cU}{σ:St}{H:Hp}(a:Nat->St->Hp->Prop)(h0:a 0 σ H)
  (hs:∀i σ H,i<n->a i σ H->g (.int<|hi-i) σ H λσ2 H2=>tb {D with nx:=a<|i+1,ct:=a<|i+1,bk:=D.nx} σ2 H2) (hd:∀σ H,a n σ H->D.nx σ H):
  ∃W:Nat->Nat->St->Hp->Prop,(∃m,W 0 m σ H)/\∀i m σ H,W i m σ H->
   ((zT hi n).stop i H/\D.nx σ H)\/((zT hi n).go i H/\∃N:St->Hp->Prop,(∀σ' H',N σ' H'->∃m',m'<m/\W (i+1) m' σ' H')/\∀x H',(zT hi n).yld i H x H'->g x σ H' λσ2 H2=>tb {D with nx:=N,ct:=N,bk:=D.nx} σ2 H2):=by
 exists λi m σ H=>m=n-i/\i<=n/\a i σ H,⟨n,by simp,bT _,h0⟩;rintro i m σ H ⟨rfl,hi,p⟩
 by_cases b:i<n
 .refine .inr ⟨b,a<|i+1,λσ' H' d=>⟨n-(i+1),by lia,rfl,b,d⟩,λx H' y=>?_⟩;obtain⟨e,y⟩:=y;subst e y;exact hs i σ _ b p
 .have e:i=n:=by lia
  subst e;exact .inl ⟨aY _,hd σ H p⟩
def FT:V->Option Int->Option Int->Hp->VK->Prop:=λx lo hi H Q=>∃z,x=.str z/\↑z<=sizeLine/\Q (.str<|Txt.slice z lo hi) H
def QJ:SlR X FT:=by
 intro o s σ H x v r B lo hi e Q I m hs n d h;obtain⟨z,rfl,hz,q⟩:=h;obtain⟨t,rfl⟩:=m;exists "str",_,F.slot_str_getitem.lookup,typeIs_str _ _ _;have fin:∀(l u:Option (Int×Tok)),s.heap.IsSlice e l u none->l.map (·.1)=lo->u.map (·.1)=hi->wpAny (model X.prog X.w) X.A (getItem (.str z t)<|.ref e) (EP X o σ Q) X.xe s:=λl u f a b=>by
  refine wpAny_getItem_str_slice (l:=l) (u:=u) (st:=none) f rfl<|post_val_or_str ⟨?_,λt' k=>?_⟩
  .have:=Txt.slice_le z lo hi;rw[<-a,<-b]at this;exact gF this hz
  .refine⟨.str<|Txt.slice z lo hi,H,I.tok _,⟨t',?_⟩,q⟩;rw[<-a,<-b];rfl
 cases n with
 | none=>cases d with
  | none=>exact fin none none hs rfl rfl
  | int j tj=>exact fin none (some (j,tj)) hs rfl rfl
 | int i ti=>cases d with
  | none=>exact fin (some (i,ti)) none hs rfl rfl
  | int j tj=>exact fin (some (i,ti)) (some (j,tj)) hs rfl rfl
def xJ:R2:=λx y H Q=>∃z n,x=.str z/\y=.int n/\(n=0\/n=1)/\Q (.str<|if n=0 then Str.empty else z) H
def WO:OpR X (binaryOp .Mult) xJ:=by
 intro f s σ H x y v u Q I b e h;obtain⟨z,n,rfl,rfl,a,q⟩:=h;obtain⟨t,rfl⟩:=b;obtain⟨t',rfl⟩:=e;refine SB.mul ⟨?_,?_,?_⟩ λd k=>⟨.str<|Txt.mul z n,H,I.tok _,⟨d,rfl⟩,?_⟩
 .rcases a with rfl | rfl <;> decide
 .rcases a with rfl | rfl
  .intro h;exact absurd (by decide) h
  .intro _ h;simp at h
 .rcases a with rfl | rfl
  .intro h;exact absurd (by decide) h
  .intro _ h;simp at h
 .rcases a with rfl | rfl
  .exact q
  .exact q
def zA(K:Fq)(neg:Bool):R2:=λx y H Q=>∃a b xs,x=.ref a/\y=.ref b/\a≠b/\SqL K H a xs/\SqL K H b []/\Q (.bl<|xs.isEmpty != neg) H
def NN(d:X.A.units<cLine):OpR X (compareOp .Eq) (zA X.K false):=by
 intro m s σ H x y v u Q I f l h;obtain⟨a,b,xs,rfl,rfl,o,h1,h2,q⟩:=h;cases f;cases l;obtain⟨its,r,p,hz⟩:=I.list h1;obtain⟨n,i,p2,_⟩:=I.list h2;cases i;show wpAny _ _ (richCompare .Eq (.ref a)<|.ref b) _ _ _;cases r with
 | nil=>exact SeqAt.RcAt.lists (e:=λ_=>true) p.isList p2.isList rfl d (λj h=>absurd h<|by simp) _ _ _ _ ⟨.bl true,H,I,by simp;rfl,q⟩
 | cons r rr=>exact SeqAt.RcAt.lists_lengths p.isList p2.isList (by simp) d _ _ _ _ ⟨.bl false,H,I,rfl,q⟩
def EY(d:X.A.units<cLine):OpR X (compareOp .NotEq) (zA X.K true):=by
 intro m s σ H x y v u Q I f l h;obtain⟨a,b,xs,rfl,rfl,o,h1,h2,q⟩:=h;cases f;cases l;obtain⟨its,r,p,hz⟩:=I.list h1;obtain⟨n,i,p2,_⟩:=I.list h2;cases i;show wpAny _ _ (richCompare .NotEq (.ref a)<|.ref b) _ _ _;cases r with
 | nil=>exact SeqAt.RcNeAt.lists (e:=λ_=>true) p.isList p2.isList rfl d (λj h=>absurd h<|by simp) _ _ _ _ ⟨.bl false,H,I,by simp;rfl,q⟩
 | cons r rr=>exact SeqAt.RcNeAt.lists_lengths p.isList p2.isList (by simp) d _ _ _ _ ⟨.bl true,H,I,rfl,q⟩
def YN(its:List Value):slicePick its.toArray none none (some<|-1)=its.reverse.toArray:=by
 unfold slicePick;have e:sliceBounds none none (some<|-1) its.toArray.size=((↑its:Int)-1,-1,-1):=by
  unfold sliceBounds;simp
 rw[e];unfold sliceRange;simp only[show ¬((-1:Int) > 0) by decide,iO,show -(-1:Int)=1 by decide,Int.ediv_one];have f:(if (↑its:Int)-1 > -1 then(↑its:Int)-1 - -1 - -1-1 else 0).toNat=↑its:=by split <;> lia
 rw[f]
 congr 1
 rw[List.filterMap_map];refine List.ext_getElem? λi=>?_;have a:∀(n:Nat),n<=↑its->(List.range n).filterMap ((λx=>its.toArray[x]?)∘λ(k:Nat)=>((↑its:Int)-1+-1*(k:Int)).toNat)=its.reverse.take n:=by
  intro n
  induction n with
  | zero=>intro _;simp
  | succ n ih=>
   intro l;rw[List.range_succ,List.filterMap_append,ih (by lia),fE]
   congr 1
   have h:((↑its:Int)-1+-1*(n:Int)).toNat=↑its-1-n:=by lia
   have b:its[↑its-1-n]?=some its[↑its-1-n]:=bH (by lia);have j:its.reverse[n]?=some its[↑its-1-n]:=by rw[List.getElem?_reverse<|by lia];exact b
   rw[j];have d:((λx=>its.toArray[x]?)∘λ(k:Nat)=>((↑its:Int)-1+-1*(k:Int)).toNat) n=some its[↑its-1-n]:=by
    show its.toArray[((↑its:Int)-1+-1*(n:Int)).toNat]?=_;rw[h];simpa using b
   rw[EI,d];rfl
 rw[a ↑its (aY _)];rw[eM<|by simp]
def yC(K:Fq)(te:TE)(ts:TE):TE:=λσ H Q=>te σ H λx H1=>ts σ H1 λy H2=>y=.int (-1)/\∃a xs,x=.ref a/\SqL K H2 a xs/\∀p,H2 p=none->Q (.ref p) (upd H2 p<|.lst xs.reverse)
def OO{e st:Expr}{te ts:TE}{p2 pos:Pos}(he:PE X e te)(C:PE X st ts):PE X (.Subscript e (.Slice none none (some st) p2) pos) (yC X.K te ts):=by
 intro d s σ H Q I h;refine Subscript_<|aX (he d s σ H _ I h) ?_;rintro v u ⟨x,H1,m,l,n⟩;refine wpAny_Slice ?_;rw[evalPart_none];refine bF<|bF ?_;refine aX (C d u σ H1 _ m n) ?_;rintro vs s3 ⟨y,H3,z,G,j,a,xs,ex,E,q⟩;subst j ex;obtain⟨tk,rfl⟩:=G;obtain rfl:v=Value.ref a:=l;have f:Inv X d σ H3 {s3 with heap:=s3.heap.push {cls:=.type "slice",data:=.fields #[.none,.none,.int (-1) tk]}}:=z.kept (t':=s3.toks) λb B q=>bS _ q;show wpAny (model X.prog X.w) X.A (subscriptTail e (.Slice none none (some st) p2) (.ref a)<|.ref s3⁻¹) (EP X d σ Q) X.xe {s3 with heap:=s3.heap.push {cls:=.type "slice",data:=.fields #[.none,.none,.int (-1) tk]}};obtain⟨its,r,i,hz⟩:=f.list E;have J:=↑r;refine tail_any (ops:=[.ref a,.ref s3⁻¹]) i.isList.typeIs slot_list_getitem.lookup ?_ (by with_unfolding_all rfl);refine wpAny_getItem_list_slice i.isList (Heap.IsSliceOf.new ..) .none .none (.int (-1) tk) (by simp) ?_ (by rw[cN] <;> lia);rw[YN];refine⟨.ref _,_,f.laid (t':=s3.toks) (o:=.lst xs.reverse) (λb B q=>bS _ q) (aY _) ?_,rfl,q _<|f.hok.fresh<|aY _⟩;exact⟨by rw[iE];exact hz,_,0,r.reverse,dD _ rfl⟩
def Inv.turnedNew{X:Cx}{l:List (Addr×Obj)}{σ:St}{H:Hp}{s:Shared}{h':Heap}{t':Nat}{ch:List Addr}{xs:List V}{its:List Value}(I:Inv X l σ H s)(i:∀b∈ch,dN X l H b)
  (keep:∀b o,b∉ch->s.heap.get? b=some o->h'.get? b=some o) (C:h'.get? s⁻¹=some {cls:=.type "tuple",data:=.seq its.toArray}) (r:Vals xs its) (hz:↑xs<=sizeLine):
  Inv X l σ (upd H s⁻¹<|.tup xs) {s with heap:=h',toks:=t'}:=by
 have B:∀b u,H b=some u->b∉ch:=λb u e a=>by
  have:=(i b a).1;rw[this]at e;cases e
 have d:Inv X l σ H {s with heap:=h',toks:=t'}:=by
  refine I.step (g':=s.gens) (d':=s.drawn) (ch:=ch) (λb a=>⟨(i b a).2.2.2.1,(i b a).2.1,(i b a).2.2.2.2.1,(i b a).2.2.2.2.2⟩) (λb o _ _ f e _=>keep b o f e) (λb o _ _ f e _=>⟨o.slots,keep b o f e⟩)
   (λ_ _ _ _ n=>n) (λb o f e=>⟨o,keep b o f e⟩) (λ_ _ e=>e) (λ_ _ _ e=>e) (λb ps e=>⟨#[],by rw[e];simp⟩) (λm E=>?_) (λb u eq=>?_) I.bare
  .obtain⟨o,es,ep,J,r⟩:=E;exact⟨o,es,ep,keep _ o (λz=>(i _ z).2.1 rfl) J,r⟩
  .refine(I.hok b u eq).stay (λc v f q=>keep c v ?_ q) (λ_ q=>q) λ_ _ q=>q;rcases f with z | z
   .rw[z];exact B b u eq
   .exact B c _ z
 have j:H s⁻¹=none:=I.hok.fresh<|aY _;have base:=d.base;have A:HOk X.prog X.w (upd H s⁻¹<|.tup xs) h':=by
  intro b z q
  by_cases a:b=s⁻¹
  .subst a;rw[zb1]at q;cases q;exact⟨⟨hz,_,C,rfl⟩,its,r,_,C,rfl,_,rfl⟩
  .rw[aC a]at q;refine(d.hok b z q).stay (λc L _ r=>r) (λc r=>?_) λc xs r=>?_
   .rw[aC<|bA r j];exact r
   .rw[aC<|bA r j];exact r
 have old:∀b o',X.s₀.heap.get? b=some o'->b≠s⁻¹:=λb o' e=>bV<|fC (bN e) I.sz;refine⟨d.ok,d.os,d.bare,⟨base.keep,base.slot,λb x q n K=>?_,base.there,λb ys q=>?_,λb x y q=>?_,λb ps q=>?_⟩,d.loc,d.cell,?_,λy c h=>?_,λp hp=>?_,A,d.len⟩
 .rw[aC<|old b x q];exact base.free b x q n K
 .have:=base.tups b ys q;rw[aC<|bA this j];exact this
 .have:=base.frzs b x y q;rw[aC<|bA this j];exact this
 .obtain⟨m,this⟩:=base.tbls b ps q;exact⟨m,by rw[aC<|bA this j];exact this⟩
 .rw[aC<|bV I.lt];exact I.free
 .obtain⟨v,q⟩:=I.cell y c h;rw[aC<|bV q.lt];exact I.freeC y c h
 .obtain⟨h1,h2,G⟩:=d.pin p hp;have:=bN (I.pin p hp).1;exact⟨h1,by rw[aC<|bV this];exact h2,G⟩
def Inv.turnedAll{X:Cx}{h:List (Addr×Obj)}{σ:St}{H:Hp}{s:Shared}{h':Heap}{t':Nat}{ch:List Addr}(I:Inv X h σ H s)(d:∀b∈ch,dN X h H b)
  (keep:∀b o,b∉ch->s.heap.get? b=some o->h'.get? b=some o):Inv X h σ H {s with heap:=h',toks:=t'}:=by
 have i:∀b u,H b=some u->b∉ch:=λb u e f=>by
  have:=(d b f).1;rw[this]at e;cases e
 refine I.step (g':=s.gens) (d':=s.drawn) (ch:=ch) (λb f=>⟨(d b f).2.2.2.1,(d b f).2.1,(d b f).2.2.2.2.1,(d b f).2.2.2.2.2⟩) (λb o _ _ a e _=>keep b o a e) (λb o _ _ a e _=>⟨o.slots,keep b o a e⟩)
  (λ_ _ _ _ n=>n) (λb o a e=>⟨o,keep b o a e⟩) (λ_ _ e=>e) (λ_ _ _ e=>e) (λb ps e=>⟨#[],by rw[e];simp⟩) (λm j=>?_) (λb u eq=>?_) I.bare
 .obtain⟨o,es,ep,l,r⟩:=j;exact⟨o,es,ep,keep _ o (λz=>(d _ z).2.1 rfl) l,r⟩
 .refine(I.hok b u eq).stay (λc v a q=>keep c v ?_ q) (λ_ q=>q) λ_ _ q=>q;rcases a with z | z
  .rw[z];exact i b u eq
  .exact i c _ z
def ItB(tp:Bool)(h:Heap)(it l:Addr)(k:Nat):Prop:=match tp with | true=>h.IsTupleIter it l k | false=>h.IsListIter it l k
def SeB(tp:Bool)(h:Heap)(l:Addr)(xs:Array Value):Prop:=match tp with | true=>h.IsTuple l xs | false=>h.IsList l xs
theorem ItB.at(x:ItB tp h it l k)(e:∀o,h.get? it=some o->h'.get? it=some o):ItB tp h' it l k:=by
 cases tp with
 | true=>exact Heap.IsTupleIter.at x e
 | false=>exact Heap.IsListIter.at x e
theorem SeB.at(x:SeB tp h l xs)(e:∀o,h.get? l=some o->h'.get? l=some o):SeB tp h' l xs:=by
 cases tp with
 | true=>obtain⟨o,a,r⟩:=(show h.IsTuple l xs from x);exact⟨o,e _ a,r⟩
 | false=>exact Heap.IsList.at x e
def ItB.obj(x:ItB tp h it l k):∃o,h.get? it=some o/\∀v,o.data≠.cell v:=by
 cases tp with
 | true=>obtain⟨o,e,c,d⟩:=(show h.IsTupleIter it l k from x);exact⟨o,e,λv z=>by rw[d]at z;cases z⟩
 | false=>obtain⟨o,e,c,d⟩:=(show h.IsListIter it l k from x);exact⟨o,e,λv z=>by rw[d]at z;cases z⟩
def wV(a:ItB tp s.heap it l k)(hl:SeB tp s.heap l items)(d:items[k]?=some x)(e:∀h',ItB tp h' it l (k+1)->Heap.SameBut it s.heap h'->Q x {s with heap:=h'}):wpAny (model prog w) A (Builtin.SmallTypes.nextOf<|.ref it) Q E s:=by
 cases tp with
 | false=>exact wpAny_nextOf_list_item a hl d e
 | true=>
  have a:s.heap.IsTupleIter it l k:=a;obtain⟨o,b,i,hd⟩:=id a;obtain⟨j,f,_,m,h⟩:=(show s.heap.IsTuple l items from hl);unfold Builtin.SmallTypes.nextOf;refine aF<|kQ (name:=Str.ofString "__next__") a.typeIs AY<|iY AY a.typeIs F.entry_tuple_iterator_next ?_<|F.args_tuple_iterator_next_1 _;show wpAny _ _ (field (.ref it) 0 >>= _) _ _ s;refine aF<|eA b hd (x:=.ref l) rfl ?_;show wpAny _ _ (if (Value.ref l == Value.none)=true then _ else _) _ _ s;rw[bD (show ¬((Value.ref l == Value.none)=true) from dX)];show wpAny _ _ (field (.ref it) 1 >>= _) _ _ s;refine aF<|eA b hd (x:=.int k 0) rfl ?_;show wpAny _ _ (seqItems? (.ref l) >>= _) _ _ s;refine aF<|iZ f h ?_;simp only[yB,d];refine aF<|wpAny_setField b hd (by simp)<|bF ⟨x,rfl,bF<|e _ (show Heap.IsTupleIter _ it l (k+1) from ?_)<|Heap.SameBut.update ..⟩;exact⟨_,uE _ b<|Obj.isFreed_of_fields<|Obj.data_mapFields hd _,(Obj.cls_mapFields ..).trans i,by rw[Obj.data_mapFields hd];simp[rawInt]⟩
def JG(f:A.handled=none)(b:ItB tp s.heap it l k)(hl:SeB tp s.heap l items)(h:items[k]?=none)(i:∀h' e,Heap.ExtBut it s.heap h'->(∃o,h'.get? e=some o/\o.cls=.type "StopIteration")->E (.ref e) {s with heap:=h'}):wpAny (model prog w) A (Builtin.SmallTypes.nextOf<|.ref it) Q E s:=by
 cases tp with
 | false=>exact wpAny_nextOf_list_end f b hl h i
 | true=>
  have b:s.heap.IsTupleIter it l k:=b;obtain⟨o,d,r,hd⟩:=id b;obtain⟨q,j,_,u,n⟩:=(show s.heap.IsTuple l items from hl);unfold Builtin.SmallTypes.nextOf;refine aF<|kQ (name:=Str.ofString "__next__") b.typeIs AY<|iY AY b.typeIs F.entry_tuple_iterator_next ?_<|F.args_tuple_iterator_next_1 _;show wpAny _ _ (field (.ref it) 0 >>= _) _ _ s;refine aF<|eA d hd (x:=.ref l) rfl ?_;show wpAny _ _ (if (Value.ref l == Value.none)=true then _ else _) _ _ s;rw[bD (show ¬((Value.ref l == Value.none)=true) from dX)];show wpAny _ _ (field (.ref it) 1 >>= _) _ _ s;refine aF<|eA d hd (x:=.int k 0) rfl ?_;show wpAny _ _ (seqItems? (.ref l) >>= _) _ _ s;refine aF<|iZ j n ?_;simp only[yB,h];refine aF<|mK<|aF<|wpAny_setField d hd (by simp) ?_;show wpAny _ _ (newExc (.type "StopIteration") [] >>= _) _ _ _;refine aF ?_;simp only[newExc,newTuple];refine aF (kF ?_<|by size_fits);refine aF (m:=firstArgMember _ _)<|wpAny_of_eq (a:=Value.none) (by first | rfl | (simp only[firstArgMember];rfl)) ?_;refine kF ?_ (by size_fits);simp only[raiseNew];refine aF<|wpAny_handled ?_
  first | rw[show A.in1.handled=none from f] | rw[f]
  refine aF<|bF<|wpAny_throw ?_;exact i _ _ (((Heap.SameBut.update ..).extBut.push _).push _) ⟨_,dD _ rfl,rfl⟩
def OY{p q:Bool}{z TI TO h f B u:Addr}{k:Nat}{xs ys:Array Value}{x y a b:Value}{Q:Option Value->Shared->Prop}(D:ZipApart z TI TO h f B u)
  (hz:IsZip s.heap z TI TO .none) (ak:IsPair s.heap TI (.ref h) (.ref f)) (aq:IsPair s.heap TO a b)
  (h1:ItB p s.heap h B k) (h2:ItB q s.heap f u k) (ao:SeB p s.heap B xs) (aj:SeB q s.heap u ys) (hx:xs[k]?=some x) (hy:ys[k]?=some y)
  (hQ:∀h',IsZip h' z TI TO (rawInt s⁻¹)->IsPair h' TO x y->ItB p h' h B (k+1)->ItB q h' f u (k+1)->IsPair h' s⁻¹ x y->
   (∀c o,c≠z->c≠TO->c≠h->c≠f->s.heap.get? c=some o->h'.get? c=some o)->Q (some<|.ref s⁻¹) {s with heap:=h'}):
  wpAny (model prog w) A (pyNext<|.ref z) Q E s:=by
 have P:s.TypeIs (.ref z) "zip":=⟨_,hz,rfl⟩;unfold pyNext;refine aF<|tS<|kQ (name:=Str.ofString "__next__") P mV<|iY mV P F.entry_zip_next ?_<|DC _;show wpAny _ _ (field (.ref z) 2 >>= _) _ _ _;refine aF<|eA hz rfl (x:=.bool false) rfl ?_;show wpAny _ _ (field (.ref z) 3 >>= _) _ _ _;refine aF<|eA hz rfl (x:=.ref TI) rfl<|aF<|iZ ak rfl ?_;show wpAny _ _ (Builtin.SmallTypes.ownedTupleIsFree (.ref z) >>= _) _ _ _;refine aF ?_;unfold Builtin.SmallTypes.ownedTupleIsFree;refine aF<|eA hz rfl (x:=.none) rfl<|bF ?_;simp only[if_true];refine aF<|mK<|aF<|eA hz rfl (x:=.ref TO) rfl<|aF<|kP hz (by simp) λh₁ O i=>?_;replace O:IsZip h₁ z TI TO .ellipsis:=O;refine aF ?_;simp only[List.zipIdx_cons,List.zipIdx_nil,zJ,List.forIn_nil];refine aF<|aF<|wpAny_onRaise ?_;show wpAny _ _ (Builtin.SmallTypes.nextOf (.ref h) >>= _) _ _ _;refine aF<|wV (h1.at λo e=>i.extBut _ _ D.i1z e) (ao.at λo e=>i.extBut _ _ D.l1z e) hx λh₂ am l=>bF ?_;have Z:IsPair h₂ TO a b:=l.extBut _ _ D.TOi1<|i.extBut _ _ D.TOz aq;refine aF<|iZ Z rfl<|aF<|wpAny_updateSeq_pair Z λh₃ M m=>?_;replace M:IsPair h₃ TO x b:=M;refine aF<|wpAny_letGo<|bF ?_;refine aF<|aF<|wpAny_onRaise ?_;show wpAny _ _ (Builtin.SmallTypes.nextOf (.ref f) >>= _) _ _ _;refine aF<|wV (h2.at λo e=>m.extBut _ _ D.TOi2.symm<|l.extBut _ _ D.i12.symm<|i.extBut _ _ D.i2z e) (aj.at λo e=>m.extBut _ _ D.l2TO<|l.extBut _ _ D.l2i1<|i.extBut _ _ D.l2z e) hy λh₄ ah r=>bF ?_
 have T:IsPair h₄ TO x b:=r.extBut _ _ D.TOi2 M;refine aF<|iZ T rfl<|aF<|wpAny_updateSeq_pair T λd J n=>?_;replace J:IsPair d TO x y:=J;refine aF<|wpAny_letGo<|bF<|bF ?_;refine aF<|iZ J rfl<|aF<|wpAny_newTuple ?_;have hsz:d.objs.size=s⁻¹:=by rw[n.1,r.1,m.1,l.1,i.1]
 have Y:IsZip d z TI TO .ellipsis:=n.extBut _ _ D.TOz.symm<|r.extBut _ _ D.i2z.symm<|m.extBut _ _ D.TOz.symm<|l.extBut _ _ D.i1z.symm O;have an:∀c o,c≠z->c≠TO->c≠h->c≠f->s.heap.get? c=some o->d.get? c=some o:=λc o j G N K e=>
  n.extBut _ _ G (r.extBut _ _ K<|m.extBut _ _ G<|l.extBut _ _ N<|i.extBut _ _ j e)
 have ap:ItB p d h B (k+1):=am.at λo e=>n.extBut _ _ D.TOi1.symm<|r.extBut _ _ D.i12<|m.extBut _ _ D.TOi1.symm e;have ai:ItB q d f u (k+1):=ah.at λo e=>n.extBut _ _ D.TOi2.symm e;have a6:z<d.objs.size:=bN Y;show wpAny _ _ (Builtin.SmallTypes.ownedTupleHandOut (.ref z) (.ref d.objs.size) >>= _) _ _ _;refine aF ?_;unfold Builtin.SmallTypes.ownedTupleHandOut;have al:IsZip (d.push {cls:=.type "tuple",data:=.seq #[x,y]}) z TI TO .ellipsis:=bS _ Y;refine aF<|kP al (by simp) λh₇ L ae=>?_;replace L:IsZip h₇ z TI TO (rawInt d.objs.size):=L;refine kP L (by simp) λC I W=>?_
 replace I:IsZip C z TI TO (rawInt d.objs.size):=I;have H:∀c o,c≠z->d.get? c=some o->C.get? c=some o:=λc o j e=>W.extBut _ _ j<|ae.extBut _ _ j<|bS _ e;have X:IsPair C d.objs.size x y:=W.extBut _ _ (dI a6)<|ae.extBut _ _ (dI a6)<|dD _ rfl;rw[hsz]at I X;refine bF ⟨_,rfl,?_⟩;show wpAny _ _ (pure<|some<|Value.ref d.objs.size) _ _ _;refine bF ?_;rw[hsz];exact hQ C I (H _ _ D.TOz J) (ap.at λo e=>H _ o D.i1z e) (ai.at λo e=>H _ o D.i2z e) X λc o j G N K e=>H c o j<|an c o j G N K e
def SX{p q:Bool}{z TI TO m l K H:Addr}{k:Nat}{xs ys:Array Value}{a b:Value}{Q:Option Value->Shared->Prop}(L:A.handled=none)(D:ZipApart z TI TO m l K H)
  (hz:IsZip s.heap z TI TO .none) (ag:IsPair s.heap TI (.ref m) (.ref l)) (ah:IsPair s.heap TO a b)
  (h1:ItB p s.heap m K k) (h2:ItB q s.heap l H k) (ai:SeB p s.heap K xs) (af:SeB q s.heap H ys) (a7:xs[k]?=none\/ys[k]?=none)
  (hQ:∀h',(∀c o,c≠z->c≠TO->c≠m->c≠l->s.heap.get? c=some o->h'.get? c=some o)->Q none {s with heap:=h'}):wpAny (model prog w) A (pyNext<|.ref z) Q E s:=by
 have hT:s.TypeIs (.ref z) "zip":=⟨_,hz,rfl⟩;unfold pyNext;have stop:∀(h':Heap)(e:Addr),(∀c o,c≠z->c≠TO->c≠m->c≠l->s.heap.get? c=some o->h'.get? c=some o)->(∃o,h'.get? e=some o/\o.cls=.type "StopIteration")->
   wpAny (model prog w) A (do if (<-isInstance (.ref e) (.type "StopIteration"))=true then pure none else throw (.ref e)) Q E {s with heap:=h'}:=λh' e hk he=>by
  obtain⟨o,ho,hc⟩:=he;exact aF<|wpAny_isInstance (T:="StopIteration") (b:=true) ⟨o,ho,hc⟩ isSubtype_stop<|bF<|hQ _ hk
 refine aF<|tS<|kQ (name:=Str.ofString "__next__") hT mV<|iY mV hT F.entry_zip_next ?_<|DC _;show wpAny _ _ (field (.ref z) 2 >>= _) _ _ _;refine aF<|eA hz rfl (x:=.bool false) rfl ?_;show wpAny _ _ (field (.ref z) 3 >>= _) _ _ _;refine aF<|eA hz rfl (x:=.ref TI) rfl<|aF<|iZ ag rfl ?_;show wpAny _ _ (Builtin.SmallTypes.ownedTupleIsFree (.ref z) >>= _) _ _ _;refine aF ?_;unfold Builtin.SmallTypes.ownedTupleIsFree;refine aF<|eA hz rfl (x:=.none) rfl<|bF ?_;simp only[if_true];refine aF<|mK<|aF<|eA hz rfl (x:=.ref TO) rfl<|aF<|kP hz (by simp) λG u f=>?_;replace u:IsZip G z TI TO .ellipsis:=u;refine aF ?_;simp only[List.zipIdx_cons,List.zipIdx_nil,zJ,List.forIn_nil];refine aF<|aF<|wpAny_onRaise ?_;show wpAny _ _ (Builtin.SmallTypes.nextOf (.ref m) >>= _) _ _ _;have W:=h1.at (h':=G) λo e=>f.extBut _ _ D.i1z e;have Y:=ai.at (h':=G) λo e=>f.extBut _ _ D.l1z e;cases hx:xs[k]? with
 | none=>
  refine aF<|JG L W Y hx λJ e d he=>?_;obtain⟨C,j,n⟩:=he;have O:IsZip J z TI TO .ellipsis:=d _ _ D.i1z.symm u;have B:e≠z:=λx=>by subst x;rw[O]at j;cases j;simp at n
  refine kP O (by simp) λN _ i=>?_
  exact stop N e (λc o r _ I _ x=>i.extBut _ _ r<|d _ _ I<|f.extBut _ _ r x) ⟨C,i.extBut _ _ B j,n⟩
 | some x=>
  have hy:ys[k]?=none:=by rcases a7 with h | h;rw[hx]at h;cases h;exact h
  refine aF<|wV W Y hx λJ ak d=>bF ?_;have P:IsPair J TO a b:=d.extBut _ _ D.TOi1<|f.extBut _ _ D.TOz ah;refine aF<|iZ P rfl<|aF<|wpAny_updateSeq_pair P λN aj i=>?_;refine aF<|wpAny_letGo<|bF ?_;refine aF<|aF<|wpAny_onRaise ?_;show wpAny _ _ (Builtin.SmallTypes.nextOf (.ref l) >>= _) _ _ _;refine aF<|JG L (h2.at λo e=>i.extBut _ _ D.TOi2.symm<|d.extBut _ _ D.i12.symm<|f.extBut _ _ D.i2z e) (af.at λo e=>i.extBut _ _ D.l2TO<|d.extBut _ _ D.l2i1<|f.extBut _ _ D.l2z e) hy λh₄ e X he=>?_
  obtain⟨C,j,n⟩:=he;have Z:IsZip h₄ z TI TO .ellipsis:=X _ _ D.i2z.symm<|i.extBut _ _ D.TOz.symm<|d.extBut _ _ D.i1z.symm u;have B:e≠z:=λx=>by subst x;rw[Z]at j;cases j;simp at n
  refine kP Z (by simp) λh₅ _ M=>?_
  exact stop h₅ e (λc o r c2 I c4 x=>M.extBut _ _ r<|X _ _ c4<|i.extBut _ _ c2<|d.extBut _ _ I<|f.extBut _ _ r x) ⟨C,M.extBut _ _ B j,n⟩
def hJ(K:Fq)(tp:Bool)(H:Hp)(a:Addr)(xs:List V):Prop:=match tp with | true=>SqT K H a xs | false=>SqL K H a xs
def vV(K:Fq)(p q:Bool)(a b:Addr):It:=
 ⟨λi H=>∃xs ys x y,hJ K p H a xs/\hJ K q H b ys/\xs[i]?=some x/\ys[i]?=some y, λi H v H'=>∃T x y,H T=none/\v=.ref T/\H'=upd H T (.tup [x,y])/\(∀xs,hJ K p H a xs->xs[i]?=some x)/\∀ys,hJ K q H b ys->ys[i]?=some y, λi H=>∃xs ys,hJ K p H a xs/\hJ K q H b ys/\(↑xs<=i\/↑ys<=i)⟩
def Inv.seqB(I:Inv X pins σ H s)(h:hJ X.K tp H a xs):∃its:List Value,Vals xs its/\SeB tp s.heap a its.toArray/\↑xs<=sizeLine:=by
 cases tp with
 | true=>obtain⟨its,r,p,hz⟩:=I.tuple h;exact⟨its,r,p,hz⟩
 | false=>obtain⟨its,r,p,hz⟩:=I.list h;exact⟨its,r,p.isList,hz⟩
def Inv.seqB_inj(I:Inv X pins σ H s)(h:hJ X.K tp H a xs)(h':hJ X.K tp H a ys):xs=ys:=by
 cases tp with
 | true=>exact I.tuple_inj h h'
 | false=>exact I.list_inj h h'
def Bs{P:Program}{w:World}{K:Fq}{es:List Expr}{k:Nat}{pos:Pos}{p q:Bool}{z TI TO m l L A:Addr}(D:ZipApart z TI TO m l L A):
  eO P w K (.Tuple es k pos) (vV K p q L A) [z,TI,TO,m,l] z (λi h=>IsZip h z TI TO .none/\IsPair h TI (.ref m) (.ref l)/\(∃a b,IsPair h TO a b)/\ItB p h m L i/\ItB q h l A i) where
 mem:=by simp
 obj:=λi h st b d=>by
  obtain⟨hz,f,⟨a,c,j⟩,h1,h2⟩:=st;simp only[wr5,aZ,cY]at d;rcases d with rfl | rfl | rfl | rfl | rfl
  .exact⟨_,hz,λv e=>by
    have r:Data.fields _=Data.cell v:=e;cases r⟩
  .exact⟨_,f,λv e=>by
    have r:Data.seq _ _=Data.cell v:=e;cases r⟩
  .exact⟨_,j,λv e=>by
    have r:Data.seq _ _=Data.cell v:=e;cases r⟩
  .exact h1.obj
  .exact h2.obj
 keep:=λi h h' st kp=>by
  obtain⟨hz,f,⟨a,c,j⟩,h1,h2⟩:=st;exact⟨kp z (by simp) _ hz,kp TI (by simp) _ f,⟨a,c,kp TO (by simp) _ j⟩,h1.at λo e=>kp m (by simp) o e,h2.at λo e=>kp l (by simp) o e⟩
 item:=by
  intro X M O Y hc i a3 s σ H E I B st hg;subst M O Y;obtain⟨xs,ys,x,y,G,J,C,hy⟩:=hg;obtain⟨hz,f,⟨a,c,j⟩,h1,h2⟩:=st;obtain⟨a9,Z,p1,_⟩:=I.seqB G;obtain⟨aa,W,p2,_⟩:=I.seqB J;obtain⟨u1,ak,af⟩:=Z.get C;obtain⟨u2,ae,ah⟩:=W.get hy;have lt:∀{c o},s.heap.get? c=some o->s⁻¹≠c:=λe=>dI<|bN e;refine OY D hz f j h1 h2 p1 p2 (x:=u1) (y:=u2) (by simpa using ak) (by simpa using ae) λh' aj a6 am al hT u=>?_
  refine⟨_,rfl,wpAny_letOwnedTupleGo_zip (s:={s with heap:=h'}) aj λN ac n=>?_⟩;have ai:N.get? s⁻¹=some {cls:=.type "tuple",data:=.seq [u1,u2].toArray}:=n.extBut _ _ (lt hz) hT;have keep:∀b o,b∉[z,TI,TO,m,l]->s.heap.get? b=some o->N.get? b=some o:=λb o d e=>
   n.extBut _ _ (λx=>d<|by simp[x]) (u b o (λx=>d<|by simp[x]) (λx=>d<|by simp[x]) (λx=>d<|by simp[x]) (λx=>d<|by simp[x]) e)
  have I1:Inv X a3 σ (upd H s⁻¹<|.tup [x,y]) {s with heap:=N}:=I.turnedNew (t':=s.toks) B keep ai (.cons af<|.cons ah .nil) (by show 2<=sizeLine;decide);refine⟨.ref s⁻¹,_,I1,rfl,⟨_,x,y,I.hok.fresh<|aY _,rfl,rfl,λag T=>by rw[I.seqB_inj T G];exact C,λag T=>by rw[I.seqB_inj T J];exact hy⟩,
   ⟨ac,n.extBut _ _ D.TIz<|u _ _ D.TIz D.TITO D.TIi1 D.TIi2 f,⟨_,_,n.extBut _ _ D.TOz a6⟩,am.at λo e=>n.extBut _ _ D.i1z e,al.at λo e=>n.extBut _ _ D.i2z e⟩,λb d=>?_⟩
  obtain⟨o,e,_⟩:∃o,s.heap.get? b=some o/\True:=by
   simp only[wr5,aZ,cY]at d;rcases d with rfl | rfl | rfl | rfl | rfl
   .exact⟨_,hz,trivial⟩
   .exact⟨_,f,trivial⟩
   .exact⟨_,j,trivial⟩
   .obtain⟨o,e,_⟩:=h1.obj;exact⟨o,e,trivial⟩
   .obtain⟨o,e,_⟩:=h2.obj;exact⟨o,e,trivial⟩
  rw[aC<|bW<|lt e];exact(B b d).1
 done:=by
  intro X M O Y hc i a3 s σ H E I B st hg;subst M O Y;obtain⟨xs,ys,G,J,C⟩:=hg;obtain⟨hz,f,⟨a,c,j⟩,h1,h2⟩:=st;obtain⟨a9,Z,p1,_⟩:=I.seqB G;obtain⟨aa,W,p2,_⟩:=I.seqB J;have L:=Z.length;have A:=W.length;refine SX (I.ok.hd hc) D hz f j h1 h2 p1 p2 ?_ λh' u=>⟨rfl,I.turnedAll (t':=s.toks) B λb o d e=>u b o (λx=>d<|by simp[x]) (λx=>d<|by simp[x]) (λx=>d<|by simp[x]) (λx=>d<|by simp[x]) e⟩
  rcases C with h | h
  .exact .inl (BX<|by simp;lia)
  .exact .inr (BX<|by simp;lia)
 self:=λ_ _ _ _ _ st h=>wpAny_pyIter_zip st.1 h
abbrev zO(h:Heap)(l1:Addr):Heap:=h.push {cls:=.type "tuple_iterator",data:=.fields #[.ref l1,.int 0 0]}
abbrev AU(h:Heap)(l1 l2:Addr):Heap:=(zO h l1).push {cls:=.type "tuple_iterator",data:=.fields #[.ref l2,.int 0 0]}
abbrev DH(h:Heap)(l1 l2:Addr):Heap:=(AU h l1 l2).push {cls:=.type "tuple",data:=.seq #[.ref h.objs.size,.ref (zO h l1).objs.size]}
abbrev CO(h:Heap)(l1 l2:Addr):Heap:=(DH h l1 l2).push {cls:=.type "tuple",data:=.seq #[.none,.none]}
abbrev qZ(h:Heap)(l1 l2:Addr):Heap:=(CO h l1 l2).push {cls:=.type "zip",data:=.fields #[.none,.bool false,.bool false,.ref (AU h l1 l2).objs.size,.ref (DH h l1 l2).objs.size]}
def ZA(a b:Addr)(xs ys:Array Value):
  Meets (Builtin.«zip.__new__» ⟨[.type "zip",.ref a,.ref b],[]⟩) (λ_ R s=>s.heap.IsTuple a xs/\s.heap.IsTuple b ys/\R (.ok<|.ret<|.ref (CO s.heap a b).objs.size) {s with heap:=qZ s.heap a b}):=
 .of_wp λprog w A R s h=>by
  obtain⟨hp,g,d,tk,os⟩:=s;obtain⟨f,i,h⟩:=h;have m:=sub_zip;have e:Heap.IsTuple (Shared.heap ⟨hp,g,d,tk,os⟩) a xs:=f;have j:Heap.IsTuple (Shared.heap ⟨hp.push {cls:=.type "tuple_iterator",data:=.fields #[.ref a,.int 0 0]},g,d,tk,os⟩) b ys:=by
   obtain⟨o,l,r⟩:=i;exact⟨o,bS _ l,r⟩
  wp_walk using wpAny_pyIter_tuple e,wpAny_pyIter_tuple j
  exact⟨_,rfl,h⟩
def WR(q:s.heap.IsTuple l1 xs)(r:s.heap.IsTuple l2 ys) (h:∀h',IsZip h' (s⁻¹+4) (s⁻¹+2) (s⁻¹+3) .none->IsPair h' (s⁻¹+2) (.ref s⁻¹) (.ref<|s⁻¹+1)-> IsPair h' (s⁻¹+3) .none .none->h'.IsTupleIter s⁻¹ l1 0->h'.IsTupleIter (s⁻¹+1) l2 0->
   (∀c o,s.heap.get? c=some o->h'.get? c=some o)->Q (.ref<|s⁻¹+4) {s with heap:=h'}):
  wpAny (model prog w) A (call (.type "zip") [.ref l1,.ref l2]) Q E s:=by
 refine callType_new F.called_zip (by decide) (F.typeCall_zip_2 _ _) (F.newCall_zip_2 _ _) (λobj=>F.args_object_init_3 obj _ _) F.entry_zip_new (ZA l1 l2 xs ys) ⟨q,r,?_⟩;have a:(zO s.heap l1).objs.size=s⁻¹+1:=nI ..;have f:(AU s.heap l1 l2).objs.size=s⁻¹+2:=by rw[nI,a]
 have b:(DH s.heap l1 l2).objs.size=s⁻¹+3:=by rw[nI,f]
 have i:(CO s.heap l1 l2).objs.size=s⁻¹+4:=by rw[nI,b]
 have l:∀c o,(zO s.heap l1).get? c=some o->(qZ s.heap l1 l2).get? c=some o:=λc o e=>bS _<|bS _<|bS _<|bS _ e;have d:(qZ s.heap l1 l2).get? (CO s.heap l1 l2).objs.size=some _:=dD _ rfl;have m:(qZ s.heap l1 l2).get? (DH s.heap l1 l2).objs.size=some _:=bS _<|dD _ rfl;have j:(qZ s.heap l1 l2).get? (AU s.heap l1 l2).objs.size=some _:=bS _<|bS _<|dD _ rfl;have n:(qZ s.heap l1 l2).get? (zO s.heap l1).objs.size=some _:=bS _<|bS _<|bS _<|dD _ rfl;have u:(qZ s.heap l1 l2).get? s⁻¹=some _:=l _ _<|dD _ rfl;show _/\_;rw[f,b,i]at d;rw[a,f]at j;rw[b]at m;rw[a]at n;rw[i];exact⟨⟨_,d,rfl⟩,h _ d j m ⟨_,u,rfl,rfl⟩ ⟨_,n,rfl,rfl⟩ λc o x=>l c o<|bS _ x⟩
def HQ(K:Fq)(p:Bool)(ta:TA):TI:=λσ H R=>ta σ H λvs H1=>∃a b xs ys,vs=[.ref a,.ref b]/\hJ K p H1 a xs/\hJ K p H1 b ys/\R (vV K p p a b) H1
theorem boot_zip:bootBuiltins "zip"=some (.type "zip"):=by first | exact PySem.boot_zip | rfl'
def SN{X:Cx}{p:Bool}{es:List Expr}{k:Nat}{x:Pos}{a b:Expr}{ta:TA}{P pos:Pos}(T:Gl X "zip")(N:X.mg "zip"=none)(L:PA X [a,b] ta)
  (hs:starEach [a,b] X.env=[(false,eval a X.env),(false,eval b X.env)]:=by rfl) (B:starEach [b] X.env=[(false,eval b X.env)]:=by rfl):
  PI X (.Tuple es k x) (.Call (.Name "zip" P) [a,b] [] pos) (HQ X.K p ta):=by
 intro C s σ H R I h;refine Call_ (mI I T N boot_zip<|mX (aX (L pos C s σ H _ I h) λus d ⟨vs,H1,j,M,O⟩=>?_) (by rw[hs,B])<|by rw[B];rfl);obtain⟨J,E,xs,ys,e,Y,W,q⟩:=O;subst e;cases M with
 | cons r rr=>
  cases rr with
  | cons r' rr=>
   cases rr;cases r;cases r';obtain⟨Z,ab,n,_⟩:=j.seqB Y;obtain⟨a7,ac,p2,_⟩:=j.seqB W;have G:∀{tp:Bool}{l:Addr}{its:Array Value},SeB tp d.heap l its->l<d⁻¹:=λ{tp l its} h=>by
    cases tp with
    | true=>obtain⟨o,e,_⟩:=(show d.heap.IsTuple l its from h);exact bN e
    | false=>obtain⟨o,e,_⟩:=(show d.heap.IsList l its from h);exact bN e
   have D:ZipApart (d⁻¹+4) (d⁻¹+2) (d⁻¹+3) d⁻¹ (d⁻¹+1) J E:=zipApart_new (G n)<|G p2;have fin:∀h',IsZip h' (d⁻¹+4) (d⁻¹+2) (d⁻¹+3) .none->IsPair h' (d⁻¹+2) (.ref d⁻¹) (.ref<|d⁻¹+1)->
     IsPair h' (d⁻¹+3) .none .none->ItB p h' d⁻¹ J 0->ItB p h' (d⁻¹+1) E 0->(∀c o,d.heap.get? c=some o->h'.get? c=some o)->
     wpAny (model X.prog X.w) X.A (pyIter<|.ref<|d⁻¹+4) (JU X C σ (.Tuple es k x) R) X.xe {d with heap:=h'}:=λh' hz f m h1 h2 i=>by
    refine wpAny_pyIter_zip (s:={d with heap:=h'}) hz ?_;refine⟨_,_,_,_,H1,rfl,j.kept (t':=d.toks) i,Bs D,⟨hz,f,⟨_,_,m⟩,h1,h2⟩,λb z=>?_,q⟩;have u:d⁻¹<=b:=by
     simp only[wr5,aZ,cY]at z;rcases z with rfl | rfl | rfl | rfl | rfl
     .exact jV _ _
     .exact jV _ _
     .exact jV _ _
     .exact aY _
     .exact jV _ _
    exact j.fpOk u<|j.hok.fresh u
   cases p with
   | true=>exact WR n p2 λh' hz f m h1 h2 i=>fin h' hz f m h1 h2 i
   | false=>exact call_zip_2 n p2 λh' hz f m h1 h2 _ i=>fin h' hz f m h1 h2 i
def Ay:typeLookup (.type "list") "keys"=pure none:=by rw[mR,nW];kernel_rfl
def VY(l:s.heap.get? a=some o)(m:o.cls=.type "list")(i:o.data=.seq xs k)(hd:o.dict=none)(q:A.handled=none)(h:∀h' tk,(∀b ob,s.heap.get? b=some ob->h'.get? b=some ob)->Q none {s with heap:=h',toks:=tk}):
  wpAny (model prog w) A (getAttr? (.ref a) "keys") Q E s:=by
 obtain⟨c,z,H,r⟩:=o;simp only at m i hd;subst m i hd;obtain⟨hp,g,d,tk,os⟩:=s;have n:∀f,(⟨hp,g,d,f,os⟩:Shared).TypeIs (.ref a) "list":=λ_=>⟨_,l,rfl⟩;have G:=sub_AttributeError;have B:=vm0.lookup;have x:=vm0.bind<|.ref a;have u:=am_list_getattr_none;unfold getAttr? getAttrBy? getAttrBy
 repeat (any_goals (first | assumption | exact n _ | ((with_reducible show wpAny _ _ (call (Value.builtin "list.__getattribute__") _ _) _ _ _);refine sC vm0 (n _) am_entry_list_getattribute (F.args_list_getattribute_2 _ _) (meets_getattribute_miss_list a xs k r "keys" _ Ay (by decide)<|by size_fits) ⟨l,q,λh' f e j=>?_⟩) | wp_step))
 obtain⟨t',C,he⟩:=j.there;show wpAny _ _ (getattributeRaised _ _ _ _ _ _ _) _ _ _;unfold getattributeRaised
 repeat (any_goals (first | assumption | wp_step))
 exact h h' f j.of.keeps
def AZ:plainId "dict.update.loop"=true:=by rfl'
def SO:entryFor table "dict.update.loop"=some Builtin.«dict.update.loop»:=entryFor_of_fast (by kernel_rfl)
def VT(h:Heap)(its:List Value)(kvs:List (aJ×V)):Prop:=↑its=↑kvs/\∀(j:Nat) p,kvs[j]?=some p->∃T kv vv,its[j]?=some (.ref T)/\h.IsTuple T #[kv,vv]/\iJ p.1 kv=true/\RelV p.2 vv
def NG{kvs:List (aJ×V)}{j:Nat}{p:aJ×V}(h:kvs[j]?=some p):dU [] (kvs.take<|j+1)=aO (dU []<|kvs.take j) p.1 p.2:=by
 unfold dU;rw[fE,h,DY];rfl
def Bq{prog:Program}{w:World}{A:Around}{R:Result->Shared->Prop}{D it l:Addr}{its:List Value}{kvs:List (aJ×V)}(hh:A.handled=none)(ac:l≠D)(ad:l≠it)(q:D≠it)(hz:↑kvs<sizeLine):
  ∀(n j:Nat)(s:Shared)(vs:List (aJ×Value)),↑kvs-j=n->j<=↑kvs->s.heap.IsListIter it l j->s.heap.IsList l its.toArray->VT s.heap its kvs->(∀T,Value.ref T∈its->T≠D/\T≠it)->
  s.heap.DictOf (cI prog w) D vs->KV (dU []<|kvs.take j) vs->
  (∀h' tk d,h'.DictOf (cI prog w) D d->KV (dU [] kvs) d->(∀b o,b≠D->b≠it->s.heap.get? b=some o->h'.get? b=some o)->R (.ok<|.ret .none) {s with heap:=h',toks:=tk})->
  codeAny (model prog w) A (.builtin "dict.update.loop" ⟨[.ref D,.ref it,rawInt j,.none],[]⟩) R s:=by
 intro n
 induction n with
 | zero=>
  intro j s vs hn hj z hl hp f hd a B;have e:j=↑kvs:=by lia
  subst e;refine codeAny_builtin SO ?_;rw[BN AZ _];show wpAny _ A.in1 (pyNext (.ref it) >>= _) _ _ s;refine aF<|wpAny_pyNext_list_end (A:=A.in1) hh z hl (by simp[hp.1]) λh' I=>?_;show wpAny _ A.in1 (Builtin.Dict.addKeywords D [] >>= _) _ _ _;refine aF<|bF<|bF<|B h' s.toks vs ?_ ?_ λb o h1 h2 e=>I b o h2 e
  .exact hd.at λo e=>I D o q e
  .rw[eM<|aY _]at a;exact a
 | succ n ih=>
  intro j s vs hn hj z hl hp f hd a B;have m:j<↑kvs:=by lia
  obtain⟨T,i,C,hi,ht,a6,rv⟩:=hp.2 j kvs[j]<|bH m;obtain⟨an,ag⟩:=f T<|dC hi;refine codeAny_builtin SO ?_;rw[BN AZ _];show wpAny _ A.in1 (pyNext (.ref it) >>= _) _ _ s;refine aF<|wpAny_pyNext_list_item (A:=A.in1) z hl (x:=.ref T) (by simpa using hi) λh' a4 G=>?_;have h:h'.IsTuple T #[i,C]:=by obtain⟨o,e,r⟩:=ht;exact⟨o,G.extBut _ _ ag e,r⟩
  have X:h'.DictOf (cI prog w) D vs:=hd.at λo e=>G.extBut _ _ q e;obtain⟨O,H,ec,nt,ed⟩:=id h;have ai:↑vs<=sizeLine:=by
   have h1:=↑a;have h2:=zL (kvs.take j) [];rw[eS]at h2;simp at h2;lia
  show wpAny _ A.in1 (holding [.ref T] _ >>= _) _ _ {s with heap:=h'};refine aF<|iU<|aF<|wpAny_tryCatch ?_;unfold Builtin.Dict.pairItems;refine aF<|uU (T:="tuple") ⟨O,H,ec⟩ ?_;rw[bE<|by decide];refine aF<|iZ H ed<|bF ?_;show wpAny _ A.in1 (holding [i,C]<|dictSet D i C) _ _ _;refine iU<|wpAny_dictSet_pairs (knd:=cI prog w) (k:=kvs[j].1) (hsz:=ai) a6 X λh2 ah M=>?_;refine bF ⟨plainId_quiet AZ _,?_⟩;have E:∀b o,b≠D->b≠it->s.heap.get? b=some o->h2.get? b=some o:=λb o h1 u e=>M.extBut _ _ h1<|G.extBut _ _ u e;refine ih (j+1) {s with heap:=h2,toks:=s.toks+1} _ (by lia) m (a4.at λo e=>M.extBut _ _ (bW q) e) (hl.at λo e=>E l o ac ad e) ⟨hp.1,λj' p ab=>?_⟩ f ah ?_ λu tk d aj Z W=>?_
  .obtain⟨K,ak,P,L,h,N,ae⟩:=hp.2 j' p ab;obtain⟨Y,q2⟩:=f K<|dC L;obtain⟨o,e,r⟩:=h;exact⟨K,ak,P,L,⟨o,E _ _ Y q2 e,r⟩,N,ae⟩
  .rw[NG<|bH m];exact a.put _ rv
  .exact B u tk d aj Z λb o h1 J e=>W b o h1 J<|E b o h1 J e
def sY(K:Fq):List V->Hp->VK->Prop:=λxs H Q=>∃(p:Addr)(ts:List Addr)(kvs:List (aJ×V)),xs=[.ref p]/\SqL K H p (ts.map V.ref)/\↑ts=↑kvs/\↑kvs<sizeLine/\
 (∀(j:Nat) t kv,ts[j]?=some t->kvs[j]?=some kv->SqT K H t [kV kv.1,kv.2])/\∀l,H l=none->Q (.ref l) (upd H l<|.dK<|dU [] kvs)
def KA(hc:X.calm=true):CallR X (.type "dict") (sY X.K):=by
 intro am s σ H xs us Q I r h;obtain⟨p,ts,kvs,rfl,hq,aj,ao,a7,q⟩:=h;obtain⟨u,rfl,rx⟩:=kD r;cases rx;obtain⟨its,rv,L,hz⟩:=I.list hq;obtain⟨O,nl,aa,B,a5,an⟩:=id L;have N:p<s⁻¹:=bN aa;have as:↑its=↑ts:=by have:=↑rv;rw[aI]at this;exact this.symm
 have Y:∀(j:Nat) t,ts[j]?=some t->its[j]?=some (.ref t):=λj t e=>by
  obtain⟨u,hu,ru⟩:=rv.get (i:=j) (x:=V.ref t) (by rw[bZ,e];rfl);cases ru;exact hu
 refine callType_codes (Q₁:=λobj G=>obj=.ref s⁻¹/\G={s with heap:=s.heap.push {cls:=.type "dict",data:=.dict #[]}}) F.kt_called_dict (F.kt_typeCall_dict_1 _) F.entry_dict_init (kt_code_dict_new _ ⟨rfl,rfl⟩) ?_;rintro obj G ⟨rfl,rfl⟩;have n:(s.heap.push {cls:=.type "dict",data:=.dict #[]}).DictOf (cI X.prog X.w) s⁻¹ []:=Heap.DictOf.new s.heap;exists n.typeIs,F.args_dict_init_2 _ _;unfold Builtin.«dict.__init__»;refine aF ?_;unfold Builtin.Dict.selfAndRest;refine aF<|wpAny_notOrdered_dict n.typeIs ?_;show wpAny _ _ (pure (s⁻¹,[Value.ref p])) _ _ _;refine bF ?_;show wpAny _ _ (Builtin.Dict.updateFrom "dict.__init__" s⁻¹ (.ref p) [] .none) _ _ _;unfold Builtin.Dict.updateFrom;have J:(s.heap.push {cls:=.type "dict",data:=.dict #[]}).get? p=some O:=bS _ aa;refine aF<|uU (T:="list") ⟨O,J,B⟩ ?_;rw[bE<|by decide];refine aF<|VY (A:=X.A.in1.in1) J B an a5 (I.ok.hd hc) λh2 ah W=>?_;show wpAny _ _ (rule _ >>= _) _ _ _;refine aF<|mK ?_;have M:∀b o,s.heap.get? b=some o->h2.get? b=some o:=λb o e=>W b o<|bS _ e;have a9:h2.IsList p its.toArray:=L.isList.at λo e=>M p o e;have E:h2.DictOf (cI X.prog X.w) s⁻¹ []:=n.at λo e=>W _ o e;have m:s⁻¹<h2.objs.size:=by obtain⟨_,_,_,e,_⟩:=E;exact bN e
 refine aF<|BU (s:={s with heap:=h2,toks:=ah}) a9<|bF ⟨plainId_quiet AZ _,?_⟩;have z:∀b o,s.heap.get? b=some o->(h2.push {cls:=.type "list_iterator",data:=.fields #[.ref p,.int 0 0]}).get? b=some o:=λb o e=>bS _<|M b o e;have Z:∀(j:Nat) t,ts[j]?=some t->t<s⁻¹/\∃l kvv vv,kvs[j]?=some l/\s.heap.IsTuple t #[kvv,vv]/\iJ l.1 kvv=true/\RelV l.2 vv:=λj t e=>by
  obtain⟨d,_⟩:=wr1.mp e;have C:kvs[j]?=some kvs[j]:=bH (by lia);obtain⟨ar,rt,pt,_⟩:=I.tuple<|a7 j t _ e C;cases rt with
  | cons r1 rr=>
   cases rr with
   | cons r2 rr=>
    cases rr;obtain⟨o,eo,rest⟩:=id pt;exact⟨bN eo,_,_,_,C,pt,kL (P:=X.prog) (w:=X.w) r1,r2⟩
 refine Bq (A:=X.A.in1) (I.ok.hd hc) (its:=its) (kvs:=kvs) (bV N) (bV<|gI N m) (bV m) ao ↑kvs 0 _ [] (by simp) (bT _) ⟨_,dD _ rfl,rfl,rfl⟩ (a9.at λo e=>bS _ e) ⟨by lia,λj l d=>?_⟩ (λT hT=>?_)
  (E.at λo e=>bS _ e) .nil λh' tk al ai ak kk=>?_
 .obtain⟨aq,_⟩:=wr1.mp d;have f:ts[j]?=some ts[j]:=bH (by lia);obtain⟨_,au,a,b,h1,ap,h3,h4⟩:=Z j _ f;rw[d]at h1;cases h1;obtain⟨o,e,r⟩:=ap;exact⟨_,a,b,Y j _ f,⟨o,z _ _ e,r⟩,h3,h4⟩
 .obtain⟨j,d,e⟩:=kY hT;have f:ts[j]?=some ts[j]:=bH (by lia);have:=Y j _ f;rw[bH d,e]at this;cases this;have:=(Z j _ f).1;exact⟨bV this,bV<|gI this m⟩
 .refine⟨rfl,⟨.ref s⁻¹,_,?_,rfl,q _<|I.hok.fresh<|aY _⟩⟩;have ag:↑(dU [] kvs)<=sizeLine:=by
   have:=zL kvs [];simp at this;lia
  have a8:(s⁻¹ == sysModules)=false:=by
   have:=I.big;simpa using dI this
  exact I.laid (t':=tk) (o:=.dK<|dU [] kvs) (λb o e=>kk b o (bV<|bN e) (bV<|gI (bN e) m)<|z b o e) (aY _) ⟨ag,a8,al,ak,ai⟩
section
variable{tg:Expr}
end
def Inv.laidMany(I:Inv X pins σ H s)(keep:∀b o,s.heap.get? b=some o->h'.get? b=some o)(d:∀b,b<s⁻¹->H' b=H b)(i:HOk X.prog X.w H' h'):Inv X pins σ H' {s with heap:=h',toks:=t'}:=by
 have a:Inv X pins σ H {s with heap:=h',toks:=t'}:=I.kept (t':=t') keep;have old:∀b o',X.s₀.heap.get? b=some o'->b<s⁻¹:=λb o' e=>fC (bN e) I.sz;have lt:∀b u,H b=some u->b<s⁻¹:=λb u e=>by
  rcases tT b s⁻¹ with h | h
  .exact h
  .rw[I.hok.fresh h]at e;cases e
 have base:=a.base;refine⟨a.ok,a.os,a.bare,⟨base.keep,base.slot,λb f q n r=>?_,base.there,λb ys q=>?_,λb f y q=>?_,λb ps q=>?_⟩,a.loc,a.cell,?_,λy c h=>?_,λp hp=>?_,i,a.len⟩
 .rw[d b<|old b f q];exact base.free b f q n r
 .have:=base.tups b ys q;rw[d b<|lt b _ this];exact this
 .have:=base.frzs b f y q;rw[d b<|lt b _ this];exact this
 .obtain⟨m,this⟩:=base.tbls b ps q;exact⟨m,by rw[d b<|lt b _ this];exact this⟩
 .rw[d _ I.lt];exact I.free
 .obtain⟨v,q⟩:=I.cell y c h;rw[d _ q.lt];exact I.freeC y c h
 .obtain⟨x,l,j⟩:=a.pin p hp;have:=bN (I.pin p hp).1;exact⟨x,by rw[d _ this];exact l,j⟩
abbrev oR(h:Heap)(z TI TO T:Addr)(f:Bool):Prop:=
 h.get? z=some {cls:=.type "zip",dict:=none,data:=.fields #[rawInt T,.bool f,.bool false,.ref TI,.ref TO],slots:=#[]}
def LX{z TI TO T:Addr}{f:Bool}{e:Obj}{Q:Bool->Shared->Prop}(hz:oR s.heap z TI TO T f)(i:s.heap.get? T=some e)
  (h:∀a,oR a z TI TO T true->Heap.SameBut z s.heap a->Q false {s with heap:=a}):wpAny (model prog w) A (Builtin.SmallTypes.ownedTupleIsFree<|.ref z) Q E s:=by
 unfold Builtin.SmallTypes.ownedTupleIsFree;refine aF<|eA hz rfl (x:=rawInt T) rfl ?_;show wpAny _ _ (loadIfAlive ((T:Int).toNat) >>= _) _ _ _;rw[yB];refine aF<|PySem.W.kdx_alive i ?_;show wpAny _ _ (field (.ref z) 1 >>= _) _ _ s;refine aF<|eA hz rfl (x:=.bool f) rfl ?_;cases f with
 | true=>exact bF<|h s.heap hz<|Heap.SameBut.refl _ _
 | false=>exact aF<|kP hz (by simp) λa d b=>bF<|h a d b
def YJ{z TI TO b a l j T:Addr}{f:Bool}{O:Obj}{k:Nat}{xs ys:Array Value}{x y:Value}{Q:Option Value->Shared->Prop}(D:ZipApart z TI TO b a l j)
  (hz:oR s.heap z TI TO T f) (W:s.heap.get? T=some O) (u:IsPair s.heap TI (.ref b) (.ref a))
  (h1:s.heap.IsListIter b l k) (h2:s.heap.IsListIter a j k) (q:s.heap.IsList l xs) (J:s.heap.IsList j ys) (P:xs[k]?=some x) (H:ys[k]?=some y)
  (B:∀h',oR h' z TI TO T true->h'.IsListIter b l (k+1)->h'.IsListIter a j (k+1)->IsPair h' s⁻¹ x y->
   (∀c o,c≠z->c≠b->c≠a->s.heap.get? c=some o->h'.get? c=some o)->Q (some<|.ref s⁻¹) {s with heap:=h'}):
  wpAny (model prog w) A (pyNext<|.ref z) Q E s:=by
 have ty:s.TypeIs (.ref z) "zip":=⟨_,hz,rfl⟩;unfold pyNext;refine aF<|tS<|kQ (name:=Str.ofString "__next__") ty mV<|iY mV ty F.entry_zip_next ?_<|DC _;show wpAny _ _ (field (.ref z) 2 >>= _) _ _ s;refine aF<|eA hz rfl (x:=.bool false) rfl ?_;show wpAny _ _ (field (.ref z) 3 >>= _) _ _ s;refine aF<|eA hz rfl (x:=.ref TI) rfl<|aF<|iZ u rfl ?_;show wpAny _ _ (Builtin.SmallTypes.ownedTupleIsFree (.ref z) >>= _) _ _ s;refine aF<|LX hz W λX K h=>?_;simp only[DU,iO];refine aF ?_;simp only[List.forIn_toArray,zJ,List.forIn_nil];refine aF<|aF<|iU ?_;show wpAny _ _ (Builtin.SmallTypes.nextOf (.ref b) >>= _) _ _ _;refine aF<|wV (tp:=false) (h1.at λo e=>h.extBut _ _ D.i1z e) (q.at λo e=>h.extBut _ _ D.l1z e) P λM G i=>bF ?_;refine bF ?_;refine aF<|aF<|iU ?_;show wpAny _ _ (Builtin.SmallTypes.nextOf (.ref a) >>= _) _ _ _;refine aF<|wV (tp:=false) (h2.at λo e=>i.extBut _ _ D.i12.symm<|h.extBut _ _ D.i2z e) (J.at λo e=>i.extBut _ _ D.l2i1<|h.extBut _ _ D.l2z e) H λd N m=>bF ?_;refine bF<|bF ?_;have hsz:d.objs.size=s⁻¹:=by rw[m.1,i.1,h.1]
 show wpAny _ _ (newTuple [x,y] >>= _) _ _ _;refine aF<|wpAny_newTuple ?_;refine bF ⟨_,rfl,?_⟩;show wpAny _ _ (pure<|some<|Value.ref d.objs.size) _ _ _;refine bF ?_;have C:∀c o,c≠z->c≠b->c≠a->s.heap.get? c=some o->(d.push {cls:=.type "tuple",data:=.seq #[x,y]}).get? c=some o:=λc o I r L e=>bS _<|m.extBut _ _ L<|i.extBut _ _ r<|h.extBut _ _ I e;have n:IsPair (d.push {cls:=.type "tuple",data:=.seq #[x,y]}) d.objs.size x y:=dD _ rfl;rw[hsz]at n ⊢;refine B _ (bS _<|m.extBut _ _ D.i2z.symm<|i.extBut _ _ D.i1z.symm K) ?_ ?_ n C
 .exact(show Heap.IsListIter M b l (k+1) from G).at λo e=>bS _<|m.extBut _ _ D.i12 e
 .exact(show Heap.IsListIter d a j (k+1) from N).at λo e=>bS _ e
def ZN{z TI TO a i h H T:Addr}{f:Bool}{J:Obj}{k:Nat}{xs:Array Value}{Q:Option Value->Shared->Prop}(m:A.handled=none)(D:ZipApart z TI TO a i h H)
  (hz:oR s.heap z TI TO T f) (L:s.heap.get? T=some J) (I:IsPair s.heap TI (.ref a) (.ref i))
  (h1:s.heap.IsListIter a h k) (G:s.heap.IsList h xs) (K:xs[k]?=none)
  (r:∀h',(∀c o,c≠z->c≠a->s.heap.get? c=some o->h'.get? c=some o)->Q none {s with heap:=h'}):wpAny (model prog w) A (pyNext<|.ref z) Q E s:=by
 have ty:s.TypeIs (.ref z) "zip":=⟨_,hz,rfl⟩;unfold pyNext;refine aF<|tS<|kQ (name:=Str.ofString "__next__") ty mV<|iY mV ty F.entry_zip_next ?_<|DC _;show wpAny _ _ (field (.ref z) 2 >>= _) _ _ s;refine aF<|eA hz rfl (x:=.bool false) rfl ?_;show wpAny _ _ (field (.ref z) 3 >>= _) _ _ s;refine aF<|eA hz rfl (x:=.ref TI) rfl<|aF<|iZ I rfl ?_;show wpAny _ _ (Builtin.SmallTypes.ownedTupleIsFree (.ref z) >>= _) _ _ s;refine aF<|LX hz L λM O d=>?_;simp only[DU,iO];refine aF ?_;simp only[List.forIn_toArray,zJ,List.forIn_nil];refine aF<|aF<|iU ?_;show wpAny _ _ (Builtin.SmallTypes.nextOf (.ref a) >>= _) _ _ _;refine aF<|JG (tp:=false) m (h1.at λo e=>d.extBut _ _ D.i1z e) (G.at λo e=>d.extBut _ _ D.l1z e) K λN e u he=>?_;obtain⟨B,j,n⟩:=he;exact aF<|wpAny_isInstance (T:="StopIteration") (b:=true) ⟨B,j,n⟩ isSubtype_stop<|bF<|r _ λc o C l q=>u _ _ l<|d.extBut _ _ C q
structure ZipSt(h:Heap)(S z TI TO i1 i2 l1 l2:Addr)(xs ys:List Value)(i:Nat)(ts:List Addr):Prop where
 zs:(ts=[]/\IsZip h z TI TO .none)\/∃T f,T∈ts/\oR h z TI TO T f
 tI:IsPair h TI (.ref i1) (.ref i2)
 tO:∃a b,IsPair h TO a b
 a1:h.IsListIter i1 l1 i
 a2:h.IsListIter i2 l2 i
 b1:h.IsList l1 xs.toArray
 b2:h.IsList l2 ys.toArray
 len:↑ts=i
 nd:ts.Nodup
 up:∀t∈ts,S<t
 prs:∀(j:Nat) t,ts[j]?=some t->∃x y,xs[j]?=some x/\ys[j]?=some y/\IsPair h t x y
def ZipSt.move{h h':Heap}{S z TI TO l d n r:Addr}{xs ys:List Value}{i:Nat}{ts:List Addr}(q:ZipSt h S z TI TO l d n r xs ys i ts)(K:z≠S/\TI≠S/\TO≠S/\l≠S/\d≠S/\n≠S/\r≠S)
  (k:∀b o,b≠S->h.get? b=some o->h'.get? b=some o):ZipSt h' S z TI TO l d n r xs ys i ts:=by
 obtain⟨u,B,G,L,I,J,N⟩:=K;obtain⟨zs,A,⟨a,b,O⟩,w,M,H,C,len,nd,s,m⟩:=q;refine⟨?_,k _ _ B A,⟨a,b,k _ _ G O⟩,w.at λo e=>k _ o L e,M.at λo e=>k _ o I e,H.at λo e=>k _ o J e,C.at λo e=>k _ o N e,len,nd,s,λj t e=>?_⟩
 .rcases zs with ⟨e,q⟩ | ⟨T,f,hT,q⟩
  .exact .inl ⟨e,k _ _ u q⟩
  .exact .inr ⟨T,f,hT,k _ _ u q⟩
 .obtain⟨x,y,P,E,W⟩:=m j t e;exact⟨x,y,P,E,k _ _ (dI<|s t<|dC e) W⟩
def ZipSt.turn{S z TI TO m l B C:Addr}{xs ys:List Value}{i:Nat}{ts:List Addr}{Q:Option Value->Shared->Prop}(D:ZipApart z TI TO m l B C)(q:ZipSt s.heap S z TI TO m l B C xs ys i ts)
  (hS:S<s⁻¹) (ht:∀t∈ts,t≠z/\t≠TO/\t≠m/\t≠l) (hi:i<↑xs) (hl:↑xs=↑ys)
  (Z:∀h' t,ZipSt h' S z TI TO m l B C xs ys (i+1) (ts++[t])->s⁻¹<=t->(∀c o,c≠z->c≠TO->c≠m->c≠l->s.heap.get? c=some o->h'.get? c=some o)->Q (some<|.ref t) {s with heap:=h'}):
  wpAny (model prog w) A (pyNext<|.ref z) Q E s:=by
 obtain⟨zs,H,⟨a,b,tO⟩,Y,a2,N,K,len,nd,up,n⟩:=q;have ex:xs.toArray[i]?=some xs[i]:=by simp[hi]
 have X:ys.toArray[i]?=some (ys[i]'(by lia)):=by simp[show i<ys.length by lia]
 have a4:xs[i]?=some xs[i]:=bH hi;have a5:ys[i]?=some (ys[i]'(by lia)):=bH (by lia);have fin:∀h':Heap,((∃T f,T∈ts++[s⁻¹]/\oR h' z TI TO T f))->(∃a b,IsPair h' TO a b)->h'.IsListIter m B (i+1)->h'.IsListIter l C (i+1)->IsPair h' s⁻¹ xs[i] (ys[i]'(by lia))->
   (∀c o,c≠z->c≠TO->c≠m->c≠l->s.heap.get? c=some o->h'.get? c=some o)->ZipSt h' S z TI TO m l B C xs ys (i+1) (ts++[s⁻¹]):=by
  intro h' hz a3 r c2 hp d;refine⟨.inr hz,d _ _ D.TIz D.TITO D.TIi1 D.TIi2 H,a3,r,c2,N.at λo e=>d _ o D.l1z D.l1TO D.l1i1 D.l1i2 e,K.at λo e=>d _ o D.l2z D.l2TO D.l2i1 D.l2i2 e,by rw[bJ,len];rfl,?_,λt O=>?_,λj t e=>?_⟩
  .refine List.nodup_append.mpr ⟨nd,by simp,λt O u hu=>?_⟩;obtain⟨j,G⟩:=wv6.mp O;obtain⟨_,_,_,_,e⟩:=n j t G;rw[wr8.mp hu];exact bV<|bN e
  .rcases wt2.mp O with h | h
   .exact up t h
   .rw[wr8.mp h];exact hS
  .by_cases G:j<↑ts
   .rw[jM G]at e;obtain⟨x,y,e1,e2,e3⟩:=n j t e;obtain⟨n1,n2,n3,n4⟩:=ht t<|dC e;exact⟨x,y,e1,e2,d _ _ n1 n2 n3 n4 e3⟩
   .rw[iR<|by lia]at e;have h0:j-↑ts=0:=by
     cases hz:j-↑ts with
     | zero=>rfl
     | succ k=>rw[hz]at e;simp at e
    rw[h0]at e;simp only[CN,BF]at e;subst e;have:j=i:=by lia
    subst this;exact⟨_,_,a4,a5,hp⟩
 rcases zs with ⟨rfl,hz⟩ | ⟨T,f,hT,hz⟩
 .exact OY (p:=false) (q:=false) D hz H tO Y a2 N K ex X λh' W g2 J I M d=>Z h' _ (fin h' ⟨_,false,fW _<|wr8.mpr rfl,W⟩ ⟨_,_,g2⟩ J I M d) (aY _) d
 .obtain⟨j,G⟩:=wv6.mp hT;obtain⟨_,_,_,_,eT⟩:=n j T G;exact YJ D hz eT H Y a2 N K ex X λh' W J I M d=>Z h' _ (fin h' ⟨T,true,qQ _ hT,W⟩ ⟨_,_,d _ _ D.TOz D.TOi1 D.TOi2 tO⟩ J I M λc o r _ P L e=>d c o r P L e) (aY _) λc o r _ P L e=>d c o r P L e
def ZipSt.stop{S z TI TO h d B x:Addr}{xs ys:List Value}{ts:List Addr}{Q:Option Value->Shared->Prop}(n:A.handled=none)(D:ZipApart z TI TO h d B x)(q:ZipSt s.heap S z TI TO h d B x xs ys ↑xs ts)
  (r:∀h',(∀c o,c≠z->c≠TO->c≠h->c≠d->s.heap.get? c=some o->h'.get? c=some o)->Q none {s with heap:=h'}):wpAny (model prog w) A (pyNext<|.ref z) Q E s:=by
 obtain⟨zs,m,⟨a,b,L⟩,l,I,u,G,len,nd,M,i⟩:=q;have ex:xs.toArray[↑xs]?=none:=by simp
 rcases zs with ⟨rfl,hz⟩ | ⟨T,f,hT,hz⟩
 .exact SX (p:=false) (q:=false) n D hz m L l I u G (.inl ex) r
 .obtain⟨j,K⟩:=wv6.mp hT;obtain⟨_,_,_,_,eT⟩:=i j T K;exact ZN n D hz eT m l u ex λh' C=>r h' λc o H _ J _ e=>C c o H J e
def ZQ:typeLookup (.type "zip") "__len__"=pure none:=by(rw[mR,nW];kernel_rfl)
def UK:typeLookup (.type "zip") "__length_hint__"=pure none:=by(rw[mR,nW];kernel_rfl)
section
variable{R:Result->Shared->Prop}
def VL(a:s.TypeIs (.ref z) "zip")(h:Q true s):wpAny (model prog w) A (Builtin.List.listLengthHint<|.ref z) Q E s:=by
 unfold Builtin.List.listLengthHint;refine aF<|nS a ZQ ?_;refine wpAny_ite_split (λc=>absurd c<|by decide) λ_=>?_;refine wpAny_ite_split (λc=>absurd c<|by decide) λ_=>?_;refine aF<|nS a UK ?_;exact bF h
abbrev vS(h:Heap)(S:Addr)(ts:List Addr)(c:Nat):Prop:=h.get? S=some {cls:=.type "list",dict:=none,data:=.seq (ts.map Value.ref).toArray c,slots:=#[]}
structure LI(h₀ h:Heap)(S z TO i1 i2:Addr)(xs ys:List Value)(ts:List Addr):Prop where
 keep:∀b o,b≠S->b≠z->b≠TO->b≠i1->b≠i2->h₀.get? b=some o->h.get? b=some o
 lst:∃c,vS h S ts c
 len:↑ts=↑xs
 nd:ts.Nodup
 up:∀t∈ts,S<t
 prs:∀(j:Nat) t,ts[j]?=some t->∃x y,xs[j]?=some x/\ys[j]?=some y/\IsPair h t x y
def Aa{S z TI TO r l L M:Addr}{xs ys:List Value}(T:A.handled=none)(D:ZipApart z TI TO r l L M)(lo:z<S/\TI<S/\TO<S/\r<S/\l<S/\L<S/\M<S)(hl:↑xs=↑ys)(hn:↑xs<=sizeLine)(res:Value){h₀:Heap}
  (hR:∀h' tk ts,LI h₀ h' S z TO r l xs ys ts->R (.ok<|.ret res) {s with heap:=h',toks:=tk}):
  ∀(m i:Nat)(h:Heap)(tk c:Nat)(ts:List Addr),↑xs-i=m->i<=↑xs->ZipSt h S z TI TO r l L M xs ys i ts->(∀b o,b≠S->b≠z->b≠TO->b≠r->b≠l->h₀.get? b=some o->h.get? b=some o)->vS h S ts c->
   codeAny (model prog w) A (.builtin "list.extend.loop" ⟨[.ref S,.ref z,res],[]⟩) R {s with heap:=h,toks:=tk}:=by
 obtain⟨G,o2,H,n,B,Y,o7⟩:=lo;intro m
 induction m with
 | zero=>
  intro i h tk c ts X hi q K J;have e:i=↑xs:=by lia
  subst e;refine codeAny_builtin F.entry_extend_loop ?_;rw[BN DA _];show wpAny _ A.in1 (pyNext (.ref z) >>= _) _ _ _;refine aF<|ZipSt.stop (s:={s with heap:=h,toks:=tk}) (A:=A.in1) T D q λh' d=>bF<|hR h' tk ts ⟨λb o I C f u E e=>d b o C f u E<|K b o I C f u E e,⟨c,d S _ (dI G) (dI H) (dI n) (dI B) J⟩,q.len,q.nd,q.up,λj t O=>?_⟩;obtain⟨x,y,e1,e2,e3⟩:=q.prs j t O;have a:=q.up t<|dC O;exact⟨x,y,e1,e2,d t _ (dI<|gI G a) (dI<|gI H a) (dI<|gI n a) (dI<|gI B a) e3⟩
 | succ m ih=>
  intro i h tk c ts X hi q K J;have P:i<↑xs:=by lia
  refine codeAny_builtin F.entry_extend_loop ?_;rw[BN DA _];show wpAny _ A.in1 (pyNext (.ref z) >>= _) _ _ _;refine aF<|ZipSt.turn (s:={s with heap:=h,toks:=tk}) D q (bN J) (λt a=>⟨dI<|gI G<|q.up t a,dI<|gI H<|q.up t a,dI<|gI n<|q.up t a,dI<|gI B<|q.up t a⟩) P hl λh' t Z a3 d=>?_;have N:vS h' S ts c:=d S _ (dI G) (dI H) (dI n) (dI B) J;have sz:(ts.map Value.ref).toArray.size=i:=by rw[cN,aI,q.len]
  obtain⟨c',a2⟩:∃c',vS (h'.update S<|Obj.mapSeq (·.push (Value.ref t))) S (ts++[t]) c':=by
   have W:((ts++[t]).map Value.ref).toArray=(ts.map Value.ref).toArray.push (.ref t):=by simp
   unfold vS;rw[W];exact⟨_,uE (Obj.mapSeq (·.push (Value.ref t))) N rfl⟩
  show wpAny _ A.in1 (updateSeq S (·.push (Value.ref t)) >>= _) _ _ _;refine aF<|wpAny_updateSeq N rfl (bF ⟨plainId_quiet DA _,ih (i+1) _ tk c' (ts++[t]) (by lia) P (Z.move ⟨bV G,bV o2,bV H,bV n,bV B,bV Y,bV o7⟩ λb o hb e=>(rM _ _<|bW hb).trans e) ?_ ?_⟩) ?_ ?_
  .exact λb o I C f u E e=>(rM _ _<|bW I).trans<|d b o C f u E<|K b o I C f u E e
  .exact a2
  .rw[sz];lia
  .show((ts.map Value.ref).toArray.push<|Value.ref t).size<=sizeLine+1;rw[Array.size_push,sz];lia
def ZZ{S z TI TO i d m l:Addr}{xs ys:List Value}{a b:Value}(G:A.handled=none)(D:ZipApart z TI TO i d m l)(lo:z<S/\TI<S/\TO<S/\i<S/\d<S/\m<S/\l<S)(hl:↑xs=↑ys)(O:↑xs<=sizeLine)(res:Value)
  (hz:IsZip s.heap z TI TO .none) (X:IsPair s.heap TI (.ref i) (.ref d)) (x:IsPair s.heap TO a b) (h1:s.heap.IsListIter i m 0) (h2:s.heap.IsListIter d l 0) (J:s.heap.IsList m xs.toArray) (W:s.heap.IsList l ys.toArray) {P:Nat} (r:vS s.heap S [] P)
  (L:∀h' tk ts,LI s.heap h' S z TO i d xs ys ts->R (.ok<|.ret res) {s with heap:=h',toks:=tk}):
  wpAny (model prog w) A.in1 (Builtin.List.listExtendWith (.ref S) (.ref z) res)
   (λfin s'=>match fin with | .done f=>R (.ok f) s' | .again c'=>c'.quiet=true/\codeAny (model prog w) A c' R s') (λe s'=>R (.error e) s') s:=by
 obtain⟨u,Z,Y,E,M,H,N⟩:=id lo;unfold Builtin.List.listExtendWith;refine aF<|uU (T:="zip") ⟨_,hz,rfl⟩ ?_;have e1:Builtin.List.listSameRef (.ref S) (.ref z)=false:=by simp[Builtin.List.listSameRef,dI u]
 have K:(Value.type "zip" == Value.type "list")=false:=by decide
 have B:(Value.type "zip" == Value.type "tuple")=false:=by decide
 simp only[e1,K,B,Bool.or_false,DU,iO];refine aF<|wpAny_pyIter_zip hz<|aF<|iU<|VL ⟨_,hz,rfl⟩ ?_;refine wpAny_ite_split (λ_=>?_) λc=>absurd rfl c;refine aF<|mK<|aF ?_;show wpAny _ _ (updateSeq S (·.push .none) >>= λ_=>updateSeq S (·.pop)) _ _ s;refine aF<|wpAny_updateSeq r rfl ?_;have q:=uE (Obj.mapSeq (·.push Value.none)) r rfl;refine wpAny_updateSeq (hz:=by seq_fits) q rfl ?_;have I:=uE (Obj.mapSeq (·.pop)) q rfl;have kp:∀b o,b≠S->s.heap.get? b=some o->((s.heap.update S<|Obj.mapSeq (·.push Value.none)).update S<|Obj.mapSeq (·.pop)).get? b=some o:=λb o n e=>(rM _ _<|bW n).trans<|(rM _ _<|bW n).trans e;refine bF ⟨plainId_quiet DA _,Aa (s:=s) G D lo hl O res L ↑xs 0 _ _ _ [] (Nat.sub_zero _) (bT _) ⟨.inl ⟨rfl,kp _ _ (bV u) hz⟩,kp _ _ (bV Z) X,⟨a,b,kp _ _ (bV Y) x⟩,h1.at λo e=>kp _ o (bV E) e,h2.at λo e=>kp _ o (bV M) e,J.at λo e=>kp _ o (bV H) e,W.at λo e=>kp _ o (bV N) e,rfl,kH,(λt h=>nomatch h),(λj t e=>by simp at e)⟩ (λb o C _ _ _ _ e=>kp b o C e) I⟩
def YF{z TI TO f d j i:Addr}{xs ys:List Value}{a b:Value}{Q:Vp}(H:A.handled=none)(D:ZipApart z TI TO f d j i)(hl:↑xs=↑ys)(T:↑xs<=sizeLine)
  (hz:IsZip s.heap z TI TO .none) (x:IsPair s.heap TI (.ref f) (.ref d)) (l:IsPair s.heap TO a b) (h1:s.heap.IsListIter f j 0) (h2:s.heap.IsListIter d i 0) (m:s.heap.IsList j xs.toArray) (u:s.heap.IsList i ys.toArray)
  (J:∀h' tk ts,LI s.heap h' s⁻¹ z TO f d xs ys ts->Q (.ref s⁻¹) {s with heap:=h',toks:=tk}):wpAny (model prog w) A (call (.type "list") [.ref z]) Q E s:=by
 refine callType_codes (Q₁:=λr n=>r=.ref s⁻¹/\n={s with heap:=s.heap.push {cls:=.type "list",data:=.seq #[]}}) F.called_list (F.typeCall_list_1 _) F.entry_list_init (code_list_new _ ⟨rfl,rfl⟩) λr n q=>?_;obtain⟨rfl,rfl⟩:=q;have K:z<s⁻¹:=bN hz;have C:TI<s⁻¹:=bN x;have N:TO<s⁻¹:=bN l;have I:f<s⁻¹:=by obtain⟨_,e,_⟩:=h1;exact bN e
 have Y:d<s⁻¹:=by obtain⟨_,e,_⟩:=h2;exact bN e
 have P:j<s⁻¹:=by obtain⟨_,e,_⟩:=m;exact bN e
 have L:i<s⁻¹:=by obtain⟨_,e,_⟩:=u;exact bN e
 have h:(s.heap.push {cls:=.type "list",data:=.seq #[]}).get? s⁻¹=some {cls:=.type "list",data:=.seq #[]}:=dD _ rfl;exists ⟨_,h,rfl⟩,F.args_list_init_2 _ _;show wpAny _ A.in1.in1 (do let old <-Builtin.List.listItems (.ref s⁻¹);Builtin.List.listUpdate (.ref s⁻¹) λ_=>#[];letGo old.toList.reverse;Builtin.List.listExtendWith (.ref s⁻¹) (.ref z) .none) _ _ _;refine aF ?_;unfold Builtin.List.listItems;refine aF<|iZ h rfl<|bF ?_;show wpAny _ _ (updateSeq s⁻¹ (λ_=>#[]) >>= λ_=>letGo (#[]:Array Value).toList.reverse >>= λ_=>Builtin.List.listExtendWith (.ref s⁻¹) (.ref z) .none) _ _ _;refine aF<|wpAny_updateSeq h rfl ?_;have O:=uE (Obj.mapSeq λ_=>(#[]:Array Value)) h rfl;have kp:∀b o,s.heap.get? b=some o->((s.heap.push {cls:=.type "list",data:=.seq #[]}).update s⁻¹<|Obj.mapSeq λ_=>(#[]:Array Value)).get? b=some o:=
  λb o e=>(rM _ _<|dI<|bN e).trans<|bS _ e
 refine aF<|wpAny_letGo ?_;refine ZZ (A:=A.in1) H D ⟨K,C,N,I,Y,P,L⟩ hl T .none (kp _ _ hz) (kp _ _ x) (kp _ _ l) (h1.at λo e=>kp _ o e) (h2.at λo e=>kp _ o e) (m.at λo e=>kp _ o e) (u.at λo e=>kp _ o e) O λh' tk ts q=>⟨rfl,J h' tk ts ?_⟩;exact⟨λb o G W B M X e=>q.keep b o G W B M X<|kp b o e,q.lst,q.len,q.nd,q.up,q.prs⟩
end
def jQ(H:Hp)(S:Addr)(ts:List Addr)(xs ys:List V):Hp:=λb=>if b=S then some (.lst<|ts.map V.ref) else if b∈ts then some (.tup [xs.getD (ts.idxOf b) .non,ys.getD (ts.idxOf b) .non]) else H b
def rQ{ts:List Addr}(nd:ts.Nodup){j:Nat}{t:Addr}(e:ts[j]?=some t):ts.idxOf t=j:=by
 obtain⟨f,d⟩:=wr1.mp e;have b:t∈ts:=dC e;have a:ts.idxOf t<↑ts:=List.idxOf_lt_length_iff.mpr b;have h2:ts[ts.idxOf t]=t:=List.getElem_idxOf a;exact(yI nd).mp<|h2.trans d.symm
theorem QO:∀ts:List Addr,Vals (ts.map V.ref)<|ts.map Value.ref
 | []=>.nil
 | t::r=>.cons rfl<|QO r
def XS(K:Fq)(ta:TA):TE:=λσ H Q=>ta σ H λvs H1=>∃(l1 l2:Addr)(xs ys:List V),vs=[.ref l1,.ref l2]/\SqL K H1 l1 xs/\SqL K H1 l2 ys/\↑xs=↑ys/\
 ∀(l:Addr)(ts:List Addr)(H':Hp),(∀b o,H1 b=some o->H' b=some o)->H1 l=none->H' l=some (.lst<|ts.map V.ref)->↑ts=↑xs->
  (∀(j:Nat) t,ts[j]?=some t->∃x y,xs[j]?=some x/\ys[j]?=some y/\H' t=some (.tup [x,y]))->Q (.ref l) H'
theorem boot_list:bootBuiltins "list"=some (.type "list"):=by first | exact PySem.boot_list | rfl'
def XZ{X:Cx}{a b:Expr}{ta:TA}{p C pos B:Pos}(hc:X.calm=true)(ah:Gl X "list")(al:X.mg "list"=none)(ab:Gl X "zip")(ak:X.mg "zip"=none)(ha:PA X [a,b] ta)
  (hs:starEach [a,b] X.env=[(false,eval a X.env),(false,eval b X.env)]:=by rfl) (aa:starEach [b] X.env=[(false,eval b X.env)]:=by rfl)
  (he:starEach [.Call (.Name "zip" C) [a,b] [] B] X.env=[(false,eval (.Call (.Name "zip" C) [a,b] [] B) X.env)]:=by rfl):
  PE X (.Call (.Name "list" p) [.Call (.Name "zip" C) [a,b] [] B] [] pos) (XS X.K ta):=by
 intro a4 s σ H Q I h;refine vP<|mI I ah al boot_list ?_;refine mX ?_ (by rw[he];rfl) rfl;rw[he];show wpAny _ _ (spliced<|(false,eval (.Call (.Name "zip" C) [a,b] [] B) X.env)::[]) _ _ s;refine kA<|aX (Q:=λu s₂=>wpAny (model X.prog X.w) X.A (call (.type "list") [u]) (EP X a4 σ Q) X.xe s₂) ?_ λu s₂ q=>nD q;refine Call_ (mI I ab ak boot_zip<|mX (aX (ha B a4 s σ H _ I h) λus d ⟨vs,H1,m,r1,q1⟩=>?_) (by rw[hs,aa])<|by rw[aa];rfl);obtain⟨l1,l2,xs,ys,e,aj,ai,hl,q⟩:=q1;subst e;cases r1 with
 | cons r rr=>
  cases rr with
  | cons r' rr=>
   cases rr;cases r;cases r';obtain⟨a6,n,af,a9⟩:=m.list aj;obtain⟨a7,O,ao,ap⟩:=m.list ai;have Y:=af.isList;have p2:=ao.isList;have ag:l1<d⁻¹:=by obtain⟨o,e,_⟩:=Y;exact bN e
   have ac:l2<d⁻¹:=by obtain⟨o,e,_⟩:=p2;exact bN e
   have D:ZipApart (d⁻¹+4) (d⁻¹+2) (d⁻¹+3) d⁻¹ (d⁻¹+1) l1 l2:=zipApart_new ag ac;refine call_zip_2 Y p2 λh' hz ae ad h1 h2 hsz M=>?_;refine YF (s:={d with heap:=h'}) (m.ok.hd hc) D (xs:=a6) (ys:=a7) (by rw[<-↑n,<-O.length];exact hl) (by rw[<-↑n];exact a9) hz ae ad h1 h2 (Y.at λo e=>M _ o e) (p2.at λo e=>M _ o e) λN tk ts i=>?_
   have G:d⁻¹<h'.objs.size:=by rw[hsz];lia
   have k2:∀b o,d.heap.get? b=some o->N.get? b=some o:=λb o e=>by
    have f:b<d⁻¹:=bN e;exact i.keep b o (bV<|gI f G) (bV<|fC f<|jV _ _) (bV<|fC f<|jV _ _) (bV f) (bV<|fC f<|jV _ _)<|M b o e
   have a2:∀b,b<d⁻¹->jQ H1 h'.objs.size ts xs ys b=H1 b:=λb f=>by
    unfold jQ;rw[bD<|bV<|gI f G,bD λl=>hC b<|gI (gI f G)<|i.up b l]
   have lt:∀b u,H1 b=some u->b<d⁻¹:=λb u e=>by
    rcases tT b d⁻¹ with h | h
    .exact h
    .rw[m.hok.fresh h]at e;cases e
   have L:∀b o,H1 b=some o->jQ H1 h'.objs.size ts xs ys b=some o:=λb o e=>by rw[a2 b<|lt b o e];exact e
   have z:∀(j:Nat) t,ts[j]?=some t->∃x y u v,xs[j]?=some x/\ys[j]?=some y/\RelV x u/\RelV y v/\IsPair N t u v/\jQ H1 h'.objs.size ts xs ys t=some (.tup [x,y]):=λj t e=>by
    obtain⟨u,v,J,E,e3⟩:=i.prs j t e;have am:j<↑xs:=by rw[↑n];exact(wr1.mp J).1
    have an:j<↑ys:=by rw[O.length];exact(wr1.mp E).1
    have g1:xs[j]?=some xs[j]:=bH am;have W:ys[j]?=some ys[j]:=bH an;obtain⟨u',eu,P⟩:=n.get g1;obtain⟨v',ev,Z⟩:=O.get W;rw[J]at eu;rw[E]at ev;cases eu;cases ev;have l:t∈ts:=dC e;exists _,_,u,v,g1,W,P,Z,e3;unfold jQ;rw[bD<|dI<|i.up t l,bE l,rQ i.nd e,fR,fR,g1,W];rfl
   have T:HOk X.prog X.w (jQ H1 h'.objs.size ts xs ys) N:=by
    intro b o e
    by_cases f:b=h'.objs.size
    .subst f;have:jQ H1 h'.objs.size ts xs ys h'.objs.size=some (.lst<|ts.map V.ref):=by unfold jQ;rw[bE rfl]
     rw[this]at e;cases e;obtain⟨c,ec⟩:=i.lst;exact⟨by rw[aI,i.len,<-↑n];exact a9,ts.map Value.ref,c,QO ts,ec⟩
    .by_cases l:b∈ts
     .obtain⟨j,hj⟩:=wv6.mp l;obtain⟨x,y,u,v,_,_,P,Z,ep,ez⟩:=z j b hj;rw[ez]at e;cases e;exact⟨⟨by show 2<=sizeLine;exact dM (bO<|by lia),_,ep,rfl⟩,[u,v],.cons P<|.cons Z .nil,_,ep,rfl,_,rfl⟩
     .have:jQ H1 h'.objs.size ts xs ys b=H1 b:=by unfold jQ;rw[bD f,bD l]
      rw[this]at e;exact(m.hok b o e).stay (λc v _ r=>k2 c v r) (λc r=>L c _ r) λc zs r=>L c _ r
   exists .ref h'.objs.size,_,m.laidMany (t':=tk) k2 a2 T,rfl;refine q h'.objs.size ts _ L (m.hok.fresh<|dM G) (by unfold jQ;rw[bE rfl]) (by rw[i.len,↑n]) λj t e=>?_
   obtain⟨x,y,u,v,J,E,_,_,_,ez⟩:=z j t e;exact⟨x,y,J,E,ez⟩
inductive A2{α β:Type}(R:α->β->Prop):List α->List β->Prop
 | nil:A2 R [] []
 | cons {a:α} {b:β} {as:List α} {bs:List β} (h:R a b) (t:A2 R as bs):A2 R (a::as) (b::bs)
def A2.imp{α β:Type}{R S:α->β->Prop}(f:∀a b,R a b->S a b){as:List α}{bs:List β}(h:A2 R as bs):A2 S as bs:=by
 induction h with
 | nil=>exact .nil
 | cons h _ ih=>exact .cons (f _ _ h) ih
def A2.app{α β:Type}{R:α->β->Prop}{as a:List α}{bs b:List β}(h:A2 R as bs)(g:A2 R a b):A2 R (as++a) (bs++b):=by
 induction h with
 | nil=>exact g
 | cons h _ ih=>exact .cons h ih
def A2.snoc{α β:Type}{R:α->β->Prop}{as:List α}{bs:List β}{a:α}{b:β}(h:A2 R as bs)(g:R a b):A2 R (as++[a]) (bs++[b]):=h.app<|.cons g .nil
def A2.len{α β:Type}{R:α->β->Prop}{as:List α}{bs:List β}(h:A2 R as bs):↑as=↑bs:=by
 induction h with
 | nil=>rfl
 | cons _ _ ih=>exact cM (·+1) ih
def A2.get{α β:Type}{R:α->β->Prop}{as:List α}{bs:List β}(h:A2 R as bs):∀{i:Nat}{a:α},as[i]?=some a->∃b,bs[i]?=some b/\R a b:=by
 induction h with
 | nil=>intro i a e;simp at e
 | cons h _ ih=>
  intro i a e;cases i with
  | zero=>cases e;exact⟨_,rfl,h⟩
  | succ i=>exact ih e
def LO{xs:List V}{us:List Value}(r:Vals xs us):∀{j:Nat}{u:Value},us[j]?=some u->∃x,xs[j]?=some x/\RelV x u:=by
 induction r with
 | nil=>intro j u e;simp at e
 | cons h _ ih=>
  intro j u e;cases j with
  | zero=>cases e;exact⟨_,rfl,h⟩
  | succ j=>exact ih e
section
variable{pins:List (Addr×Obj)}{σ:List (Option V)}{H:Hp}{s:Shared}{A:Around}
end
open Classical in
def gQ(x y:V):Prop:=(∃s:Str,x=.str s/\y=.str s)\/(∃i:Int,x=.int i/\y=.int i)\/x=.non/\y=.non
def TQ(K:Fq)(H:Hp)(a:Addr)(xs:List V):Prop:=H a=some (.tup xs)\/∀H',SqT K H' a xs
def TQ.sq{K:Fq}{H:Hp}{a:Addr}{xs:List V}(h:TQ K H a xs):SqT K H a xs:=h.elim SqT.of λg=>g H
inductive EE(K:Fq)(H:Hp)(R:V->V->Prop)(x y:V):Prop
 | mk(a b:Addr)(xs ys:List V)(h1:x=.ref a)(h2:y=.ref b)(h3:TQ K H a xs)(h4:TQ K H b ys)(h5:A2 R xs ys): EE K H R x y
def Sm(K:Fq)(H:Hp):Nat->V->V->Prop
 | 0=>gQ
 | n+1=>λx y=>gQ x y\/EE K H (Sm K H n) x y
section
variable{pins:List (Addr×Obj)}{σ:List (Option V)}{H:Hp}{s:Shared}
def QW{A:Around}{x y:V}{u v:Value}(h:gQ x y)(a:RelV x u)(b:RelV y v):SeqAt.EqAt A s u v true:=by
 rcases h with ⟨z,rfl,rfl⟩ | ⟨z,rfl,rfl⟩ | ⟨rfl,rfl⟩
 .obtain⟨t,rfl⟩:=a;obtain⟨d,rfl⟩:=b;have:=SeqAt.EqAt.str_str (A:=A) (s:=s) z t z d;rwa [beq_self_eq_true]at this
 .obtain⟨t,rfl⟩:=a;obtain⟨d,rfl⟩:=b;have:=SeqAt.EqAt.int_int (A:=A) (s:=s) z t z d;rwa [beq_self_eq_true]at this
 .cases a;cases b;exact SeqAt.EqAt.same _
def MN(I:Inv X pins σ H s){A:Around}{R:V->V->Prop}{xs ys:List V}(m:∀x y u v,R x y->RelV x u->RelV y v->SeqAt.EqAt A s u v true)(h:A2 R xs ys){its a:List Value}(r:Vals xs its)(e:Vals ys a)(j:Nat)(h1:j<its.toArray.size)(h2:j<a.toArray.size):SeqAt.EqAt A s its.toArray[j] a.toArray[j] ((λ_=>true) j):=by
 have i:its[j]?=some its.toArray[j]:=by simp
 have d:a[j]?=some a.toArray[j]:=by simp
 obtain⟨x,n,f⟩:=LO r i;obtain⟨y,l,o⟩:=LO e d;obtain⟨q,b,hr⟩:=h.get n;rw[l]at b;cases b;exact m x y _ _ hr f o
def RY(n m:Nat)(h:n=m):((List.range<|min n m).all (λ_=>true) && n == m)=true:=by
 subst h;simp
theorem NL(I:Inv X pins σ H s):∀(n:Nat){A:Around}{x y:V}{u v:Value},A.units+n<cLine->Sm X.K H n x y->RelV x u->RelV y v->SeqAt.EqAt A s u v true
 | 0,_,_,_,_,_,_,h,rx,ry=>QW h rx ry
 | n+1,A,x,y,u,v,hu,h,rx,ry=>by
  rcases h with h | ⟨a,b,xs,ys,rfl,rfl,h3,h4,h5⟩
  .exact QW h rx ry
  .cases rx;cases ry
   by_cases e:a=b
   .subst e;exact SeqAt.EqAt.same _
   .refine SeqAt.EqAt.of_refs e ?_;obtain⟨its,r,p,_⟩:=I.tuple h3.sq;obtain⟨l,d,p2,_⟩:=I.tuple h4.sq;have h:=SeqAt.RcAt.tuples (A:=A) (e:=λ_=>true) p p2 (by lia) λj h1 h2=>MN I (λx y u v hr i f=>NL I n (by show A.units+1+n<cLine;lia) hr i f) h5 r d j h1 h2;rwa [cN,cN,RY _ _<|by rw[<-↑r,<-↑d];exact h5.len]at h
def EW(K:Fq)(n:Nat):R2:=λx y H Q=>EE K H (Sm K H n) x y/\Q (.bl false) H
def FY{n:Nat}(E:X.A.units+n+1<cLine):OpR X (compareOp .NotEq) (EW X.K n):=by
 intro B s σ H x y v u Q I l w h;obtain⟨⟨a,b,xs,ys,rfl,rfl,m,i,f⟩,q⟩:=h;cases l;cases w;obtain⟨its,r,p,_⟩:=I.tuple m.sq;obtain⟨C,d,p2,_⟩:=I.tuple i.sq;have h:=SeqAt.RcNeAt.tuples (A:=X.A) (e:=λ_=>true) p p2 (by lia) λj h1 h2=>MN I (λx y u v hr o z=>NL I n (by show X.A.units+1+n<cLine;lia) hr o z) f r d j h1 h2;rw[cN,cN,RY _ _<|by rw[<-↑r,<-↑d];exact f.len]at h;exact h _ _ _ _ ⟨.bl _,H,I,rfl,q⟩
end
section
variable{tg:Expr}
end
section
variable{o i e value:Expr}{pos:Pos}{td ty:TE}
end
abbrev FG(w:World):Bool:=w.params.followText "set-order"
def wX(w:World)(e:Int×Value):Prop:=∃x tk,e=(hashStr w x,.str x tk)
inductive IK(w:World)(h:Heap)(a:Addr)(ss:List Str):Prop
 | mk(es:Array (Int×Value))(ep:Nat)(t:SetTable)(h1:h.get? a=some {cls:=.type "set",data:=.set es ep t})(h2:∀e∈es.toList,wX w e)(h3:ss=es.toList.map DV)(h4:ss.Nodup)(h5:t.fits es.size=true)(h6:t.led=!FG w)(h7:ss=[]\/t.plain=false):IK w h a ss
section
variable{a I:Addr}{es:Array (Int×Value)}{ep:Nat}{t:SetTable}
end
theorem Inv.drawn{a:List (Addr×Obj)}{σ:St}{H:Hp}{s:Shared}{d:Drawn}(I:Inv X a σ H s):Inv X a σ H {s with drawn:=d}:=⟨I.ok,I.os,I.bare,I.base,I.loc,I.cell,I.free,I.freeC,I.pin,I.hok,I.len⟩
section
variable{M:Model}{A:Around}{E:Vp}{s:Shared}{st:SortSt}{n:Nat}{act:Nat->StateT SortSt Sem (Option Bool)}
end
structure PM(st st':SortSt):Prop where
 kd:kindOf st'=kindOf st
 ar:arrOf st'=arrOf st
 pe:pendingOf st'=pendingOf st
 fa:failedOf st'=failedOf st
section
variable{kd:SortKind}{U:Keyed->Prop}{LT:Keyed->Keyed->Bool}{st:SortSt}
end
section
variable{a b out:Array Keyed}{i j:Nat}{x:Keyed}
end
section
variable{kd:SortKind}{U:Keyed->Prop}{LT:Keyed->Keyed->Bool}{st:SortSt}
end
section
variable{a b out:Array Keyed}{i j:Nat}{x:Keyed}
def Hd(a b out:Array Keyed)(i j:Nat):Prop:=(a.toList.take i++(b.toList.take j++out.toList.reverse)).Perm<|a.toList++b.toList
end
section
variable{kd:SortKind}{U:Keyed->Prop}{LT:Keyed->Keyed->Bool}{st:SortSt}
end
structure SB(kd:SortKind)(a₀:Array Keyed)(pe:Array (Nat×Nat×Nat))(st:SortSt):Prop where
 pm:(arrOf st).Perm a₀
 kd:kindOf st=kd
 fa:failedOf st=none
 pe:pendingOf st=pe
section
variable{kd:SortKind}{LT:Keyed->Keyed->Bool}{a₀:Array Keyed}{pe:Array (Nat×Nat×Nat)}{st:SortSt}{lo:Nat}
end
section
variable{kd:SortKind}{LT:Keyed->Keyed->Bool}{a₀:Array Keyed}{st:SortSt}
inductive Rn(n mr lo:Nat)(st:SortSt):Prop
 | zero:lo=0->pendingOf st=#[]->Rn n mr lo st
 | one (p:Nat):1<=lo->lo<=n->(lo=n\/mr<=lo)->pendingOf st=#[(0,lo,p)]->Rn n mr lo st
 | two (m r p:Nat):lo=n->m+r=n->1<=m->1<=r->pendingOf st=#[(0,m,p),(m,r,0)]->Rn n mr lo st
end
section
variable{kd:SortKind}{LT:Keyed->Keyed->Bool}
end
abbrev Pr:=Str×Str
section
variable{it d:Addr}{od:Obj}{es:Array DictEntry}{i ep:Nat}
def DE(h:Heap)(d:Addr)(es:Array DictEntry)(ep:Nat):Prop:=∃od,h.get? d=some od/\od.cls=.type "dict"/\od.data=.dict es ep
end
section
variable{T:String}{r d:Addr}{n:Nat}{P:Nat->Value->Prop}{OK:Heap->Prop}
end
section
variable{scope:Scope}{N':List Str}{src:List (Option Nat)}{pins:List (Addr×Obj)}{σ:St}{H2:Hp}{s2:Shared}
end
section
variable{KK:Type}[DecidableEq KK]{knd:HeapKind prog w KK}
end
def iM(p:Pr):List aJ:=[Sum.inr p.1,Sum.inr p.2]
def MO(h:iM p=iM q):p=q:=by
 unfold iM at h;injection h with h1 h2;injection h2 with h2 _;exact Prod.ext (sZ h1)<|sZ h2
abbrev AX(P:Program)(w:World):=tupleKind<|cI P w
section
variable{pins:List (Addr×Obj)}{σ:St}{H:Hp}{s:Shared}
def KY(I:Inv X pins σ H s)(h:SqT X.K H b [.str n.1,.str n.2]):(AX X.prog X.w).is s.heap (iM n) b:=by
 obtain⟨its,r,⟨o,h1,h2,m,a⟩,_⟩:=I.tuple h;exact⟨o,its.toArray,m,h1,h2,a,by simpa using LH (ks:=iM n) r⟩
end
section
variable{i o:Expr}{ty td:TE}
end
open Classical in
open Classical in
open Classical in
def ML:Manifest.owners.lookup (String.ofList ['d','e','s','r','e','v','e','r'].reverse)=some Manifest.sig_reversed:=by kernel_rfl
def TX:Slot "reversed" "__init__" "object.__init__":=.of (owner:="object") (n:="__init__") (by(rw[mR,nW];kernel_rfl)) (by rfl') (by rfl') (by rfl') (by first | exact .inl (by rfl') | exact .inr (by rfl')) (by(rw[uF];kernel_rfl))
def zs2:Slot "reversed" "__next__" "reversed.__next__":=.of (owner:="reversed") (n:="__next__") (by(rw[mR,nW];kernel_rfl)) (by rfl') (by rfl') (by rfl') (by first | exact .inl (by rfl') | exact .inr (by rfl')) (by(rw[uF];kernel_rfl))
def NF:Slot "reversed" "__iter__" "reversed.__iter__":=.of (owner:="reversed") (n:="__iter__") (by(rw[mR,nW];kernel_rfl)) (by rfl') (by rfl') (by rfl') (by first | exact .inl (by rfl') | exact .inr (by rfl')) (by(rw[uF];kernel_rfl))
def RX:entryFor table "reversed.__next__"=some Builtin.«reversed.__next__»:=entryFor_of_tree (by kernel_rfl)
def ZE:entryFor table "reversed.__new__"=some Builtin.«reversed.__new__»:=entryFor_of_tree (by kernel_rfl)
def Bc:entryFor table "reversed.__iter__"=some Builtin.«dict_keyiterator.__iter__»:=
 entryFor_alias (id':="dict_keyiterator.__iter__") (by kernel_rfl) (by first | rfl | rfl' | (unfold String.splitOn;(simp +decide [String.splitOnAux]))) (by rfl') (by kernel_rfl)
def LQ(a:Value):argsOk "reversed.__next__" ⟨[a],[]⟩:=by
 unfold argsOk;(rw[signature?_of (id:="reversed.__next__") (n:=['_','_','t','x','e','n','_','_']) (o:=['d','e','s','r','e','v','e','r']) (by kernel_rfl) ML];kernel_rfl)
def ZU(a:Value):argsOk "reversed.__iter__" ⟨[a],[]⟩:=by
 unfold argsOk;(rw[signature?_of (id:="reversed.__iter__") (n:=['_','_','r','e','t','i','_','_']) (o:=['d','e','s','r','e','v','e','r']) (by kernel_rfl) ML];kernel_rfl)
def MD:mroOf (.type "reversed")=pure [.type "reversed",.type "object"]:=by(rw[mroOf_type];kernel_rfl)
def VS:typeLookup (.type "reversed") "__new__"=pure (some<|.builtin "reversed.__new__"):=by(rw[mR,nW];kernel_rfl)
def YG:TypeCalled "reversed" "reversed.__new__" "object.__init__":=
 ⟨by rfl',by rfl',⟨_,_,MD⟩,madeBy_type MD VS (by rfl'),by rfl',by(rw[uF];kernel_rfl),TX⟩
def wN(a:Value):checkTypeCall "reversed" ⟨[a],[]⟩=pure ():=by kernel_rfl
def wF(a:Value):checkBuiltinCall "reversed.__new__" ⟨[.type "reversed",a],[]⟩=pure ():=by kernel_rfl
def qP:isSubtype (.type "reversed") (.type "reversed")=pure true:=by(rw[uF];kernel_rfl)
def NP:typeLookup (.type "tuple") "__reversed__"=pure none:=by(rw[mR,nW];kernel_rfl)
abbrev kX(h:Heap)(it a:Addr)(j:Int):Prop:=h.get? it=some {cls:=.type "reversed",dict:=none,data:=.fields #[.ref a,.int j 0],slots:=#[]}
def ZO(a:Addr)(xs:Array Value)(o:xs.size<=sizeLine):
  Meets (Builtin.«reversed.__new__» ⟨[.type "reversed",.ref a],[]⟩) (λ_ R s=>s.heap.IsTuple a xs/\∀tk,R (.ok<|.ret<|.ref s⁻¹) {s with heap:=s.heap.push {cls:=.type "reversed",data:=.fields #[.ref a,.int ((xs.size:Int)-1) 0]},toks:=tk}):=
 .of_wp λprog w A R s h=>by
  obtain⟨b,h⟩:=h;have j:=qP;have ty:s.TypeIs (.ref a) "tuple":=b.typeIs;obtain⟨hp,g,d,tk,os⟩:=s;have e:isSubtype (.type "tuple") (.type "dict")=pure false:=by(rw[uF];kernel_rfl)
  have n:=vj4.lookup;have m:=NP;have l:=lT;have hl:IsTup (Shared.heap ⟨hp,g,d,tk,os⟩) a xs:=b;have i:(xs.size:Int)<2 ^ 63:=by lia
  have f:∀{Q:Vp}{A:Around}{E:Vp},Q (.int xs.size<|tk+1) ⟨hp,g,d,tk+1+1,os⟩->wpAny (model prog w) A (call (.builtin "len") [.ref a]) Q E ⟨hp,g,d,tk,os⟩:=λh=>len_tuple (s:=⟨hp,g,d,tk,os⟩) hl i h
  wp_walk using nS ty NP,wpAny_isInstance ty e,nS ty vj4.lookup,f
  exact⟨_,rfl,h _⟩
def UP(b:xs.size<=sizeLine)(d:s.heap.IsTuple a xs)(h:∀tk,kX (s.heap.push {cls:=.type "reversed",data:=.fields #[.ref a,.int ((xs.size:Int)-1) 0]}) s⁻¹ a ((xs.size:Int)-1)->Q (.ref s⁻¹) {s with heap:=s.heap.push {cls:=.type "reversed",data:=.fields #[.ref a,.int ((xs.size:Int)-1) 0]},toks:=tk}):
  wpAny (model prog w) A (call (.type "reversed") [.ref a]) Q E s:=by
 refine callType_new YG (by decide) (wN _) (wF _) (λobj=>F.args_object_init_2 obj _) ZE (ZO a xs b) ⟨d,λtk=>?_⟩;have g:(s.heap.push {cls:=.type "reversed",data:=.fields #[.ref a,.int ((xs.size:Int)-1) 0]}).get? s⁻¹=some _:=dD _ rfl;exact⟨⟨_,g,rfl⟩,h tk g⟩
def SL(b:kX s.heap it a j)(h:Q (.ref it) s):wpAny (model prog w) A (pyIter<|.ref it) Q E s:=by
 have ty:s.TypeIs (.ref it) "reversed":=⟨_,b,rfl⟩;refine wpAny_pyIter_slot ty NF<|iY NF ty Bc ?_<|ZU _;refine bF ⟨_,rfl,"reversed",_,ty,zs2.lookup,h⟩
def YZ{it a:Addr}{j:Nat}{xs:Array Value}{x:Value}{Q:Option Value->Shared->Prop}(b:kX s.heap it a (j:Int))(e:IsTup s.heap a xs)(n:a≠it)(r:xs.size<=sizeLine)(d:xs[j]?=some x)
  (i:∀h' tk,kX h' it a ((j:Int)-1)->Heap.SameBut it s.heap h'->Q (some x) {s with heap:=h',toks:=tk}):wpAny (model prog w) A (pyNext<|.ref it) Q E s:=by
 have ty:s.TypeIs (.ref it) "reversed":=⟨_,b,rfl⟩;unfold pyNext;refine aF<|tS<|kQ (name:=Str.ofString "__next__") ty zs2<|iY zs2 ty RX ?_<|LQ _;show wpAny _ _ (field (.ref it) 0 >>= _) _ _ s;refine aF<|eA b rfl (x:=.ref a) rfl ?_;show wpAny _ _ (field (.ref it) 1 >>= _) _ _ s;refine aF<|eA b rfl (x:=.int (j:Int) 0) rfl ?_;show wpAny _ _ (if (j:Int)<0 then _ else _) _ _ s;rw[bD<|by lia];refine aF<|nS e.typeIs vj4.lookup ?_;show wpAny _ _ (mkInt (j:Int) >>= _) _ _ s;refine aF<|wpAny_mkInt ?_;have q:j<xs.size:=by
  rcases tT j xs.size with h | h
  .exact h
  .rw[BX h]at d;cases d
 have o:=lT;have f:IsTup (Shared.heap {s with toks:=s.toks+1}) a xs:=e;refine aF<|tS<|getItem_tuple (s:={s with toks:=s.toks+1}) (j:=j) f (by lia) (by lia) (by unfold seqIndex?;(simp only[show ¬((j:Int)<0) by lia,iO];rw[bE<|by simp;lia];simp)) d ?_;show wpAny _ _ (field (.ref it) 1 >>= _) _ _ _;refine aF<|eA b rfl (x:=.int (j:Int) 0) rfl ?_;refine aF<|kP b (by simp) λh' l m=>?_;refine bF ⟨_,rfl,?_⟩;exact bF<|i h' _ l m
def qV(h:A.handled=none)(d:kX s.heap it a j)(r:j<0)(n:∀h' tk,Heap.ExtBut it s.heap h'->Q none {s with heap:=h',toks:=tk}):wpAny (model prog w) A (pyNext<|.ref it) Q E s:=by
 have ty:s.TypeIs (.ref it) "reversed":=⟨_,d,rfl⟩;unfold pyNext;refine aF<|tS<|kQ (name:=Str.ofString "__next__") ty zs2<|iY zs2 ty RX ?_<|LQ _;show wpAny _ _ (field (.ref it) 0 >>= _) _ _ s;refine aF<|eA d rfl (x:=.ref a) rfl ?_;show wpAny _ _ (field (.ref it) 1 >>= _) _ _ s;refine aF<|eA d rfl (x:=.int j 0) rfl ?_;show wpAny _ _ (if j<0 then _ else _) _ _ s;rw[bE r];refine aF<|mK ?_;refine aF ?_;show wpAny _ _ (setField (.ref it) 1 (rawInt<|-1) >>= λ_=>setField (.ref it) 0 .none) _ _ s;refine aF<|kP d (by simp) λB q i=>?_;refine kP q (by simp) λu z l=>?_
 refine aF ?_;show wpAny _ _ (newExc (.type "StopIteration") [] >>= _) _ _ _;refine aF ?_;simp only[newExc,newTuple];refine aF (kF ?_<|by size_fits);refine aF (m:=firstArgMember _ _)<|wpAny_of_eq (a:=Value.none) (by first | rfl | (simp only[firstArgMember];rfl)) ?_;refine kF ?_ (by size_fits);simp only[raiseNew];refine aF<|wpAny_handled ?_;first | rw[show A.in1.handled=none from h] | rw[h]
 refine aF<|bF<|wpAny_throw ?_;refine aF<|wpAny_isInstance (T:="StopIteration") (b:=true) ⟨_,dD _ rfl,rfl⟩ isSubtype_stop<|bF<|n _ _ ?_;exact λb o f e=>bS _<|bS _<|l.extBut _ _ f<|i.extBut _ _ f e
def kC(K:Fq)(a:Addr)(n:Nat):It:=
 ⟨λi H=>∃xs x,SqT K H a xs/\↑xs=n/\xs.reverse[i]?=some x,λi H x H'=>H'=H/\∀xs,SqT K H a xs->xs.reverse[i]?=some x,λi H=>∃xs,SqT K H a xs/\↑xs=n/\n<=i⟩
def ZY{P:Program}{w:World}{K:Fq}{tg:Expr}(a it:Addr)(a2:a≠it)(n:Nat):eO P w K tg (kC K a n) [it] it (λi h=>kX h it a<|(n:Int)-1-(i:Nat)) where
 mem:=by simp
 obj:=λi h st b d=>by
  have e:b=it:=by simpa using d
  subst e;exact⟨_,st,λv z=>by cases z⟩
 keep:=λi h h' st k=>k it (by simp) _ st
 item:=by
  intro X r B A T i N s σ H E I f st G;subst r B A;obtain⟨xs,x,q,hn,j⟩:=G;obtain⟨its,O,p,hz⟩:=I.tuple q;have hi:i<↑xs:=by
   have:=(wr1.mp j).1;rwa [iE]at this
  have a3:xs[↑xs-1-i]?=some x:=by rw[<-List.getElem?_reverse hi];exact j
  obtain⟨u,hu,ru⟩:=O.get a3;obtain⟨C,L,f2,J,m,l⟩:=f it (by simp);have W:((n:Int)-1-(i:Nat))=((↑xs-1-i:Nat):Int):=by lia
  have Y:kX s.heap it a ((↑xs-1-i:Nat):Int):=by rw[<-W];exact st
  have hl:=O.length;refine YZ Y p a2 (by rw[cN,<-hl];exact hz) (x:=u) (by simpa using hu) λh' tk a4 sb=>?_
  have Z:Inv X N σ H {s with heap:=h',toks:=tk}:=I.turned (t':=tk) (λb o d e=>(sb.2 b d).trans e) C L J m l;have M:kX h' it a ((n:Int)-1-((i+1:Nat):Int)):=by
   have e2:((n:Int)-1-((i+1:Nat):Int))=((↑xs-1-i:Nat):Int)-1:=by lia
   rw[e2];exact a4
  exact⟨u,rfl,oK (s:={s with heap:=h',toks:=tk}) M rfl rfl (by decide) ⟨x,H,Z,ru,⟨rfl,λys hy=>by rw[I.tuple_inj hy q];exact j⟩,M,λb d=>(f b d).1⟩⟩
 done:=by
  intro X r B A T i N s σ H E I f st G;subst r B A;obtain⟨xs,q,hn,j⟩:=G;obtain⟨C,L,f2,J,m,l⟩:=f it (by simp);exact qV (I.ok.hd T) st (by lia) λh' tk eb=>⟨rfl,I.turned (t':=tk) (λb o d e=>eb b o d e) C L J m l⟩
 self:=λ_ _ _ _ _ st h=>SL st h
section
variable{tg:Expr}
def JI(K:Fq)(ta:TA):TI:=λσ H R=>ta σ H λvs H1=>∃a xs,vs=[.ref a]/\SqT K H1 a xs/\R (kC K a ↑xs) H1
def WS:bootBuiltins "reversed"=some (.type "reversed"):=by rfl'
def OF(u:Gl X "reversed")(z:X.mg "reversed"=none)(m:PA X [a] ta)(hs:starEach [a] X.env=[(false,eval a X.env)]:=by rfl):PI X tg (.Call (.Name "reversed" p) [a] [] pos) (JI X.K ta):=by
 intro B s σ H R I h;refine Call_<|mI I u z WS<|mX (aX (m pos B s σ H _ I h) λus d ⟨vs,H1,f,w,A⟩=>?_) (by rw[hs];rfl) rfl;obtain⟨l,xs,e,x,q⟩:=A;subst e;cases w with
 | cons r rr=>
  cases rr;cases r;obtain⟨its,C,i,hz⟩:=f.tuple x;have hl:=C.length;have j:l<d⁻¹:=by obtain⟨o,e,_⟩:=i;exact bN e
  refine UP (xs:=its.toArray) (by rw[cN,<-hl];exact hz) i λtk hr=>?_
  refine SL (s:={d with heap:=_,toks:=tk}) hr ?_;refine⟨d⁻¹,[d⁻¹],_,_,H1,rfl,f.kept (t':=tk) λb o e=>bS _ e,ZY l _ (bV j) ↑xs,?_,λb E=>?_,q⟩
  .have n:(((↑xs:Nat):Int)-1-((0:Nat):Int))=((its.toArray.size:Nat):Int)-1:=by rw[cN,hl];lia
   show kX _ _ _ _;rw[n];exact hr
  .have e:b=d⁻¹:=by simpa using E
   subst e;exact f.fpOk (aY _)<|f.hok.fresh<|aY _
end
def Bk(l:Addr)(items:Array Value)(n:Nat)(q:Option Addr)(C:Array (Option Value))(x:Value)(e:Value->Bool)(j:Nat)(G:j<items.size)(u:∀i (h:i<items.size),i<j->e items[i]=false)(B:e items[j]=true):
  Meets (Builtin.«tuple.index» ⟨[.ref l,x],[]⟩)
   (λA R s=>s.heap.get? l=some {cls:=.type "tuple",dict:=q,data:=.seq items n,slots:=C}/\(∀y,y∈items->SeqAt.EqAt A.in1 s y x (e y))/\R (.ok<|.ret<|.int (j:Nat) s.toks) {s with toks:=s.toks+1}):=
 .of_wp λprog w A R s h=>by
  obtain⟨hp,g,d,tk,os⟩:=s;obtain⟨hl,he,h⟩:=h;have hr:∀{β:Type}(b:β)(f:Nat->β->Sem (ForInStep β)),forIn ([0:min items.size items.size]:Std.Legacy.Range) b f=forIn (List.range' 0 items.size) b f:=by
   intro β b f;rw[Std.Legacy.Range.forIn_eq_forIn_range'];simp[Std.Legacy.Range.size]
  wp_walk using wpAny_loadPart' hl
  show wpAny _ _ (forIn (m:=Sem) ([0:min items.size items.size]:Std.Legacy.Range) ((none,()):Option Fin×Unit) (λ(i:Nat) E=>match items[i]? with
      | some y=>do
       let __do_lift <-eqBool y x
       if __do_lift=true then do
         let __do_lift <-retInt (i:Int)
         pure (ForInStep.done (some __do_lift,()))
        else pure<|ForInStep.yield (none,())
      | x=>pure<|ForInStep.yield (none,()))) _ _ _
  rw[hr];refine wpAny_forIn_list _ (λrest b s'=>b=(none,())/\s'=⟨hp,g,d,tk,os⟩/\∃i,rest=List.range' i (items.size-i)/\i<=j) _ ?_ ?_ _ _ ⟨rfl,rfl,0,rfl,bT _⟩
  .rintro y rest b s' ⟨rfl,rfl,i,hi,o⟩;have a:i<items.size:=by lia
   rw[show items.size-i=(items.size-i-1)+1 by lia,List.range'_succ]at hi;obtain⟨rfl,rfl⟩:=List.cons.inj hi;have r:items[y]?=some items[y]:=Array.getElem?_eq_getElem a;show wpAny _ _ (match items[y]? with
      | some z=>do
       let __do_lift <-eqBool z x
       if __do_lift=true then do
         let __do_lift <-retInt (y:Int)
         pure (ForInStep.done (some __do_lift,()))
        else pure<|ForInStep.yield (none,())
      | x=>pure<|ForInStep.yield (none,())) _ _ _
   rw[r];refine aF<|he items[y] (Array.getElem_mem a) prog w _ _ ?_;rcases tT y j with hy | hy
   .rw[u y a hy]
    wp_walk
    exact⟨rfl,rfl,y+1,by rw[show items.size-y-1=items.size-(y+1) by lia],by lia⟩
   .obtain rfl:y=j:=by lia
    rw[B]
    wp_walk
    exact⟨_,rfl,h⟩
  .rintro b s' ⟨rfl,rfl,i,hi,o⟩;rw[show items.size-i=(items.size-i-1)+1 by lia,List.range'_succ]at hi;cases hi
def ixV(x:V)(xs:List V):Nat:=xs.findIdx λy=>gY y x
def JQ(td ty:TE):TE:=λσ H Q=>td σ H λv H1=>∃a xs,v=.ref a/\Rd H1 a (.tup xs)/\ty σ H1 λy H2=>iH y=true/\Rd H2 a (.tup xs)/\xs.all iH=true/\gU y xs=true/\Q (.int<|ixV y xs) H2
section
variable{o e:Expr}{apos cpos:Pos}{td ty:TE}
theorem LU{x:V}:∀{xs:List V}{us:List Value},Vals xs us->xs.all iH=true->∀(i:Nat)(u:Value),us[i]?=some u->∃y,xs[i]?=some y/\gJ x u=gY y x
 | _,_,.nil,_=>λi u h=>by cases h
 | y::xs,u::us,.cons r t,f=>λi a h=>by
  rw[List.all_cons,oD]at f;cases i with
  | zero=>cases h;exact⟨y,rfl,JV r f.1⟩
  | succ i=>exact LU t f.2 i a h
def tQ(N:PE X o td)(he:PE X e ty)(m:M1 X o "index" apos e cpos):PE X (.Call (.Attribute o "index" apos) [e] [] cpos) (JQ td ty):=by
 intro E s σ H Q I h;refine rY m.base m.few m.line PySem.F.plainAttrs_tuple PySem.F.slot_tuple_index PySem.F.type_tuple_index<|aX (N E s σ H _ I h) λu B ⟨v,H1,q,J,a,xs,ex,hq,M⟩=>?_;subst ex;obtain rfl:u=Value.ref a:=J;obtain⟨⟨z1,od,W,P⟩,a3,a5,o1,g1,t1,_⟩:=(show ObjOk X.prog X.w H1 B.heap a (.tup xs) from HJ q.hok hq);exists ⟨_,g1,t1⟩,λb z=>?_
 .cases z;exact⟨od,W,P⟩
 rw[m.trees];refine lI rfl<|sI<|kA<|aX (he E B σ H1 _ q M) λL s2 ⟨y,H2,C,ry,K,Y,fs,a2,q2⟩=>nD ?_;obtain⟨its,j,⟨f,l,G,n,hd⟩,hz⟩:=C.tuple<|.inl Y;have hl:=↑j;have a6:ixV y xs<↑xs:=List.findIdx_lt_length.mpr<|vk3.mp a2;have hs:ixV y xs<its.toArray.size:=by rw[cN];lia
 have wI:∀i (h:i<its.toArray.size) b,(∀z,xs[i]?=some z->gY z y=b)->gJ y its.toArray[i]=b:=λi h b k=>by
  obtain⟨z,d,O⟩:=LU (x:=y) j fs i its.toArray[i] (by simp);rw[O];exact k z d
 have Z:s2.heap.get? a=some {cls:=.type "tuple",dict:=f.dict,data:=.seq its.toArray n,slots:=f.slots}:=by
  rw[l,<-G,<-hd]
 refine lZ PySem.F.slot_tuple_index (T:="tuple") ⟨_,l,G⟩ PySem.F.entry_tuple_index (PySem.F.args_tuple_index_2 _ _) (λA R s=>Bk a its.toArray n f.dict f.slots L (gJ y) (ixV y xs) hs ?_ ?_ X.prog X.w A R s) ⟨Z,λv hv=>uB ry K j fs v (by simpa using hv),⟨.int (ixV y xs:Nat),H2,C.tok _,⟨_,rfl⟩,q2⟩⟩
 .intro i h hi;refine wI i h false λz d=>?_;have:=List.not_of_lt_findIdx hi;obtain⟨r,rfl⟩:=wr1.mp d;simpa using this
 .refine wI _ hs true λz d=>?_;obtain⟨r,rfl⟩:=wr1.mp d;exact List.findIdx_getElem (w:=r)
end
structure uO(K:Fq)(C:Addr)(fs:List Str):Prop where
 c:Cls K C
 n:∀f∈fs,NoAttr K C f
inductive OW(C:Addr)(f:Str)(x:V)(H:Hp)(Q:VK):Prop
 | mk(a dx:Addr)(fs:List (Str×V))(v:V)(h1:x=.ref a)(h2:H a=some (.ins C dx fs))(h3:fs.lookup f=some v)(q:Q v H)
def SZ(C:Addr)(f:Str)(ta:TE):TE:=λσ H Q=>ta σ H λx H1=>OW C f x H1 Q
inductive YS(C:Addr)(f:Str)(x y:V)(H:Hp)(Q:Hp->Prop):Prop
 | mk(a dx:Addr)(fs:List (Str×V))(h1:x=.ref a)(h2:H a=some (.ins C dx fs))(h3:↑fs<1000)(q:Q (upd H a<|.ins C dx<|cJ f y fs))
def XN(C:Addr)(f:Str)(ta tv:TE):TS:=λD σ H=>tv σ H λy H1=>ta σ H1 λx H2=>YS C f x y H2<|D.nx σ
inductive QI(C:Addr)(f:Str)(g:Int->Int->Int)(tv:TE)(σ:St)(D:cU)(x:V)(H:Hp):Prop
 | mk(a dx:Addr)(fs:List (Str×V))(i:Int)(h1:x=.ref a)(h2:H a=some (.ins C dx fs))(h3:fs.lookup f=some (.int i))(q:tv σ H λy H2=>∃j dx' fs',y=.int j/\H2 a=some (.ins C dx' fs')/\↑fs'<1000/\D.nx σ (upd H2 a<|.ins C dx'<|cJ f (.int<|g i j) fs'))
def Bj(C:Addr)(f:Str)(g:Int->Int->Int)(ta tv:TE):TS:=λD σ H=>ta σ H λx H1=>QI C f g tv σ D x H1
section
variable{o e value:Expr}{f:Str}{pos pos' tpos:Pos}{ta tv:TE}{C:Addr}{fs:List Str}
def bU(Z:uO X.K C fs)(he:PE X e ta)(o:f∈fs:=by rfl')(r:attributeBase e f X.env (eval e X.env)=eval e X.env:=by rfl):PE X (.Attribute e f pos) (SZ C f ta):=by
 intro m s σ H Q I h;refine ZV r<|aX (he m s σ H _ I h) ?_;rintro u A ⟨x,H1,i,b,a,dx,fs,v,ex,d,l,q⟩;subst ex;obtain rfl:u=Value.ref a:=b;exact OH i d Z.c (Z.n f o) l λz s2 j w=>⟨v,H1,j,w,q⟩
def fS(Z:uO X.K C fs)(e:PE X o ta)(G:PE X value tv)(A:f∈fs:=by rfl')(hs:swapsWith value (some<|.Attribute o f pos') pos.line X.env=pure false:=by rfl):PS X (.Assign [.Attribute o f pos'] value pos) (XN C f ta tv):=by
 intro b s σ H D I h;refine plainObj_wpAny_Assign_Attribute (aX (G b s σ H _ I h) ?_) hs;rintro u B ⟨y,H1,w,E,q⟩;refine aX (e b B σ H1 _ w q) ?_;rintro m s2 ⟨x,H2,z,j,a,dx,fs,ex,r,l,i⟩;subst ex;obtain rfl:m=Value.ref a:=j;exact QC z r Z.c (Z.n f A) l E λs3 d=>⟨σ,_,d,i⟩
def AO{d:Operator}{g:Int->Int->Int}(Z:uO X.K C fs)(B:PE X o ta)(hv:PE X value tv)(a2:oQ X d λx y H Q=>∃i j,x=.int i/\y=.int j/\Q (.int<|g i j) H)(e:f∈fs:=by rfl'):PS X (.AugAssign (.Attribute o f tpos) d value pos) (Bj C f g ta tv):=by
 intro b s σ H D I h;refine wpAny_AugAssign_AttributeAny<|aX (B b s σ H _ I h) ?_;rintro G s1 ⟨x,H1,L,E,a,dx,fs,i,ex,J,l,q⟩;subst ex;obtain rfl:G=Value.ref a:=E;refine OH L J Z.c (Z.n f e) l λu s2 W N=>aX (hv b s2 σ H1 _ W q) ?_;rintro T s3 ⟨y,H2,O,ry,j,a4,a3,m,w,Y,M⟩;refine aX (a2 b s3 σ H2 (.int i) y u T (λz H3=>z=.int (g i j)/\H3=H2) O N ry ⟨i,j,rfl,m,rfl,rfl⟩) ?_;rintro w4 s4 ⟨z,H3,r,P,rfl,rfl⟩;exact QC r w Z.c (Z.n f e) Y P λs5 A=>⟨σ,_,A,M⟩
end
def lX(q:Pr×Addr×Addr):List aJ×Addr×Value:=(iM q.1,q.2.1,.ref q.2.2)
def QM(P:Program)(w:World)(a:Addr)(qs:List (Pr×Addr×Addr))(h:Heap):Prop:=↑qs<=sizeLine/\(a == sysModules)=false/\
 ∃o es ep,h.get? a=some o/\o.ExactDict/\o.data=.dict es ep/\es.toList=(qs.map lX).map (entryOfKey<|AX P w)/\((qs.map lX).map (·.1)).Nodup
def gD(P:Program)(w:World)(a:Addr)(qs:List (Pr×Addr×Addr)):HO:=.ext<|QM P w a qs
def QR(x:QM P w a qs h):ObjOk P w H h a (gD P w a qs):=by
 refine⟨x,?_,λh1 h2 y k=>?_⟩
 .obtain⟨_,_,o,_,_,e,_⟩:=x;exact⟨o,e⟩
 .obtain⟨z,hd,b,es,ep,e,c⟩:=y;exact⟨z,hd,b,es,ep,k _ e,c⟩
def PvOk(K:Fq)(H:Hp)(qs:List (Pr×Addr×Addr)):Prop:=∀q∈qs,SqT K H q.2.1 [.str q.1.1,.str q.1.2]
def gG(qs:List (Pr×Addr×Addr))(n:Pr)(b l:Addr):List (Pr×Addr×Addr):=
 if n∈qs.map (·.1) then qs.map λq=>if q.1=n then(q.1,q.2.1,l) else q else qs++[(n,b,l)]
def oF{qs:List (Pr×Addr×Addr)}{n:Pr}:atKey (qs.map lX) (iM n)=(qs.find? λq=>decide<|q.1=n).map λq=>(q.2.1,Value.ref q.2.2):=by
 unfold atKey;rw[List.find?_map];have:((λx:List aJ×Addr×Value=>decide<|x.1=iM n)∘lX)=λq=>decide (q.1=n):=by
  funext q
  exact decide_eq_decide.mpr ⟨λh=>MO h,λh=>by show iM q.1=_;rw[h]⟩
 rw[this,Option.map_map];rfl
def At{qs:List (Pr×Addr×Addr)}{n:Pr}{b l:Addr}:storedH (qs.map lX) (iM n) b (.ref l)=(gG qs n b l).map lX:=by
 unfold storedH gG;rw[oF,Option.isSome_map]
 by_cases h:n∈qs.map (·.1)
 .obtain⟨q,a,e⟩:=ws9.mp h;rw[bE h,bE<|List.find?_isSome.mpr ⟨q,a,eE e⟩,lJ,lJ];refine yZ λz _=>?_;show(if iM z.1=iM n then(iM z.1,z.2.1,Value.ref l) else lX z)=lX (if z.1=n then(z.1,z.2.1,l) else z)
  by_cases c:z.1=n
  .rw[bE (by rw[c]),bE c];rfl
  .rw[bD λh=>c<|MO h,bD c]
 .rw[bD h,bD (λz=>let ⟨q,a,e⟩:=List.find?_isSome.mp z;h<|ws9.mpr ⟨q,a,cS e⟩),bX];rfl
def PvOk.put{K:Fq}{n:Pr}(h:PvOk K H qs)(d:SqT K H b [.str n.1,.str n.2]):PvOk K H (gG qs n b l):=by
 intro q a;unfold gG at a
 split at a
 .obtain⟨z,hz,rfl⟩:=ws9.mp a
  split
  .exact h z hz
  .exact h z hz
 .rcases wt2.mp a with a | a
  .exact h q a
  .rw[wr8.mp a];exact d
def RG:↑(gG qs n b l)<=↑qs+1:=by
 unfold gG
 split
 .rw[aI];exact jB _
 .rw[bJ];exact aY _
def Aj(P:Program)(w:World)(K:Fq):Hp->Addr->V->V->(Hp->Prop)->Prop:=λH D kx v R=>∃qs b n l,kx=.ref b/\v=.ref l/\H D=some (gD P w D qs)/\PvOk K H qs/\SqT K H b [.str n.1,.str n.2]/\↑qs<sizeLine/\R (upd H D<|gD P w D<|gG qs n b l)
section
variable{pins:List (Addr×Obj)}{σ:St}{H:Hp}{s:Shared}
def RB(I:Inv X pins σ H s)(e:H a=some (gD X.prog X.w a qs))(ok:PvOk X.K H qs):↑qs<=sizeLine/\(a == sysModules)=false/\s.heap.DictOfH (AX X.prog X.w) a (qs.map lX):=by
 obtain⟨z,hd,o,es,ep,h1,h2,b,d,f⟩:=(I.hok a _ e).1;refine⟨z,hd,o,es,ep,h1,h2,b,d,λx i=>?_,f⟩;obtain⟨q,h,rfl⟩:=ws9.mp i;exact KY I<|ok q h
def YR(C:X.A.units<cLine):xA X (λa=>gD X.prog X.w a []) (Aj X.prog X.w X.K) where
 new h H z:=QR ⟨bT _,vc4.mpr<|bW<|bV z,_,_,_,dD _ rfl,⟨rfl,rfl,rfl⟩,rfl,rfl,kH⟩
 put Y e1 e2 e3 e4 pins s σ H D kx u v y R I rk rv h:=by
  obtain⟨qs,b,n,l,rfl,rfl,d,ok,i,hl,q⟩:=h;cases rk;cases rv;rw[<-e1,<-e2]at d q ⊢;rw[<-e3]at ok i;obtain⟨z,hd,j⟩:=RB I d ok;refine wpAny_dictSet_heap (knd:=AX Y.prog Y.w) C (KY I i) j (λh' e hs=>?_) (by rw[aI];exact z);rw[At]at e;obtain⟨o,es,ep,f,x,B,r,E,m⟩:=e;refine⟨_,tX I (by rw[d];exact iA) hs ⟨o,f⟩<|QR ⟨?_,hd,o,es,ep,f,x,B,r,m⟩,q⟩;have:=RG (qs:=qs) (n:=n) (b:=b) (l:=l);lia
inductive Bf(P:Program)(w:World)(K:Fq)(x y:V)(H:Hp)(Q:VK):Prop
 | mk(a b:Addr)(qs:List (Pr×Addr×Addr))(n:Pr)(z:Pr×Addr×Addr)(h1:x=.ref a)(h2:y=.ref b)(h3:H a=some (gD P w a qs))(h4:PvOk K H qs)(h5:SqT K H b [.str n.1,.str n.2])(h6:qs.find? (λq=>decide<|q.1=n)=some z)(q:Q (.ref z.2.2) H)
def WV(P:Program)(w:World)(K:Fq)(td ty:TE):TE:=λσ H Q=>td σ H λx H1=>ty σ H1 λy H2=>Bf P w K x y H2 Q
def nE{o i:Expr}{td ty:TE}{pos:Pos}(J:X.A.units+1<cLine)(B:PE X o td)(hi:PE X i ty)(hs:mG i):PE X (.Subscript o i pos) (WV X.prog X.w X.K td ty):=by
 intro f s σ H Q I h;refine EZ vj7.lookup hs<|aX (B f s σ H _ I h) λu C ⟨x,H1,q,l,r⟩=>aX (hi f C σ H1 _ q r) ?_;rintro m s2 ⟨y,H2,d,N,a,b,qs,n,z,ex,j,g,ok,E,L,O⟩;subst ex j;obtain rfl:u=Value.ref a:=l;obtain rfl:m=Value.ref b:=N;obtain⟨_,hd,e⟩:=RB d g ok;obtain⟨o,es,ep,M,G,_⟩:=id e;refine⟨⟨o,M,G.1⟩,wpAny_getItem_heap (zF J) (KY d E) e (p:=(z.2.1,Value.ref z.2.2)) (by rw[oF,L];rfl) ?_⟩;exact⟨.ref z.2.2,H2,d.tok _,rfl,O⟩
end
end L2
end
section
namespace HT
open PySem PySem.Spec PyProof.Rows
variable{prog:Program}{w:World}{A:Around}{E:Vp}{s:Shared}
def YE{t b:Addr}{items:Array Value}{d e:Value}{lo hi:Option Int}{Q:Vp}(a:IsTup s.heap t items)(hs:s.heap.IsSliceOf b d e .none)(j:IsPart d lo)(n:IsPart e hi)
  (f:sIx items.size 0 lo=0/\sIx items.size items.size hi=items.size)
  (h:Q (.ref t) s):wpAny (model prog w) A (getItem (.ref t)<|.ref b) Q E s:=by
 obtain⟨os,i,l,o⟩:=id hs;have m:s.TypeIs (.ref b) "slice":=⟨os,i,l⟩;unfold getItem
 try with_reducible refine iU ?_
 first | refine aF (bF ?_) | skip
 refine aF<|wpAny_sequenceKey a.typeIs (by decide) ?_;refine aF<|kQ (name:=Str.ofString "__getitem__") a.typeIs wx8<|iY wx8 a.typeIs entry_tuple_getitem ?_<|args_tuple_getitem _ _
 show wpAny _ _ (Builtin.Tuple.tupleItemsOf (.ref t) >>= _) _ _ s;refine aF<|tupleItemsOf_ a ?_;refine aF<|uU m ?_;rw[bE<|by decide];refine aF<|NQ hs j n ?_;show wpAny _ _ (if (((sIx items.size 0 lo:Nat):Int) == 0 && (1:Int) == 1 && (sIx items.size items.size hi-sIx items.size 0 lo) == items.size)=true then _ else _) _ _ s;rw[f.1,f.2,bE<|by simp];refine aF<|aF<|uU a.typeIs<|bF ?_;rw[bE<|by decide];exact aF<|mK<|bF ⟨_,rfl,bF h⟩
end HT
namespace L2
open PySem PySem.Spec PyProof.Rows
variable{prog:Program}{w:World}{A:Around}{E:Vp}{s:Shared}
variable{X:Cx}
def HK:V->Option Int->Option Int->Hp->VK->Prop:=λx lo hi H Q=>∃a xs,x=.ref a/\H a=some (.tup xs)/\∀p H',(∀b o,H b=some o->H' b=some o)->H' p=some (.tup<|cH xs lo hi)->Q (.ref p) H'
def NO{X:Cx}:SlR X HK:=by
 intro z s σ H x v u w lo hi A Q I i hs j l h;obtain⟨a,xs,rfl,f,q⟩:=h
 by_cases d:HT.sIx ↑xs 0 lo=0/\HT.sIx ↑xs ↑xs hi=↑xs
 .cases i;obtain⟨its,r,m,hz⟩:=I.tuple<|SqT.of f;have n:its.toArray.size=↑xs:=by rw[cN];exact r.length.symm
  refine⟨"tuple",_,wx8.lookup,m.typeIs,HT.YE m hs j l (by rw[n];exact d) ⟨.ref a,H,I,rfl,q a H (λb o e=>e) ?_⟩⟩;unfold cH;rw[d.1,d.2,List.drop_zero,Nat.sub_zero,List.take_length];exact f
 .exact QF z s σ H _ v u w lo hi A Q I i hs j l ⟨a,xs,rfl,SqT.of f,d,λp hp=>q p _ (λb o e=>by rw[aC<|bA e hp];exact e) zb1⟩
def ZF{K:Fq}{p:Bool}{a b:Addr}{xs ys:List V}{g:TG}{tb:TS}{D:cU}{σ:St}{H:Hp}(d:Nat->St->Hp->Prop)(h0:d 0 σ H)(hl:∀i σ H,d i σ H->hJ K p H a xs/\hJ K p H b ys)
  (hs:∀i x y T σ H,xs[i]?=some x->ys[i]?=some y->d i σ H->H T=none->g (.ref T) σ (upd H T<|.tup [x,y]) λσ2 H2=>tb {D with nx:=d<|i+1,ct:=d<|i+1,bk:=D.nx} σ2 H2) (hd:∀i σ H,d i σ H->D.nx σ H):
  ∃W:Nat->Nat->St->Hp->Prop,(∃m,W 0 m σ H)/\∀i m σ H,W i m σ H->
   ((vV K p p a b).stop i H/\D.nx σ H)\/((vV K p p a b).go i H/\∃N:St->Hp->Prop,(∀σ' H',N σ' H'->∃m',m'<m/\W (i+1) m' σ' H')/\∀x H',(vV K p p a b).yld i H x H'->g x σ H' λσ2 H2=>tb {D with nx:=N,ct:=N,bk:=D.nx} σ2 H2):=by
 exists λi m σ H=>m=↑xs-i/\d i σ H,⟨_,rfl,h0⟩;rintro i m σ H ⟨rfl,q⟩;obtain⟨f,e⟩:=hl i σ H q
 by_cases h1:i<↑xs
 .by_cases h2:i<↑ys
  .refine .inr ⟨⟨xs,ys,_,_,f,e,bH h1,bH h2⟩,d<|i+1,λσ' H' h=>⟨_,by lia,rfl,h⟩,?_⟩;rintro x H' ⟨T,u,v,l,rfl,rfl,n,j⟩;exact hs i u v T σ H (n xs f) (j ys e) q l
  .exact .inl ⟨⟨xs,ys,f,e,.inr<|Nat.le_of_not_lt h2⟩,hd i σ H q⟩
 .exact .inl ⟨⟨xs,ys,f,e,.inl<|Nat.le_of_not_lt h1⟩,hd i σ H q⟩
def cE{N P:List Str}{a:Scope}(h1:a.kind=.function:=by rfl)(h2:a.isCoroutine=false:=by rfl)(d:a.isGenerator=false:=by rfl)(e:N.Nodup:=by rfl')(f:N.take P.length=P:=by rfl)(h:∀x∈P,a.names.lookup x=some .local\/a.names.lookup x=some .cell:=by rfl')(b:∀y∈a.names,y.2≠.free:=by rfl'):bY N P a:=⟨h1,h2,d,e,f,h,b⟩
section
variable{x:Str}{pos pos':Pos}{e:Expr}{te:TE}{scope:Scope}{N':List Str}{src:List (Option Nat)}
def fH(h1:scope.kind=.function:=by rfl)(h2:(scope.names.all λy=>decide<|y.2≠.cell)=true:=by rfl')(a:(scope.names.all λy=>decide<|y.2=.local->scope.names.lookup y.1=some .local)=true:=by rfl')(d:(scope.names.all λy=>decide<|y.2=.free->X.env.kindOf y.1=some .cell\/X.env.kindOf y.1=some .free)=true:=by rfl)(b:↑src=N'.length:=by rfl)
  (e:((N'.zip src).all λp=>match p.2 with | some j=>decide (X.N[j]?=some p.1) && decide ((p.1,NameKind.free)∈scope.names) | none=>true)=true:=by rfl):BlkN X scope N' src:=⟨h1,h2,a,d,b,e⟩
def sL(i:Nat)(d:X.N.Nodup)(he:PE X e te)(hi:X.N[i]?=some x:=by rfl)(a:vD X.env.scope x:=by exact .inl rfl)(hs:swapsWith e (some<|.Name x pos') pos.line X.env=pure false:=by rfl)(b:X.fn x=true\/X.env.scope.names.lookup x=some .local:=by first | exact .inl rfl | exact .inr rfl):PS X (.Assign [.Name x pos'] e pos) (fN te<|cG i):=hW d hi a he hs b
def gL(i:Nat)(d:X.N.Nodup)(hi:X.N[i]?=some x:=by rfl)(a:vD X.env.scope x:=by exact .inl rfl)(b:X.fn x=true\/X.env.scope.names.lookup x=some .local:=by first | exact .inl rfl | exact .inr rfl):PG X (.Name x pos) (cG i):=uW d hi a b
end
end L2
local macro_rules | `(tactic| trivial)=>`(tactic| first | exact aZ | exact .head _ | exact .tail _ (.head _) | exact .tail _ (.tail _ (.head _)) | exact λ_ h=>absurd h aZ | simp)
local macro_rules|`(tactic|ac_rfl)=>`(tactic|first|dsimp only[L2.gM,L2.Cx.nox]|skip)
namespace Gn
open PySem L2
variable{P:Program}{w:World}{K:Fq}{mg:Str->Option Value}{base:Heap}{f:Addr}{fd:FuncData}
abbrev qH:Str:="_law_hand_here"
abbrev qW:Str:="_law_world_here"
abbrev qA:List Str:=[qH,qW,"_law_env"]
abbrev qB:List Str:=[qH,"_law_many"]
abbrev qC:List Str:=[qH,"_law_some"]
abbrev qD:List Str:=[qH,qW,"_law_env","_law_above","_law_deed_here"]
abbrev qE:List Str:=[qW,"_law_kind","_law_deed_here"]
abbrev qF:List Str:=[qH,qW,"_law_env","_law_level"]
abbrev qG:List Str:=[qW,"_law_kind"]
abbrev qI:List Str:=["program","kind","deed"]
abbrev qK:List Str:=["program"]
def top(i:Nat):Stmt:=PySem.Challenge.pw_surecall_k10_whole_fewer_rows.main.body.getD i<|.Pass ⟨0,0,0,0⟩
abbrev FJ:Stmt:=top 49
abbrev ES:Stmt:=top 50
abbrev DV:Stmt:=top 51
structure nT(d m t:Int):Prop where
 d0:0<=d
 m0:0<=m
 m1:m<4611686018427387904
 t0:0<=t
def Hand(H:Hp)(a:Addr)(d m t r:Int):Prop:=H a=some (.lst [.int d,.int m,.int t,.int r])/\nT d m t
abbrev hl(d m t r:Int):HO:=.lst [.int d,.int m,.int t,.int r]
inductive PY(vs:List V)(H:Hp)(Q:VK):Prop
 | mk(a:Addr)(d m t r n:Int)(h1:vs=[.ref a,.int n])(h2:Hand H a d m t r)(h3:t<1000000)(h4:0<n)(h5:n<1000000)(h6:∀(x d' m' t':Int),0<=x->x<n->nT d' m' t'->t'<=t+1->Q (.int x) (upd H a<|hl d' m' t' r)):PY  vs H Q
def fZ:Sp:=λvs H Q _=>PY  vs H Q
def eI(d:PE X a ta)(e:PE X b tb)(hs:IT b:=by exact λ_ _=>rfl):PE X (.Subscript a b pos) (dR (kZ X.K) ta tb):=uA UG d e hs
def yw5:bY [qH,"_law_many","_law_digit","_law_turn","_law_mixed"] qB (bP ES):=cE
def BH:dY [a,b,c,d] 0=some a:=rfl
def wI:dY [a,b,c,d] 1=some b:=rfl
def HX:dY [a,b,c,d] 2=some c:=rfl
def yV:dY [a,b,c,d] 3=some d:=rfl
def YB(F:Fun K "_law_take" "_law_take" ES f fd):aQ P w K mg base bQ (k+1) f fd qB fZ:=by
 refine F.ok yw5 (λvs H Q E h=>?_) λi A outer s H vs Q E hr h=>?_
 .obtain⟨a,d,m,t,r,n,rfl,_⟩:=h;rfl
 obtain⟨a,d,m,t,r,n,rfl,⟨b,ok⟩,u,e,o,q⟩:=h;exists _,aG (cK (cA kE (eI (pv 0) aN) aN<|cF _) (aG (sL 2 yw5.nd<|cB rV (eI (pv 0) aN)<|pv 1)<|aG (gP (cB yO (eI (pv 0) aN)<|pv 1)<|uD (pv 0) aN tY)<|aV<|bL<|pv 2) cO)
  (aG (gP (cB jL (eI (pv 0) aN) aN)<|uD (pv 0) aN tY)<|aG (sL 3 yw5.nd<|eI (pv 0) aN)<|aG (sL 4 yw5.nd<|cB rV (cB pR (cB jL (eI (pv 0) aN)<|cB pR aN<|pv 3)<|cB jL aN<|cB pR (pv 3)<|pv 3) aN)<|aG (gP (cB rV (cB pR (pv 4)<|cB jL (cB rV (pv 4) aN) aN) aN)<|uD (pv 0) aN tY)<|aV<|bL<|cB rV (cB yO (eI (pv 0) aN) aN)<|pv 1)
 exists _,rfl,a,_,_,_,rfl,rfl,SqL.of b,BH,_,_,rfl,rfl,_,rfl;refine bB (λc=>?_) λc=>?_
 .have c':d > 0:=cS c;exists _,rfl,a,_,_,_,rfl,rfl,SqL.of b,BH,_,rfl,_,_,rfl,rfl,e;exists _,rfl,a,_,_,_,rfl,rfl,SqL.of b,BH,_,rfl,_,_,rfl,rfl,⟨e,by lia⟩;exists _,rfl,a,_,0,0,rfl,rfl,b,rfl;exists _,rfl;exact q (d % n) (d / n) m t (vE _<|by lia) (vN _ e) ⟨Int.ediv_nonneg ok.d0 (by lia),ok.m0,ok.m1,ok.t0⟩ (by lia)
 .exists _,rfl,a,_,_,_,rfl,rfl,SqL.of b,HX,_,_,rfl,rfl;exists _,rfl,a,_,2,2,rfl,rfl,b,rfl;have H1:upd H a (.lst<|[V.int d,.int m,.int t,.int r].set 2<|.int<|t+1) a=some (.lst [.int d,.int m,.int<|t+1,.int r]):=zb1;exists _,rfl,a,_,_,_,rfl,rfl,SqL.of H1,HX;exists _,rfl,a,_,_,_,rfl,rfl,SqL.of H1,wI,_,rfl,_,_,rfl,rfl,.inl (by constructor <;> decide),_,_,rfl,rfl;exists _,rfl,_,rfl,_,_,rfl,rfl,.inl ⟨by have:=ok.t0;lia,by lia⟩,_,_,rfl,rfl,_,_,rfl,rfl,.inr ?_,_,_,rfl,rfl,?_
  .have h1:0<=(t+1)*(t+1):=Int.mul_nonneg (by have:=ok.t0;lia) (by have:=ok.t0;lia);have h2:(t+1)*(t+1)<=1000000*1000000:=Int.mul_le_mul (by lia) (by lia) (by have:=ok.t0;lia) (by lia)
   constructor <;> lia
  .show(0:Int)<2305843009213693921
   decide
  have j:0<=(m+39373*(t+1))*(48271+(t+1)*(t+1)) % 2305843009213693921:=vE _ (by decide);have l:(m+39373*(t+1))*(48271+(t+1)*(t+1)) % 2305843009213693921<2305843009213693921:=vN _ (by decide);exists _,rfl,_,rfl,_,_,rfl,rfl,?_,_,_,rfl,rfl,_,_,rfl,rfl,.inl ⟨by lia,by lia⟩,_,_,rfl,rfl,?_
  .show(0:Int)<1000003
   decide
  .show(0:Int)<2305843009213693907
   decide
  exists _,rfl,a,_,1,1,rfl,rfl,H1,rfl;exists _,rfl,a,_,_,_,rfl,rfl,SqL.of zb1,rfl,_,_,rfl,rfl,⟨by decide,by decide⟩,_,rfl,_,_,rfl,rfl,e;rw[gS];exact q _ d _ (t+1) (vE _<|by lia) (vN _ e) ⟨ok.d0,vE _ (by decide),Int.lt_trans (vN _<|by decide) (by decide),by have:=ok.t0;lia⟩ (by lia)
def FrS(S:List Addr)(H H':Hp):Prop:=∀b o,b∉S->H b=some o->H' b=some o
def FrS.refl:FrS S H H:=λ_ _ _ h=>h
def FrS.trans(a:FrS S H H1)(b:FrS S H1 H2):FrS S H H2:=λc o n h=>b c o n<|a c o n h
def FrS.mono(a:FrS S H H1)(h:∀b∈S,b∈T):FrS T H H1:=λc o n q=>a c o (λz=>n<|h c z) q
def FrS.chg(h:a∈S):FrS S H (upd H a o):=λb u n q=>by
 rw[aC λz=>n<|by rw[z];exact h];exact q
def FrS.new(h:H a=none):FrS S H (upd H a o):=λb u n q=>by
 rw[aC<|bA q h];exact q
def FrS.seq(e:FrS S H H')(n:a∉S)(h:SqL K H a xs):SqL K H' a xs:=by
 rcases h with (h | ⟨o,h⟩) | h
 .exact .inl<|.inl<|e _ _ n h
 .exact .inl<|.inr ⟨o,e _ _ n h⟩
 .exact .inr h
def Hand.at(h:nT d m t):Hand (upd H a<|hl d m t r) a d m t r:=⟨zb1,h⟩
def Hand.new(h:Hand H a d m t r)(n:H b=none):Hand (upd H b o) a d m t r:=⟨by rw[aC<|bA h.1 n];exact h.1,h.2⟩
inductive yS(K:Fq)(vs:List V)(H:Hp)(Q:VK):Prop
 | mk(a p:Addr)(d m t r:Int)(xs:List V)(h1:vs=[.ref a,.ref p])(h2:Hand H a d m t r)(h3:t<1000000)(h4:p≠a)(h5:SqL K H p xs)(h6:xs≠[])(h7:↑xs<1000)(h8:∀(x:V)(d' m' t':Int),x∈xs->nT d' m' t'->t'<=t+1->Q x (upd H a<|hl d' m' t' r)):yS K vs H Q
def cR(K:Fq):Sp:=λvs H Q _=>yS K vs H Q
section
variable{P:Program}{w:World}{K:Fq}{mg:Str->Option Value}{base:Heap}{f g:Addr}{fd gd:FuncData}
def JD:bY qC qC (bP DV):=cE
structure aR(P:Program)(w:World)(K:Fq)(mg:Str->Option Value)(base:Heap)(k:Nat)(x:Str)(ps:List Str)(sp:Sp):Prop where
 ex:∃g gd,aQ P w K mg base bQ k g gd ps sp/\Binds K gd ps []/\PySem.W.keepIn K (.ref g)=true/\mg x=some (.ref g)
def bC(C:aR X.prog X.w X.K X.mg X.base k x ps sp)(hr:Room k X.A)(i:Gl X x)(a:PA X (e::es) t)(d:(x == ("__debug__":Str))=false:=by decide)(he:starEach (e::es) X.env=(false,eval e X.env)::starEach es X.env:=by rfl)(f:(backTo pos<|starEach es X.env).any (·.1)=false:=by rfl):
  PE X (.Call (.Name x p) (e::es) [] pos) (gE sp [] E0 t):=by
 obtain⟨g,gd,G,b,h,m⟩:=C.ex;exact ZH G hr i m h b .nil FF a d he f
def ON(h0:0<=i)(h1:i<(↑xs:Int)):∃v,dY xs i=some v/\v∈xs:=by
 have a:i.toNat<↑xs:=by lia
 have b:i=((i.toNat:Nat):Int):=by lia
 refine⟨xs[i.toNat],?_,gW a⟩;have:=mQ (xs:=xs) (j:=i.toNat)<|bH a;rw[<-b]at this;exact this
def yA(F:Fun K "_law_of" "_law_of" DV f fd)(T:aR P w K mg base k "_law_take" qB fZ)(j:mg "len"=none):
  aQ P w K mg base bQ (k+1) f fd qC (cR K):=by
 refine F.ok JD (λvs H Q E h=>?_) λG A outer s H vs Q E hr h=>?_
 .obtain⟨a,p,d,m,t,r,xs,rfl,_⟩:=h;rfl
 obtain⟨a,p,d,m,t,r,xs,rfl,e,z,u,b,n,C,q⟩:=h;exists _,aV<|bL<|eI (pv 1)<|bC T hr rfl<|aA (pv 0)<|aA (eR gK rfl j gB<|aA (pv 1) aE) aE;have I:0<↑xs:=List.length_pos_iff.mpr n;refine⟨_,rfl,_,rfl,_,rfl,p,_,rfl,.inl b,a,d,m,t,r,_,rfl,e,z,by lia,by lia,λx d' m' t' h0 h1 l o=>?_⟩;obtain⟨v,B,i⟩:=ON h0 h1;have fr:FrS [a] H (upd H a<|hl d' m' t' r):=FrS.chg (by simp);exact⟨p,_,_,v,rfl,rfl,fr.seq (by simpa using u) b,B,q v d' m' t' i l o⟩
end
abbrev lE:Stmt:=top 52
abbrev lets:Str:="abcdefghijklmnopqrstuvwxyz"
def gC(pre suf:Str)(c:Nat):Str:=pre++⟨#[c]⟩++suf
def sG(pre suf:Str)(c:Nat):Str:=gC pre suf c++(if gC pre suf c=("own":Str) then("q":Str) else Str.empty)
def DF(x y:Str):(x++y).cps=x.cps++y.cps:=rfl
def NX(h:gC pre suf c=gC pre suf c'):c=c':=by
 have e:(pre.cps++#[c])++suf.cps=(pre.cps++#[c'])++suf.cps:=cM Str.cps h;have a:=cM Array.toList e;simp at a;exact a
def ZT:(gC pre suf c).cps.size=(gC pre suf c').cps.size:=by
 unfold gC;simp[DF]
def Bx(h:sG pre suf c=sG pre suf c'):c=c':=by
 have hs:=cM (λz:Str=>z.cps.size) h;have hl:=ZT (pre:=pre) (suf:=suf) (c:=c) (c':=c');have d:("q":Str).cps.size=1:=by decide
 have i:Str.empty.cps.size=0:=by decide
 unfold sG at h hs
 by_cases h1:gC pre suf c=("own":Str)
 .by_cases h2:gC pre suf c'=("own":Str)
  .exact NX<|h1.trans h2.symm
  .rw[bE h1,bD h2]at hs;simp only[DF,tW,d,i]at hs;lia
 .by_cases h2:gC pre suf c'=("own":Str)
  .rw[bD h1,bE h2]at hs;simp only[DF,tW,d,i]at hs;lia
  .rw[bD h1,bD h2]at h;have e:=cM (λz:Str=>z.cps.toList) h;simp only[DF,Array.toList_append]at e;have f:(gC pre suf c).cps.toList=(gC pre suf c').cps.toList:=List.append_cancel_right e;refine NX (pre:=pre) (suf:=suf) ?_;cases hx:gC pre suf c with
   | mk a=>cases hy:gC pre suf c' with
    | mk b=>
     rw[hx,hy]at f;have:a=b:=Array.toList_inj.mp f;rw[this]
def eW(first stride:Int)(k:Nat):Nat:=(97+(first+stride*(k:Int)) % 26).toNat
def mC(pre suf:Str)(first stride:Int)(n:Nat):List Str:=(List.range n).map λk=>sG pre suf<|eW first stride k
def Bg(hs:stride∈([1,3,5,7,9,11]:List Int))(h0:0<=first)(b:j<=12)(a:k<=12)(h:eW first stride j=eW first stride k):j=k:=by
 unfold eW at h;simp only[wr5,aZ,cY]at hs;rcases hs with rfl | rfl | rfl | rfl | rfl | rfl <;> lia
def An(hs:stride∈([1,3,5,7,9,11]:List Int))(h0:0<=first)(l:n<=12):(mC pre suf first stride n).Nodup:=by
 unfold mC;refine List.Pairwise.map _ (R:=λj k=>j≠k/\j<n/\k<n) (λj k ⟨h1,h2,h⟩ e=>h1 ?_) ?_
 .exact Bg hs h0 (by lia) (by lia)<|Bx e
 .have:(List.range n).Pairwise (λj k=>j<k):=List.pairwise_lt_range;refine List.Pairwise.imp_of_mem (λ{a b} d f i=>?_) this;rw[List.mem_range]at d f;exact⟨by lia,d,f⟩
def TU:mC pre suf first stride (n+1)=mC pre suf first stride n++[sG pre suf<|eW first stride n]:=by
 unfold mC;rw[List.range_succ,bX];rfl
def PP(h0:0<=i)(h1:i<26):dY lets.cps.toList i=some (97+i).toNat:=by
 have a:∀j:Fin 26,lets.cps.toList[j.val]?=some (97+j.val):=by rfl'
 have e:i=((i.toNat:Nat):Int):=by lia
 have:=mQ (xs:=lets.cps.toList) (j:=i.toNat)<|a ⟨i.toNat,by lia⟩;rw[<-e]at this;rw[this]
 congr 1
 simp only;lia
def odd:List Str:=["end","or","main","gives","kind","under","late","deed","call","say","make","take","put"]
def UO:odd.Nodup:=by rfl'
inductive SC(vs:List V)(H:Hp)(Q:VK):Prop
 | mk(a:Addr)(d m t r:Int)(n:Nat)(h1:vs=[.ref a,.int (n:Int)])(h2:Hand H a d m t r)(h3:t+10<1000000)(h4:n<=12)(h5:∀(p:Addr)(ws:List Str)(d' m' t':Int)(H':Hp),FrS [a] H H'->Hand H' a d' m' t' r->t'<=t+10->H p=none->H' p=some (.lst<|ws.map V.str)->↑ws=n->ws.Nodup->Q (.ref p) H'):SC  vs H Q
def DI:Sp:=λvs H Q _=>SC  vs H Q
def RE{c:Const}{j}{pos:Pos}{es:List Expr}{env:Env}:starEach (.Constant c j pos::es) env=(false,eval (.Constant c j pos) env)::starEach es env:=by
 first | rfl | (rw[starEach])
def sH{X:Cx}{x:Str}{j}{pos:Pos}{es:List Expr}{t:TA}(h:PA X es t):PA X (.Constant (.str x) j pos::es) (bG (tC<|.str x) t):=aA bR h RE
def dL{X:Cx}{x:Int}{j}{pos:Pos}{es:List Expr}{t:TA}(h:PA X es t):PA X (.Constant (.int x) j pos::es) (bG (tC<|.int x) t):=aA aN h RE
def wW:List Expr->Option (List Str)
 | []=>some []
 | .Constant (.str x) _ _::r=>(wW r).map (x::·)
 | _=>none
theorem TC{X:Cx}:∀(es:List Expr)(ss:List Str),wW es=some ss->PA X es (λ_ H Q=>Q (ss.map V.str) H)
 | [],ss,h=>by
  cases h;exact aE
 | e::r,ss,h=>by
  cases e with
  | Constant c j pos=>
   cases c with
   | str x=>
    have h:(wW r).map (x::·)=some ss:=h;cases hr:wW r with
    | none=>rw[hr]at h;cases h
    | some rs=>
     rw[hr]at h;cases h;exact sH<|TC r rs hr
   | _=>cases h
  | _=>cases h
def RZ(e:Expr):Option (List Str):=match e with
 | .List es _=>wW es
 | _=>none
def Bl{X:Cx}{e:Expr}{ss:List Str}(h:RZ e=some ss):PE X e (λ_ H Q=>↑ss<=sizeLine/\∀p,H p=none->Q (.ref p) (upd H p<|.lst<|ss.map V.str)):=by
 cases e with
 | List es pos=>
  have q:=cW (pos:=pos)<|TC (X:=X) es ss h;intro b s σ H Q I a;exact q b s σ H Q I ⟨by rw[aI];exact a.1,a.2⟩
 | _=>cases h
def lQ(l:List Stmt):Expr:=match l with
 | .Assign _ v _::_=>v
 | _=>.Constant .none 0 ⟨0,0,0,0⟩
def JM(l:List Stmt)(v:Expr):List Stmt:=match l with
 | .Assign t _ p::r=>.Assign t v p::r
 | l=>l
def body{X:Cx}{l a:List Stmt}{t:TS}(e:l=a)(h:PSs X a t):PSs X l t:=by subst e;exact h
def CU(xs:List V){n:Nat}(h:n<=↑xs):cH xs none (some (n:Int))=xs.take n:=by
 unfold cH;rw[HT.ND,HT.DX,Nat.min_eq_left h];simp
def BL(xs:List V){n:Nat}(h:n<=↑xs):cH xs (some (n:Int)) none=xs.drop n:=by
 unfold cH;rw[HT.ND,HT.DX,Nat.min_eq_left h];exact eM (by rw[lL];lia)
def nZ{a p:Addr}{H H':Hp}{d m t r:Int}(f:FrS [a] H H')(h:Hand H' a d m t r)(hp:H' p=none):H p=none:=by
 cases hz:H p with
 | none=>rfl
 | some o=>
  have b:p≠a:=λe=>by rw[e,h.1]at hp;cases hp
  have:=f p o (by simpa using b) hz;rw[hp]at this;cases this
section
variable{P:Program}{w:World}{K:Fq}{mg:Str->Option Value}{base:Heap}{f g:Addr}{fd gd:FuncData}
abbrev sR:List Str:=["_law_hand_here","_law_many","_law_odd","_law_first","_law_letters","_law_stem","_law_k","_law_at","_law_stride","_law_words_here","_law_word"]
def zj3:bY sR ["_law_hand_here","_law_many"] (bP lE):=⟨rfl,rfl,rfl,by rfl',rfl,by rfl',by rfl'⟩
def YL{k:Nat}(F:Fun K "_law_words" "_law_words" lE f fd)(T:aR P w K mg base k "_law_take" ["_law_hand_here","_law_many"] fZ)(ml:mg "len"=none)(mr:mg "range"=none)(mi:mg "int"=none):
  aQ P w K mg base bQ (k+1) f fd ["_law_hand_here","_law_many"] DI:=by
 refine F.ok zj3 (λvs H Q E h=>?_) λbr A outer s H vs Q E hr h=>?_
 .obtain⟨a,d,m,t,r,n,rfl,_⟩:=h;rfl
 obtain⟨a,d,m,t,r,n,rfl,hh,ht,hn,q⟩:=h;have M:∀{n:Nat},n<=1000->n<=sizeLine:=λh=>dM<|bO h;have eB:fU lE=JM (fU lE) (lQ<|fU lE):=rfl;have hO:RZ (lQ<|fU lE)=some odd:=by rfl'
 have as:∀(x:Str)(p:Pos)(n:Nat)(env:Env),swapsWith (lQ<|fU lE) (some<|.Name x p) n env=pure false:=λ_ _ _ _=>rfl;rw[eB];generalize lQ (fU lE)=L at hO as;exists _,aG (hW (i:=2) zj3.nd rfl (eP rfl) (Bl hO)<|as _ _ _ _)
  (aG (cK (cA fK (bC T hr rfl<|aA (pv 0)<|aA aN aE) aN<|cF _) (aG (hW (i:=3) zj3.nd rfl (eP rfl)<|bC T hr rfl<|aA (pv 0)<|aA aN aE)<|aV<|bL<|jE rZ (cB vC (jE rZ (pv 2) (jH<|pv 3) jA)<|jE rZ (pv 2) jA<|jH<|pv 3) jA<|jH<|pv 1) cO) (aG (hW (i:=4) zj3.nd rfl (eP rfl) bR) (aG (hW (i:=5) zj3.nd rfl (eP rfl) bR) (aG (eC dW rfl (lN rfl mr<|aA (bC T hr rfl<|aA (pv 0)<|aA aN aE) aE) (uW (i:=6) zj3.nd rfl<|eP rfl)<|aV<|hW (i:=5) zj3.nd rfl (eP rfl)<|cB CG (pv 5)<|uA NR (pv 4) (bC T hr rfl<|aA (pv 0)<|aA aN aE) λ_ _=>rfl) (aG (hW (i:=7) zj3.nd rfl (eP rfl)<|bC T hr rfl<|aA (pv 0)<|aA (cB jL (eR XH rfl ml gB<|aA (pv 5) aE) aN) aE) (aG (hW (i:=3) zj3.nd rfl (eP rfl)<|bC T hr rfl<|aA (pv 0)<|aA aN aE) (aG (hW (i:=8) zj3.nd rfl (eP rfl)<|eI (cW<|dL<|dL<|dL<|dL<|dL<|dL aE)<|bC T hr rfl<|aA (pv 0)<|aA aN aE) (aG (hW (i:=9) zj3.nd rfl (eP rfl)<|cW aE) (aG (eC dW rfl (lN rfl mr<|aA (pv 1) aE) (uW (i:=6) zj3.nd rfl<|eP rfl)<|aG (hW (i:=10) zj3.nd rfl (eP rfl)<|cB CG (cB CG (jE QJ (pv 5) jA<|jH<|pv 7)<|uA NR (pv 4) (cB rV (cB jL (pv 3)<|cB pR (pv 8)<|pv 6) aN) λ_ _=>rfl)<|jE QJ (pv 5) (jH<|pv 7) jA)<|aV<|dZ<|fI eX fQ fV fL (pv 9)<|aA (cB CG (pv 10)<|cB WO bR<|fG BV rfl mi (by rfl')<|aA (vK fK (pv 10) bR<|cF _) aE) aE)
  (aV<|bL<|pv 9))))))))))
 refine⟨M (by show 13<=1000;decide),λG ad=>?_⟩;have bc:Hand (upd H G<|.lst<|odd.map V.str) a d m t r:=hh.new ad;have b9:FrS [a] H (upd H G<|.lst<|odd.map V.str):=FrS.new ad;have av:G≠a:=λe=>by rw[e,hh.1]at ad;cases ad
 refine⟨_,rfl,a,d,m,t,r,8,rfl,bc,by lia,by decide,by decide,λx d1 Z Y x0 x1 bh bn=>?_⟩;have au:FrS [a] H _:=b9.trans (FrS.chg (a:=a) (o:=hl d1 Z Y r)<|by simp);have ap:upd (upd H G<|.lst<|odd.map V.str) a (hl d1 Z Y r) G=some (.lst<|odd.map V.str):=by rw[aC av,zb1]
 have az:Hand (upd (upd H G<|.lst<|odd.map V.str) a<|hl d1 Z Y r) a d1 Z Y r:=Hand.at bh;generalize upd (upd H G<|.lst<|odd.map V.str) a (hl d1 Z Y r)=H2 at *;exists rfl,_,rfl;refine bB (λc=>?_) λc=>?_
 .refine⟨_,rfl,a,d1,Z,Y,r,13,rfl,az,by lia,by decide,by decide,λy N J I y0 y1 ak b3=>?_⟩;have af:FrS [a] H _:=au.trans (FrS.chg (a:=a) (o:=hl N J I r)<|by simp);have a3:upd H2 a (hl N J I r) G=some (.lst<|odd.map V.str):=by rw[aC av];exact ap
  have a8:Hand (upd H2 a<|hl N J I r) a N J I r:=Hand.at ak;generalize upd H2 a (hl N J I r)=H3 at *;obtain⟨j,rfl⟩:∃j:Nat,y=(j:Int):=⟨y.toNat,by lia⟩;have hj:j<=↑(odd.map V.str):=by show j<=13;lia
  refine⟨_,rfl,_,rfl,_,rfl,G,_,rfl,SqL.of a3,λp1 aa=>?_⟩;have e1:∀o,upd H3 p1 o G=some (.lst<|odd.map V.str):=λo=>by rw[aC<|bA a3 aa];exact a3
  refine⟨_,rfl,_,rfl,_,rfl,G,_,rfl,SqL.of<|e1 _,λp2 a4=>?_⟩;have e2:p1≠p2:=λz=>by rw[<-z,zb1]at a4;cases a4
  rw[BL _ hj,CU _ hj]at *;have bj:↑((odd.map V.str).drop j)+↑((odd.map V.str).take j)<=sizeLine:=by
   rw[lL,eS];exact M (by show(odd.map V.str).length-j+min j ↑(odd.map V.str)<=1000;have:↑(odd.map V.str)=13:=rfl;lia)
  refine⟨p1,p2,_,_,rfl,rfl,by rw[aC e2];exact zb1,zb1,bj,λp3 ac=>?_⟩;refine⟨_,rfl,_,rfl,p3,_,rfl,SqL.of zb1,λp4 a9=>?_⟩;have am:(odd.map V.str).drop j++(odd.map V.str).take j=((odd.drop j++odd.take j)).map V.str:=by rw[bX,vj2,rL]
  have aw:↑(odd.drop j++odd.take j)=13:=by
   rw[bJ,lL,eS];have:↑odd=13:=rfl;lia
  have b7:(odd.drop j++odd.take j).Nodup:=by
   have hp:(odd.drop j++odd.take j).Perm odd:=List.perm_append_comm.trans (by rw[List.take_append_drop]);exact hp.nodup_iff.mpr UO
  rw[am]at a9 ⊢;rw[CU _<|by rw[aI,aw];lia];have f1:FrS [a] H3 (upd H3 p1<|.lst<|(odd.map V.str).drop j):=FrS.new aa;refine q p4 ((odd.drop j++odd.take j).take n) N J I _ (af.trans<|(f1.trans<|FrS.new a4).trans<|(FrS.new ac).trans<|FrS.new a9) (((((a8.new aa).new a4).new ac).new a9)) (by lia) ?_ (by rw[zb1,rL]) (by rw[eS,aw];lia)<|b7.sublist<|List.take_sublist _ _;exact nZ (H':=upd (upd (upd H3 p1 _) p2 _) p3 _) (af.trans<|(f1.trans<|FrS.new a4).trans<|FrS.new ac) (((a8.new aa).new a4).new ac) a9
 .-- the loop that makes the l
  refine⟨_,rfl,a,d1,Z,Y,r,5,rfl,az,by lia,by decide,by decide,λy N J I y0 y1 ak b3=>?_⟩;have af:FrS [a] H _:=au.trans (FrS.chg (a:=a) (o:=hl N J I r)<|by simp);have a8:Hand (upd H2 a<|hl N J I r) a N J I r:=Hand.at ak;generalize upd H2 a (hl N J I r)=H3 at *;refine⟨_,rfl,by lia,by lia,vU (lo:=0) (n:=y.toNat) (λi σ C=>∃(l:Str)(O:Option V)(dx mx tx:Int),σ=[some<|.ref a,some<|.int n,some<|.ref G,none,some<|.str lets,some<|.str l,O,none,none,none,none]/\
   ↑l<=i/\FrS [a] H C/\Hand C a dx mx tx r/\tx<=I+i) ⟨Str.empty,none,N,J,I,rfl,aY _,af,a8,by lia⟩ (λi σ C hi ⟨l,O,dx,mx,tx,hσ,bb,al,ai,b0⟩=>?_) (λσ C ⟨l,O,dx,mx,tx,hσ,bb,al,ai,b0⟩=>?_)⟩
  .subst hσ;refine⟨_,rfl,_,rfl,_,rfl,a,dx,mx,tx,r,26,rfl,ai,by lia,by decide,by decide,λz d3 m3 t3 z0 z1 bf bq=>?_⟩;exists lets,z,_,rfl,rfl,M (by decide),PP z0 z1;exists l,_,rfl,rfl,?_
   .show ↑l+1<=sizeLine;exact M (by lia)
   .refine⟨_,_,d3,m3,t3,rfl,?_,al.trans (FrS.chg<|by simp),Hand.at bf,by lia⟩;show(l.cps++#[_]).size<=i+1;rw[tW];show ↑l+1<=i+1;lia
  .subst hσ;have bt:(y.toNat:Int)<=4:=by lia
   refine⟨_,rfl,_,rfl,_,rfl,M (by lia),_,_,rfl,rfl,a,dx,mx,tx,r,_,rfl,ai,by lia,by lia,by lia,λu d4 m4 t4 u0 u1 b1 bs=>?_⟩;have b8:FrS [a] H _:=al.trans (FrS.chg (a:=a) (o:=hl d4 m4 t4 r)<|by simp);have ba:Hand (upd C a<|hl d4 m4 t4 r) a d4 m4 t4 r:=Hand.at b1;generalize upd C a (hl d4 m4 t4 r)=H4 at *;refine⟨_,rfl,a,d4,m4,t4,r,26,rfl,ba,by lia,by decide,by decide,λv d5 m5 t5 v0 v1 b6 bo=>?_⟩;have b2:FrS [a] H _:=b8.trans (FrS.chg (a:=a) (o:=hl d5 m5 t5 r)<|by simp);have aq:Hand (upd H4 a<|hl d5 m5 t5 r) a d5 m5 t5 r:=Hand.at b6;generalize upd H4 a (hl d5 m5 t5 r)=H5 at *;refine⟨M (by show 6<=1000;decide),λps ae=>?_⟩;have b4:=aq.new (o:=.lst [.int 1,.int 3,.int 5,.int 7,.int 9,.int 11]) ae;have aj:ps≠a:=λe=>by rw[e,aq.1]at ae;cases ae
   refine⟨_,rfl,a,d5,m5,t5,r,6,rfl,b4,by lia,by decide,by decide,λz X m6 t6 z0 z1 bi bp=>?_⟩;obtain⟨sv,be,ar⟩:=ON (xs:=[V.int 1,.int 3,.int 5,.int 7,.int 9,.int 11]) z0 z1;exists ps,_,_,sv,rfl,rfl,SqL.of (by rw[aC aj,zb1]),be;have ax:FrS [a] H _:=(b2.trans<|FrS.new (o:=.lst [.int 1,.int 3,.int 5,.int 7,.int 9,.int 11]) ae).trans (FrS.chg (a:=a) (o:=hl X m6 t6 r)<|by simp);have an:Hand (upd (upd H5 ps<|.lst [.int 1,.int 3,.int 5,.int 7,.int 9,.int 11]) a<|hl X m6 t6 r) a X m6 t6 r:=Hand.at bi;obtain⟨B,rfl,a7⟩:∃st:Int,sv=.int st/\st∈([1,3,5,7,9,11]:List Int):=by
    simp only[wr5,aZ,cY]at ar;rcases ar with rfl | rfl | rfl | rfl | rfl | rfl
    all_goals exact⟨_,rfl,by simp⟩
   have bl:0<=B/\B<=11:=by
    simp only[wr5,aZ,cY]at a7;lia
   refine⟨M (by decide),λW a5=>?_⟩;have a2:=nZ ax an a5;have bd:FrS [a] H _:=ax.trans<|FrS.new (o:=.lst []) a5;have bg:=an.new (o:=.lst []) a5;have ao:upd (upd (upd H5 ps<|.lst [.int 1,.int 3,.int 5,.int 7,.int 9,.int 11]) a<|hl X m6 t6 r) W (.lst []) W=some (.lst []):=zb1;have ag:W≠a:=λe=>by rw[e,an.1]at a5;cases a5
   generalize upd (upd (upd H5 ps<|.lst [.int 1,.int 3,.int 5,.int 7,.int 9,.int 11]) a<|hl X m6 t6 r) W (.lst [])=H8 at *;refine⟨_,rfl,n,rfl,by lia,by lia,vU (lo:=0) (n:=(n:Int).toNat) (λi σ C=>∃(O wx:Option V),σ=[some<|.ref a,some<|.int n,some<|.ref G,some<|.int v,some<|.str lets,some<|.str l,O,some<|.int u,some<|.int B,some<|.ref W,wx]/\
    FrS [a] H C/\Hand C a X m6 t6 r/\C W=some (.lst<|(mC (Txt.slice l none<|some u) (Txt.slice l (some u) none) v B i).map V.str)) ⟨O,none,rfl,bd,bg,ao⟩ (λi σ C hi ⟨O,wx,hσ,ah,ab,a6⟩=>?_) (λσ C ⟨O,wx,hσ,ah,ab,a6⟩=>?_)⟩
   .subst hσ;have bm:i<n:=by lia
    have ay:↑l<=sizeLine:=M (by lia);have pl:=Txt.slice_le l none<|some u;have sl:=Txt.slice_le l (some u) none;have bk:0<=(v+B*(0+(i:Int))) % 26:=vE _ (by decide);have b5:(v+B*(0+(i:Int))) % 26<26:=vN _ (by decide);exists _,rfl,_,rfl,u,rfl,l,rfl,ay,_,rfl,_,rfl,_,rfl,_,rfl,_,_,rfl,rfl,.inl ⟨by lia,by lia⟩,_,_,rfl,rfl,_,_,rfl,rfl,by show(0:Int)<26;decide,lets,_,_,rfl,rfl,M (by decide),PP bk b5,
     _,_,rfl,rfl,?_,_,rfl,_,rfl,u,rfl,l,rfl,ay,_,_,rfl,rfl,?_
    .show(Txt.slice l none<|some u).length+1<=sizeLine;exact M (by lia)
    .have e:↑(Txt.slice l none (some u)++(⟨#[(97+(v+B*(0+(i:Int))) % 26).toNat]⟩:Str))=↑(Txt.slice l none<|some u)+1:=by
      show(_++#[_]).size=_;rw[tW];rfl
     show(Txt.slice l none (some u)++(⟨#[(97+(v+B*(0+(i:Int))) % 26).toNat]⟩:Str)).length+↑(Txt.slice l (some u) none)<=sizeLine;rw[e];exact M (by lia)
    have ew:Txt.slice l none (some u)++(⟨#[(97+(v+B*(0+(i:Int))) % 26).toNat]⟩:Str)++Txt.slice l (some u) none=gC (Txt.slice l none<|some u) (Txt.slice l (some u) none) (eW v B i):=by
     unfold gC eW;rw[Int.zero_add]
    have bu:↑(gC (Txt.slice l none<|some u) (Txt.slice l (some u) none)<|eW v B i)<=20:=by
     show((_++#[_])++_).size<=20;rw[tW,tW];show(Txt.slice l none<|some u).length+1+↑(Txt.slice l (some u) none)<=20;lia
    rw[ew];generalize hw:gC (Txt.slice l none<|some u) (Txt.slice l (some u) none) (eW v B i)=wd at *;refine⟨_,rfl,.inl ⟨rfl,_,SqL.of a6⟩,_,rfl,_,rfl,rfl,.inr ⟨_,rfl,_,_,rfl,rfl,?_,_,_,rfl,rfl,?_,W,_,_,rfl,rfl,a6,?_,?_⟩⟩
    .cases decide (V.str wd=V.str ("own":Str)) <;> simp
    .have h1:∀c:Prop,[Decidable c]->↑(if c then Str.empty else("q":Str))<=1:=λc _=>by
      by_cases h:c
      .rw[bE h];decide
      .rw[bD h];decide
     have h2:=h1<|(if decide (V.str wd=V.str ("own":Str))=true then(1:Int) else 0)=0;exact M (by lia)
    .have:↑((mC (Txt.slice l none<|some u) (Txt.slice l (some u) none) v B i).map V.str)=i:=by
      unfold mC;rw[aI,aI,List.length_range]
     rw[this];exact bO (by lia)
    .exists _,_,rfl,?_,?_
     .intro b o hb hx;rw[aC λe=>by rw[e,a2]at hx;cases hx];exact ah b o hb hx
     .exact⟨by rw[aC<|bW ag];exact ab.1,ab.2⟩
     .rw[zb1,TU,bX];have e1:sG (Txt.slice l none<|some u) (Txt.slice l (some u) none) (eW v B i)=wd++(if (if decide (V.str wd=V.str ("own":Str))=true then(1:Int) else 0)=0 then Str.empty else("q":Str)):=by
       unfold sG;rw[hw]
       by_cases h:wd=("own":Str)
       .rw[bE h,bE (eE<|by rw[h]),bD<|by decide]
       .have h':¬(V.str wd=V.str ("own":Str)):=λz=>h<|V.str.inj z;rw[bD h,gA h'];rfl
      rw[e1];rfl
   .subst hσ;exists _,rfl;rw[yB]at a6;refine q W _ X m6 t6 C ah ab (by lia) a2 a6 (by unfold mC;rw[aI,List.length_range])<|An a7 v0 hn
end
inductive MV(K:Fq)(vs:List V)(H:Hp)(Q:VK):Prop
 | mk(p:Addr)(ns:List Int)(k:Nat)(h1:vs=[.ref p,.int (k:Int)])(h2:SqL K H p (ns.map V.int))(h3:↑ns<=63)(h4:k<=63)(h5:∀(a:Addr)(d m:Int),H a=none->nT d m 0->Q (.ref a) (upd H a<|hl d m 0 0)):MV K vs H Q
def FE(K:Fq):Sp:=λvs H Q _=>MV K vs H Q
def xp4:bY ["_law_script","_law_k","_law_cell"] ["_law_script","_law_k"] (bP FJ):=cE
def QE(h0:0<=c)(a:0<=k)(d:k<=63)(b:Bool):nT (c*(if b then 1 else 0)) (c % 2305843009213693951+7919*k+11) 0:=by
 have h1:0<=c % 2305843009213693951:=vE _ (by decide);have h2:c % 2305843009213693951<2305843009213693951:=vN _ (by decide);refine⟨?_,by lia,by lia,Int.le_refl 0⟩;cases b
 .show 0<=c*0;lia
 .show 0<=c*1;lia
def UD(F:Fun K "_law_hand" "_law_hand" FJ f fd)(o:mg "len"=none)(m:mg "abs"=none)(l:mg "int"=none):aQ P w K mg base bQ (k+1) f fd ["_law_script","_law_k"] (FE K):=by
 refine F.ok xp4 (λvs H Q E h=>?_) λB A outer s H vs Q E hr h=>?_
 .obtain⟨p,b,k,rfl,_⟩:=h;rfl
 obtain⟨p,b,j,rfl,e,z,C,q⟩:=h;exists _,aG (sL 2 xp4.nd aN)
  (aG (cK (cA uG (pv 1) (eR gK rfl o gB<|aA (pv 0) aE)<|cF _) (aV<|sL 2 xp4.nd<|eR VX rfl m (by rfl')<|aA (eI (pv 0)<|pv 1) aE) cO)
  (aV (bL (cW (aA (cB pR (pv 2)<|fG BV rfl l (by rfl')<|aA (vK JF (pv 2) (cB NS aN aN)<|cF _) aE)
   (aA (cB jL (cB jL (cB rV (pv 2) aN)<|cB pR aN<|pv 1) aN)<|aA aN<|aA aN aE))))))
 have i:∀{n:Nat},n<=1000->n<=sizeLine:=λh=>dM<|bO h;have hl:↑(b.map V.int)=↑b:=List.length_map _;exists _,rfl,_,rfl,p,_,rfl,.inl e,_,_,rfl,rfl,_,rfl;refine bB (λc=>?_) λc=>?_
 .have c':(j:Int)<((↑(b.map V.int):Nat):Int):=cS c;rw[hl]at c';have u:j<↑b:=by lia
  have x:dY (b.map V.int) (j:Int)=some (.int b[j]):=mQ (by rw[bZ,bH u];rfl);exists _,rfl,_,rfl,p,_,_,_,rfl,rfl,e,x,_,rfl;have r:0<=(if b[j]<0 then -b[j] else b[j]):=by split <;> lia
  refine⟨_,rfl,_,rfl,_,_,rfl,rfl,⟨by decide,by decide,by decide⟩,_,_,rfl,rfl,.inr ⟨_,rfl,_,_,rfl,rfl,.inr ?_,_,rfl,_,_,rfl,rfl,by show(0:Int)<2305843009213693951;decide,_,rfl,_,_,rfl,rfl,.inl (by constructor <;> decide),_,_,rfl,rfl,_,_,rfl,rfl,i (by show 4<=1000;decide),λa d=>?_⟩⟩
  .cases decide ((if b[j]<0 then -b[j] else b[j])≥10 ^ (18:Int).toNat) <;> (constructor <;> decide)
  .exact q a _ _ d<|QE r (by lia) (by lia) _
 .refine⟨_,rfl,_,rfl,_,_,rfl,rfl,⟨by decide,by decide,by decide⟩,_,_,rfl,rfl,.inr ⟨_,rfl,_,_,rfl,rfl,.inr ?_,_,rfl,_,_,rfl,rfl,by show(0:Int)<2305843009213693951;decide,_,rfl,_,_,rfl,rfl,.inl (by constructor <;> decide),_,_,rfl,rfl,_,_,rfl,rfl,i (by show 4<=1000;decide),λa d=>?_⟩⟩
  .cases decide ((0:Int)≥10 ^ (18:Int).toNat) <;> (constructor <;> decide)
  .exact q a _ _ d<|QE (Int.le_refl 0) (by lia) (by lia) _
abbrev Tr:=List<|Str×Option Str
structure TrOk(tr:Tr):Prop where
 nd:(tr.map (·.1)).Nodup
 up:∀(i:Nat) n e,tr[i]?=some (n,some e)->∃j,j<i/\∃g,tr[j]?=some (e,g)
def TrOk.nil:TrOk []:=⟨kH,λi n e h=>by simp at h⟩
def TrOk.snoc(h:TrOk tr)(o:n∉tr.map (·.1))(he:∀x,e=some x->x∈tr.map (·.1)):TrOk (tr++[(n,e)]):=by
 refine⟨?_,λi l b hi=>?_⟩
 .rw[bX];exact JE h.nd o
 .by_cases d:i<↑tr
  .rw[jM d]at hi;obtain⟨j,a,g,m⟩:=h.up i l b hi;exact⟨j,a,g,by rw[jM<|by lia];exact m⟩
  .rw[iR<|by lia]at hi;have h0:i-↑tr=0:=by
    cases hz:i-↑tr with
    | zero=>rfl
    | succ k=>rw[hz]at hi;simp at hi
   rw[h0]at hi;simp only[CN,BF,Prod.mk.injEq]at hi;obtain⟨_,q⟩:=hi;obtain⟨p,hp,r⟩:=ws9.mp<|he b q;obtain⟨j,a,f⟩:=kY hp;exact⟨j,by lia,p.2,by rw[jM a,bH a,f,<-r]⟩
def TrOk.one{tr:Tr}(h:TrOk tr){i j:Nat}{n:Str}{a b:Option Str}(hi:tr[i]?=some (n,a))(f:tr[j]?=some (n,b)):i=j:=by
 have e:(tr.map (·.1))[i]?=some n:=by rw[bZ,hi];rfl
 have d:(tr.map (·.1))[j]?=some n:=by rw[bZ,f];rfl
 obtain⟨h1,e⟩:=wr1.mp e;obtain⟨h2,d⟩:=wr1.mp d;exact(yI h.nd).mp<|e.trans d.symm
inductive Up(tr:Tr):Str->List Str->Prop
 | root {i:Nat} {n:Str}:tr[i]?=some (n,none)->Up tr n [n]
 | step {i:Nat} {n e:Str} {l:List Str}:tr[i]?=some (n,some e)->Up tr e l->Up tr n (n::l)
def Up.exists(h:TrOk tr):∀(i:Nat) n g,tr[i]?=some (n,g)->∃l,Up tr n l:=by
 intro i
 induction i using Nat.strongRecOn with
 | ind i ih=>
  intro n g hi;cases g with
  | none=>exact⟨_,.root hi⟩
  | some e=>
   obtain⟨j,b,g',a⟩:=h.up i n e hi;obtain⟨l,hl⟩:=ih j b e g' a;exact⟨_,.step hi hl⟩
def Up.inj{tr:Tr}(h:TrOk tr){n:Str}{l d:List Str}(a:Up tr n l)(b:Up tr n d):l=d:=by
 induction a generalizing d with
 | root hi=>
  cases b with
  | root _=>rfl
  | step hj _=>have:=h.one hi hj;subst this;rw[hi]at hj;cases hj
 | step hi _ ih=>
  cases b with
  | root hj=>have:=h.one hi hj;subst this;rw[hi]at hj;cases hj
  | step hj hb=>
   have:=h.one hi hj;subst this;rw[hi]at hj;cases hj;rw[ih hb]
def Up.mem(a:Up tr n l):∀x∈l,x∈tr.map (·.1):=by
 induction a with
 | root hi=>
  intro x b;rw[wr8]at b;subst b;exact ws9.mpr ⟨_,dC hi,rfl⟩
 | step hi _ ih=>
  intro x b;rcases wr5.mp b with rfl | b
  .exact ws9.mpr ⟨_,dC hi,rfl⟩
  .exact ih x b
def Up.len{tr:Tr}(h:TrOk tr):∀(i:Nat) n g l,tr[i]?=some (n,g)->Up tr n l->↑l<=i+1:=by
 intro i
 induction i using Nat.strongRecOn with
 | ind i ih=>
  intro n g l hi hl;cases hl with
  | root _=>show 1<=i+1;lia
  | @step i' _ e l' hj hb=>
   have:=h.one hi hj;subst this;obtain⟨j,a,g',b⟩:=h.up i n e hj;have:=ih j a e g' l' b hb;show ↑l'+1<=i+1;lia
def aS:Option Str->V
 | none=>.non
 | some e=>.str e
abbrev EM:Stmt:=top 1
def KindsAt(H:Hp)(p:Addr)(tr:Tr):Prop:=∃(kt:Addr)(ts:List Addr)(x y:V),H p=some (.tup [.ref kt,x,y])/\H kt=some (.tup<|ts.map V.ref)/\↑ts=↑tr/\
 ∀(j:Nat) t z,ts[j]?=some t->tr[j]?=some z->∃v,H t=some (.tup [.str z.1,aS z.2,v])
def yf2:bY ["program","kind","elder_of","line"] ["program","kind"] (bP EM):=cE
def eT(d:PE X a ta)(e:PE X b tb)(hs:IT b:=by exact λ_ _=>rfl):PE X (.Subscript a b pos) (dR (iK X.K) ta tb):=uA KW d e hs
def dG(tr:Tr):List (aJ×V):=tr.map λz=>((Sum.inr z.1:aJ),aS z.2)
def WW(h:n∉tr.map (·.1)):aK (dG tr) (Sum.inr n)=none:=by
 cases e:aK (dG tr) (Sum.inr n)with
 | none=>rfl
 | some v=>
  have:=BC e;unfold dG at this;rw[lJ]at this;obtain⟨z,hz,a⟩:=ws9.mp this;exact absurd (ws9.mpr ⟨z,hz,sZ a⟩) h
def PJ(ok:TrOk tr)(h:tr[i]?=some (n,e)):dG (tr.take<|i+1)=aO (dG<|tr.take i) (Sum.inr n) (aS e):=by
 have f:n∉(tr.take i).map (·.1):=λb=>by
  obtain⟨z,hz,l⟩:=ws9.mp b;obtain⟨j,d,a⟩:=kY hz;rw[eS]at d;have m:tr[j]?=some (n,z.2):=by
   rw[bH (by lia),<-l,<-a,List.getElem_take]
  have:=ok.one h m;lia
 rw[CD _<|WW f];unfold dG;rw[fE,h,bX];rfl
def AB{tr:Tr}(ok:TrOk tr){i:Nat}{n:Str}{e:Option Str}(h:tr[i]?=some (n,e)):aK (dG tr) (Sum.inr n)=some (aS e):=by
 obtain⟨hi,_⟩:=wr1.mp h;have a:∀(tr:Tr)(i:Nat),TrOk tr->tr[i]?=some (n,e)->(dG tr).find? (λb=>decide<|b.1=(Sum.inr n:aJ))=some ((Sum.inr n:aJ),aS e):=by
  intro tr i ok h;cases q:(dG tr).find? (λb=>decide<|b.1=(Sum.inr n:aJ))with
  | none=>
   have:=vh0.mp q ((Sum.inr n:aJ),aS e)<|ws9.mpr ⟨(n,e),dC h,rfl⟩;simp at this
  | some r=>
   have h1:=vT q;have h2:=qM q;obtain⟨z,hz,m⟩:=ws9.mp h2;obtain⟨j,u,o⟩:=kY hz;have l:r.1=(Sum.inr n:aJ):=cS h1;rw[<-m]at l;have f:z.1=n:=sZ l;have d:tr[j]?=some (n,z.2):=by rw[bH u,o,<-f]
   have:=ok.one h d;subst this;rw[h]at d;have s:z.2=e:=by cases d;rfl
   rw[<-m,f,s]
 unfold aK;rw[a tr i ok h];rfl
def EF(f:FrS [] H H')(hp:H' p=none):H p=none:=by
 cases hz:H p with
 | none=>rfl
 | some o=>have:=f p o (by simp) hz;rw[hp]at this;cases this
def Up.at(h:Up tr n l):∃(i:Nat)(g:Option Str),tr[i]?=some (n,g):=by
 cases h with
 | root h=>exact⟨_,_,h⟩
 | step h _=>exact⟨_,_,h⟩
def HU(dn:List Str)(x:Str):dY ((dn++[x]).map V.str) (-1)=some (.str x):=by
 rw[bX];unfold dY kB;have a:↑(dn.map V.str++[x].map V.str)=↑dn+1:=by simp
 rw[a,bD (by decide),bE<|by lia];have e:(-1+((↑dn+1:Nat):Int)).toNat=↑dn:=by lia
 show(dn.map V.str++[x].map V.str)[(-1+((↑dn+1:Nat):Int)).toNat]?=_;rw[e,iR<|by simp];simp
inductive QL(vs:List V)(H:Hp)(Q:VK):Prop
 | mk(p:Addr)(n:Str)(tr:Tr)(l:List Str)(h1:vs=[.ref p,.str n])(h2:KindsAt H p tr)(h3:TrOk tr)(h4:↑tr<=12)(h5:Up tr n l)(h6:∀(a:Addr)(H':Hp),FrS [] H H'->H a=none->H' a=some (.tup<|l.reverse.map V.str)->Q (.ref a) H'):QL  vs H Q
def uT:Sp:=λvs H Q _=>QL  vs H Q
def VN{k:Nat}(F:Fun K "elders" "elders" EM f fd)(mt:mg "tuple"=none):aQ P w K mg base bQ (k+1) f fd ["program","kind"] uT:=by
 refine F.ok yf2 (λvs H Q E h=>?_) λal A outer s H vs Q E hr h=>?_
 .obtain⟨p,n,tr,l,rfl,_⟩:=h;rfl
 obtain⟨p,n,tr,l,rfl,⟨C,ts,x,y,hp,I,G,aj⟩,ok,an,O,q⟩:=h;have Y:=eU hr;have ag:↑l<=12:=by
  obtain⟨i,g,hi⟩:=O.at;have:=Up.len ok i n g l hi O;obtain⟨h1,_⟩:=wr1.mp hi;lia
 have L:(["name","elder","deeds"]:List Str).Nodup:=by rfl'
 exists _,aG (SF (hp:=ET) (i:=2) (N':=["name","elder","deeds"]) (src:=[none,none,none]) rfl yf2.nd rfl rfl fH (iC<|eT (pv 0) aN) (g:=eN K 3<|eJ (cG 0)<|eJ (cG 1)<|eJ (cG 2) eK) (λ_ _ _ _=>dS (n:=3) rfl<|bI (gL 0 L)<|bI (gL 1 L)<|bI (gL 2 L) dV) (λ_ _ _ _=>gT) (λ_ _ _ _=>pv 0) λ_ _ _ _=>pv 1)
  (aG (sL 3 yf2.nd<|cW<|aA (pv 1) aE)<|aG (JN dW (jI<|uR<|cQ Y (pv 2) (eI (pv 3)<|kK kS aN) λ_ _=>rfl)<|aV<|dZ<|fI eX fQ fV fL (pv 3)<|aA (cQ Y (pv 2) (eI (pv 3)<|kK kS aN) λ_ _=>rfl) aE)<|aV<|bL<|fG iB rfl mt (by rfl')<|aA (OO (pv 3)<|kK kS aN) aE)
 ac_rfl
 refine⟨_,rfl,p,_,_,_,rfl,rfl,SqT.of hp,rfl,C,rfl,⟨_,SqT.of I⟩,λD B=>?_⟩;have ao:p≠D:=bA hp B;have ae:C≠D:=bA I B;exists λi m σ j=>m=↑ts-i/\i<=↑ts/\(∃a b c,σ=[a,b,c])/\j=upd H D (.dK<|dG<|tr.take i),⟨_,rfl,bT _,⟨_,_,_,rfl⟩,rfl⟩;rintro i m σ j ⟨rfl,hi,⟨a0,b0,c0,rfl⟩,rfl⟩;have M:∀o,upd H D o C=some (.tup<|ts.map V.ref):=λo=>by rw[aC ae];exact I
 by_cases u:i<↑ts
 .refine .inr ⟨⟨_,_,SqT.of<|M _,by rw[bZ,bH u];rfl⟩,λσ' H'=>(∃a b c,σ'=[a,b,c])/\H'=upd H D (.dK<|dG<|tr.take<|i+1),by rintro σ' H' ⟨h1,h2⟩;exact⟨_,by lia,rfl,u,h1,h2⟩,λv H' N=>?_⟩;obtain⟨rfl,N⟩:=N;have hv:=N _<|SqT.of<|M _;rw[bZ,bH u]at hv;cases hv;have Z:tr[i]?=some tr[i]:=bH (by lia);obtain⟨T,W⟩:=aj i _ _ (bH u) Z;have ai:∀o,upd H D o ts[i]=some (.tup [.str tr[i].1,aS tr[i].2,T]):=λo=>by rw[aC<|bA W B];exact W
  exists ts[i],_,rfl,SqT.of<|ai _,rfl,_,_,rfl,_,_,rfl,_,_,rfl,rfl;exists _,rfl,_,rfl,_,Sum.inr tr[i].1,rfl,zb1,?_,⟨_,_,_,rfl⟩
  .unfold dG;rw[aI,eS];exact bO (by lia)
  .rw[gS,PJ ok Z];rfl
 .refine .inl ⟨⟨_,SqT.of<|M _,by rw[aI];lia⟩,?_⟩;have e:i=↑tr:=by lia
  rw[e,eM<|aY _];refine⟨_,rfl,by show 1<=sizeLine;decide,λd r=>?_⟩;have a8:D≠d:=λz=>by rw[<-z,zb1]at r;cases r
  have am:H d=none:=by rw[aC<|bW a8]at r;exact r
  refine MY (λσ j=>∃(dn rs:List Str)(x:Str),σ=[some<|.ref p,some<|.str n,some<|.ref D,some<|.ref d]/\j=upd (upd H D<|.dK<|dG tr) d (.lst<|(dn++[x]).map V.str)/\Up tr x rs/\dn++rs=l/\↑dn<=12)
   (λσ j=>match j d with | some (.lst xs)=>100-↑xs | _=>0) ⟨[],l,n,rfl,rfl,O,rfl,by decide⟩ ?_ ?_
  .rintro σ j ⟨dn,rs,x,rfl,rfl,hx,hl,hd⟩;have J:∀o,upd (upd H D<|.dK<|dG tr) d o D=some (.dK<|dG tr):=λo=>by rw[aC a8];exact zb1
   have ak:∀o,upd (upd H D<|.dK<|dG tr) d o d=some o:=λo=>zb1;have G:∀y:Str,↑((dn++[y]).map V.str)=↑dn+1:=λy=>by simp
   cases hx with
   | @root i _ hi=>
    exists _,rfl,_,rfl,_,rfl,d,_,_,_,rfl,rfl,SqL.of zb1,HU dn x,D,V.non,rfl,?_,_,rfl
    .have:=DGet.k (k:=(Sum.inr x:aJ))<|J<|.lst<|(dn++[x]).map V.str;rw[AB ok hi]at this;exact this
    .show if (!decide (V.non=V.non))=true then _ else _
     rw[bD<|by simp];refine⟨_,rfl,_,rfl,rfl,d,_,rfl,SqL.of zb1,λp2 aa=>?_⟩;have a9:FrS [] H (upd (upd H D<|.dK<|dG tr) d<|.lst<|(dn++[x]).map V.str):=(FrS.new B).trans<|FrS.new r;refine⟨p2,_,rfl,.inl ⟨SqL.of zb1,λp3 X=>?_⟩⟩;refine q p3 _ ((a9.trans<|FrS.new aa).trans<|FrS.new X) ?_ ?_
     .exact EF (a9.trans<|FrS.new aa) X
     .rw[zb1,<-hl,List.map_reverse]
   | @step i _ e l' hi hb=>
    exists _,rfl,_,rfl,_,rfl,d,_,_,_,rfl,rfl,SqL.of zb1,HU dn x,D,V.str e,rfl,?_,_,rfl
    .have:=DGet.k (k:=(Sum.inr x:aJ))<|J<|.lst<|(dn++[x]).map V.str;rw[AB ok hi]at this;exact this
    .show if (!decide (V.str e=V.non))=true then _ else _
     rw[bE<|by simp];exists _,rfl,.inl ⟨rfl,_,SqL.of zb1⟩,_,rfl,_,rfl,_,rfl,d,_,_,_,rfl,rfl,SqL.of zb1,HU dn x,D,V.str e,rfl,?_,d,_,_,rfl,rfl,zb1,?_,⟨dn++[x],l',e,rfl,?_,hb,by rw[<-hl];simp,?_⟩
     .have:=DGet.k (k:=(Sum.inr x:aJ))<|J<|.lst<|(dn++[x]).map V.str;rw[AB ok hi]at this;exact this
     .rw[G];exact bO (by lia)
     .rw[gS,bX (l₁:=dn++[x])];rfl
     .have:=cM List.length hl;rw[bJ,cL]at this;rw[bJ,dQ];lia
     .show(match upd _ d _ d with | some (HO.lst xs)=>100-↑xs | _=>0)<(match upd _ d _ d with | some (HO.lst xs)=>100-↑xs | _=>0);rw[zb1,zb1];show 100-↑(((dn++[x]).map V.str)++[V.str e])<100-↑((dn++[x]).map V.str);rw[bJ,G,dQ];lia
  .intro σ j R R' hR hc;obtain⟨v1,h1,v2,h2,T,h3,p',xs,i',v',h4,h5,h6,h7,a',v8,h8,h9,c,af,ah⟩:=hc;exact⟨v1,h1,v2,h2,T,h3,p',xs,i',v',h4,h5,h6,h7,a',v8,h8,h9,c,af,hR _ _ ah⟩
abbrev KF:Stmt:=top 2
def kU(n:Str)(l:List Str):gU (.str n) (l.map V.str)=decide (n∈l):=by
 unfold gU
 induction l with
 | nil=>rfl
 | cons x r ih=>
  rw[dB,vW,ih];have e:gY (.str x) (.str n)=decide (x=n):=by
   first | rfl | simp[gY] | (unfold gY;by_cases h:x=n <;> simp[h])
  rw[e]
  by_cases h:x=n
  .subst h;simp
  .have h':¬n=x:=λz=>h z.symm;simp[h,h']
def jS(l:List Str):(l.map V.str).all iH=true:=by
 rw[List.all_map,ww4];intro x _;rfl
inductive OZ(vs:List V)(H:Hp)(Q:VK):Prop
 | mk(p:Addr)(n o:Str)(tr:Tr)(l:List Str)(h1:vs=[.ref p,.str n,.str o])(h2:KindsAt H p tr)(h3:TrOk tr)(h4:↑tr<=12)(h5:Up tr n l)(h6:∀(H':Hp),FrS [] H H'->Q (.bl<|decide<|o∈l) H'):OZ  vs H Q
def IE:Sp:=λvs H Q _=>OZ  vs H Q
def YP:bY ["program","one","other"] ["program","one","other"] (bP KF):=cE
def XU(F:Fun K "is_below" "is_below" KF f fd)(T:aR P w K mg base k "elders" ["program","kind"] uT):aQ P w K mg base bQ (k+1) f fd ["program","one","other"] IE:=by
 refine F.ok YP (λvs H Q E h=>?_) λr A outer s H vs Q E hr h=>?_
 .obtain⟨p,n,o,tr,l,rfl,_⟩:=h;rfl
 obtain⟨p,n,o,tr,l,rfl,i,ok,j,d,q⟩:=h;exists _,aV<|bL<|vK sD (pv 2) (bC T hr rfl<|aA (pv 0)<|aA (pv 1) aE) rfl;refine⟨_,rfl,_,rfl,_,rfl,p,n,tr,l,rfl,i,ok,j,d,λa H' fr m b=>?_⟩;exists a,_,rfl,.inr<|SqT.of b,rfl,jS _;have e:gU (.str o) (l.reverse.map V.str)=decide (o∈l):=by
  rw[kU]
  by_cases h:o∈l
  .rw[eE h,eE<|vg6.mpr h]
  .rw[gA h,gA λz=>h<|vg6.mp z]
 show Q (.bl<|if false=true then _ else _) H';rw[bD (by decide),e];exact q H' fr
def FrS.put(f:FrS S H H')(h:H a=none):FrS S H (upd H' a o):=λb u n q=>by
 rw[aC<|bA q h];exact f b u n q
def FrS.put'(f:FrS S H H')(h:a∈S):FrS S H (upd H' a o):=f.trans<|FrS.chg h
def FrS.old(f:FrS S H H')(hs:∀b∈S,∃o,H' b=some o)(hp:H' p=none):H p=none:=by
 cases hz:H p with
 | none=>rfl
 | some o=>
  by_cases d:p∈S
  .obtain⟨u,a⟩:=hs p d;rw[hp]at a;cases a
  .have:=f p o d hz;rw[hp]at this;cases this
def uH(d:Nat->St->Hp->Prop)(h0:d 0 σ0 H0)(hl:∀i σ H,i<=↑xs->d i σ H->SqL K H a xs)(hs:∀i x σ H,xs[i]?=some x->d i σ H->g x σ H λσ2 H2=>tt σ2 H2 λb H3=>if b=true then te σ2 H3 λv h=>∃ys,h D=some (.lst ys)/\↑ys<sizeLine/\d (i+1) σ2 (upd h D<|.lst<|ys++[v]) else d (i+1) σ2 H3)(hd:∀σ H,d ↑xs σ H->Q H):nA (rE K a) g tt te D σ0 H0 Q:=by
 exists λi m σ H=>m=↑xs-i/\i<=↑xs/\d i σ H,⟨↑xs,by simp,bT _,h0⟩;rintro i m σ H ⟨rfl,hi,p⟩;have q:=hl i σ H hi p
 by_cases f:i<↑xs
 .refine .inr ⟨⟨xs,xs[i],q,by simp[f]⟩,d<|i+1,λσ' H' j=>⟨↑xs-(i+1),by lia,rfl,f,j⟩,λx H' y=>?_⟩;obtain⟨e,y⟩:=y;subst e;exact hs i x σ _ (y xs q) p
 .have e:i=↑xs:=by lia
  subst e;exact .inl ⟨⟨xs,q,aY _⟩,hd σ H p⟩
def BG(a:Nat->St->Hp->Prop)(h0:a 0 σ0 H0)(hl:∀i σ H,i<=↑xs->a i σ H->ok H)(hs:∀i x σ H,xs[i]?=some x->a i σ H->g x σ H λσ2 H2=>tt σ2 H2 λb H3=>if b=true then te σ2 H3 λv f=>∃ys,f D=some (.lst ys)/\↑ys<sizeLine/\a (i+1) σ2 (upd f D<|.lst<|ys++[v]) else a (i+1) σ2 H3)(hd:∀σ H,a ↑xs σ H->Q H):nA (oB ok xs) g tt te D σ0 H0 Q:=by
 exists λi m σ H=>m=↑xs-i/\i<=↑xs/\a i σ H,⟨↑xs,by simp,bT _,h0⟩;rintro i m σ H ⟨rfl,hi,p⟩;have q:=hl i σ H hi p
 by_cases d:i<↑xs
 .refine .inr ⟨⟨q,d⟩,a<|i+1,λσ' H' h=>⟨↑xs-(i+1),by lia,rfl,d,h⟩,λx H' y=>?_⟩;obtain⟨e,y⟩:=y;subst e;exact hs i x σ _ y p
 .have e:i=↑xs:=by lia
  subst e;exact .inl ⟨⟨q,aY _⟩,hd σ H p⟩
def KR(a:Nat->St->Hp->Prop)(h0:a 0 σ0 H0)(hs:∀i σ H,i<n->a i σ H->g (.int<|lo+i) σ H λσ2 H2=>tt σ2 H2 λb H3=>if b=true then te σ2 H3 λv f=>∃ys,f D=some (.lst ys)/\↑ys<sizeLine/\a (i+1) σ2 (upd f D<|.lst<|ys++[v]) else a (i+1) σ2 H3)(hd:∀σ H,a n σ H->Q H):nA (sM lo n) g tt te D σ0 H0 Q:=by
 exists λi m σ H=>m=n-i/\i<=n/\a i σ H,⟨n,by simp,bT _,h0⟩;rintro i m σ H ⟨rfl,hi,p⟩
 by_cases d:i<n
 .refine .inr ⟨d,a<|i+1,λσ' H' h=>⟨n-(i+1),by lia,rfl,d,h⟩,λx H' y=>?_⟩;obtain⟨e,y⟩:=y;subst e y;exact hs i σ _ d p
 .have e:i=n:=by lia
  subst e;exact .inl ⟨aY _,hd σ H p⟩
def zG{ok:Hp->Prop}{xs:List V}{g:TG}{tb:TS}{D:cU}{σ:St}{H:Hp}(a:Nat->St->Hp->Prop)(h0:a 0 σ H)(hl:∀i σ H,i<=↑xs->a i σ H->ok H)
  (hs:∀i x σ H,xs[i]?=some x->a i σ H->g x σ H λσ2 H2=>tb {D with nx:=a<|i+1,ct:=a<|i+1,bk:=D.nx} σ2 H2) (hd:∀σ H,a ↑xs σ H->D.nx σ H):
  ∃W:Nat->Nat->St->Hp->Prop,(∃m,W 0 m σ H)/\∀i m σ H,W i m σ H->
   ((oB ok xs).stop i H/\D.nx σ H)\/((oB ok xs).go i H/\∃N:St->Hp->Prop,(∀σ' H',N σ' H'->∃m',m'<m/\W (i+1) m' σ' H')/\∀x H',(oB ok xs).yld i H x H'->g x σ H' λσ2 H2=>tb {D with nx:=N,ct:=N,bk:=D.nx} σ2 H2):=by
 exists λi m σ H=>m=↑xs-i/\i<=↑xs/\a i σ H,⟨↑xs,by simp,bT _,h0⟩;rintro i m σ H ⟨rfl,hi,p⟩;have q:=hl i σ H hi p
 by_cases b:i<↑xs
 .refine .inr ⟨⟨q,b⟩,a<|i+1,λσ' H' d=>⟨↑xs-(i+1),by lia,rfl,b,d⟩,λx H' y=>?_⟩;obtain⟨e,y⟩:=y;subst e;exact hs i x σ _ y p
 .have e:i=↑xs:=by lia
  subst e;exact .inl ⟨⟨q,aY _⟩,hd σ H p⟩
theorem RD{α:Type}[DecidableEq α]:∀(l U:List α),l.Nodup->(∀x∈l,x∈U)->↑l<=U.length
 | [],U,_,_=>bT _
 | x::l,U,h,hs=>by
  have a:x∈U:=hs x<|sJ ..;have d:=wv3.mp h;have f:=RD l (U.erase x) d.2 λy b=>(List.mem_erase_of_ne λe=>d.1<|by rw[<-e];exact b).mpr<|hs y<|gX _ b
  rw[List.length_erase_of_mem a]at f;have:=List.length_pos_of_mem a;show ↑l+1<=U.length;lia
def GG{κ:Type}[DecidableEq κ](kvs:List (κ×V))(k:κ)(v:V):((aO kvs k v).map (·.1)=kvs.map (·.1)/\k∈kvs.map (·.1))\/((aO kvs k v).map (·.1)=kvs.map (·.1)++[k]/\k∉kvs.map (·.1)):=by
 cases h:aK kvs k with
 | none=>exact .inr ⟨by rw[CD v h,bX];rfl,BR h⟩
 | some u=>
  refine .inl ⟨?_,BC h⟩;unfold aO;rw[oA,h];show(List.map _<|List.map _ kvs)=_;rw[lJ];refine yZ λx _=>?_;show(if x.1=k then(x.1,v) else x).1=x.1
  split <;> rfl
structure DOk(U N:List Str)(kvs:List (aJ×V)):Prop where
 nd:(kvs.map (·.1)).Nodup
 ks:∀k∈kvs.map (·.1),∃x∈U,k=Sum.inr x
 vs:∀k v,aK kvs k=some v->v=.non\/∃n∈N,v=.str n
def DOk.nil:DOk U N []:=⟨kH,(λ_ h=>nomatch h),(λ_ _ h=>nomatch h)⟩
def DOk.put(h:DOk U N kvs)(d:x∈U)(f:v=.non\/∃n∈N,v=.str n):DOk U N (aO kvs (Sum.inr x) v):=by
 refine⟨?_,λk a=>?_,λk u b=>?_⟩
 .rcases GG kvs (Sum.inr x) v with ⟨e,_⟩ | ⟨e,hn⟩
  .rw[e];exact h.nd
  .rw[e];exact JE h.nd hn
 .rcases GG kvs (Sum.inr x) v with ⟨e,_⟩ | ⟨e,hn⟩
  .rw[e]at a;exact h.ks k a
  .rw[e]at a;rcases wt2.mp a with a | a
   .exact h.ks k a
   .exact⟨x,d,wr8.mp a⟩
 .rw[nQ]at b
  by_cases e:k=Sum.inr x
  .rw[bE e]at b;cases b;exact f
  .rw[bD e]at b;exact h.vs k u b
def DOk.len(h:DOk U N kvs):↑kvs<=U.length:=by
 have:=RD (kvs.map (·.1)) (U.map λx=>(Sum.inr x:aJ)) h.nd λk b=>by
  obtain⟨x,a,e⟩:=h.ks k b;exact ws9.mpr ⟨x,a,e.symm⟩
 rwa [aI,aI]at this
def DOk.get(h:DOk U N kvs)(k:aJ):(aK kvs k).getD .non=.non\/∃n∈N,(aK kvs k).getD .non=.str n:=by
 cases e:aK kvs k with
 | none=>exact .inl rfl
 | some v=>exact h.vs k v e
structure WA where
 (tree late deeds wants owners vars params fields told held roots:Addr)
structure WD where
 tr:Tr
 (late deeds vars params fields:List Str)
 wants:List (List aJ×V)
 (owners roots:List (aJ×V))
 own:Str->List Str
def WD.names(D:WD):List Str:=D.tr.map (·.1)
def WD.U(D:WD):List Str:="own"::(D.vars++D.params)
def Stt(M:List Addr)(H:Hp)(a:Addr)(o:HO):Prop:=a∉M/\H a=some o
def Stt.keep(h:Stt M H a o)(f:FrS M H H'):Stt M H' a o:=⟨h.1,f a o h.1 h.2⟩
def Stt.sub(h:Stt M H a o)(hs:∀b∈M',b∈M):Stt M' H a o:=⟨λz=>h.1<|hs a z,h.2⟩
def TrOk.elder(h:TrOk tr)(a:x∈tr)(e:x.2=some y):y∈tr.map (·.1):=by
 obtain⟨n,g⟩:=x;have e:g=some y:=e;subst e;obtain⟨i,hi⟩:=wv6.mp a;obtain⟨j,_,g,b⟩:=h.up i n y hi;exact ws9.mpr ⟨(y,g),dC b,rfl⟩
def yT(tr:Tr)(late:List Str):Prop:=∀x∈tr,∀e,x.2=some e->e∈late->x.1∈late
structure vY(D:WD):Prop where
 ok:TrOk D.tr
 lnm:∀x∈D.late,x∈D.names
 l1:D.tr≠[]
 l12:D.tr.length<=12
 lateIn:yT D.tr D.late
 lateLen:D.late.length<=12
 soon:∃x∈D.names,x∉D.late
 d1:D.deeds≠[]
 d6:D.deeds.length<=6
 v4:D.vars.length=4
 p4:D.params.length=4
 f3:D.fields.length=3
structure Wld(M:List Addr)(H:Hp)(wd:Addr)(A:WA)(D:WD):Prop where
 k:∃kvs,Stt M H wd (.dK kvs)/\aK kvs (Sum.inr "tree")=some (.ref A.tree)/\aK kvs (Sum.inr "late")=some (.ref A.late)/\aK kvs (Sum.inr "deeds")=some (.ref A.deeds)/\aK kvs (Sum.inr "wants")=some (.ref A.wants)/\
  aK kvs (Sum.inr "owners")=some (.ref A.owners)/\aK kvs (Sum.inr "vars")=some (.ref A.vars)/\aK kvs (Sum.inr "params")=some (.ref A.params)/\aK kvs (Sum.inr "fields")=some (.ref A.fields)/\
  aK kvs (Sum.inr "told")=some (.ref A.told)/\aK kvs (Sum.inr "held")=some (.ref A.held)/\aK kvs (Sum.inr "roots")=some (.ref A.roots)
 tree:∃ts:List Addr,Stt M H A.tree (.lst<|ts.map V.ref)/\↑ts=D.tr.length/\∀(j:Nat) t x,ts[j]?=some t->D.tr[j]?=some x->Stt M H t (.tup [.str x.1,aS x.2])
 late:Stt M H A.late (.lst<|D.late.map V.str)
 deeds:Stt M H A.deeds (.lst<|D.deeds.map V.str)
 vars:Stt M H A.vars (.lst<|D.vars.map V.str)
 params:Stt M H A.params (.lst<|D.params.map V.str)
 fields:Stt M H A.fields (.lst<|D.fields.map V.str)
 wants:Stt M H A.wants (.dT D.wants)
 owners:Stt M H A.owners (.dK D.owners)
 roots:Stt M H A.roots (.dK D.roots)
 wl:∀n∈D.names,∀d∈D.deeds,∃(r:Str)(p:Addr)(ws:List Str),aK D.roots (Sum.inr n)=some (.str r)/\aK D.wants [Sum.inr r,Sum.inr d]=some (.ref p)/\Stt M H p (.lst<|ws.map V.str)/\↑ws<=4/\∀x∈ws,x∈D.names
 ol:∀d∈D.deeds,∃p:Addr,aK D.owners (Sum.inr d)=some (.ref p)/\Stt M H p (.lst<|(D.own d).map V.str)/\(∀x∈D.own d,x∈D.names)/\↑(D.own d)<=13
def Wld.map{A:WA}(h:Wld M H wd A D)(f:∀a o,Stt M H a o->Stt M' H' a o):Wld M' H' wd A D:=by
 obtain⟨⟨kvs,E,u⟩,⟨ts,m,w,I⟩,h1,h2,z,l,J,s,i,B,G,C⟩:=h;refine⟨⟨kvs,f _ _ E,u⟩,⟨ts,f _ _ m,w,λj t x a b=>f _ _<|I j t x a b⟩,f _ _ h1,f _ _ h2,f _ _ z,f _ _ l,f _ _ J,f _ _ s,f _ _ i,f _ _ B,λn q d hd=>?_,λd hd=>?_⟩
 .obtain⟨r,p,ws,a,b,c,e⟩:=G n q d hd;exact⟨r,p,ws,a,b,f _ _ c,e⟩
 .obtain⟨p,a,b,c⟩:=C d hd;exact⟨p,a,f _ _ b,c⟩
theorem Wld.keep{A:WA}(h:Wld M H wd A D)(f:FrS M H H'):Wld M H' wd A D:=h.map λ_ _ x=>x.keep f
theorem Wld.g{A:WA}(h:Wld M H wd A D):DGet H wd (.str "tree") (some<|.ref A.tree)/\DGet H wd (.str "late") (some<|.ref A.late)/\DGet H wd (.str "deeds") (some<|.ref A.deeds)/\DGet H wd (.str "wants") (some<|.ref A.wants)/\
  DGet H wd (.str "owners") (some<|.ref A.owners)/\DGet H wd (.str "vars") (some<|.ref A.vars)/\DGet H wd (.str "params") (some<|.ref A.params)/\DGet H wd (.str "fields") (some<|.ref A.fields)/\DGet H wd (.str "told") (some<|.ref A.told)/\DGet H wd (.str "held") (some<|.ref A.held)/\DGet H wd (.str "roots") (some<|.ref A.roots):=by
 obtain⟨kvs,⟨_,e⟩,f,i,m,b,o,k6,d,j,n,a,l⟩:=h.k;have g:∀(x:Str)(v:V),aK kvs (Sum.inr x)=some v->DGet H wd (.str x) (some v):=λx v q=>.inl ⟨kvs,Sum.inr x,.inl e,rfl,q.symm⟩;exact⟨g _ _ f,g _ _ i,g _ _ m,g _ _ b,g _ _ o,g _ _ k6,g _ _ d,g _ _ j,g _ _ n,g _ _ a,g _ _ l⟩
abbrev GF:Stmt:=top 55
abbrev tN:Stmt:=top 56
def WX(ok:TrOk tr):dU [] (dG tr)=dG tr:=by
 have a:∀i,i<=↑tr->dU [] ((dG tr).take i)=dG (tr.take i):=by
  intro i
  induction i with
  | zero=>intro _;rfl
  | succ i ih=>
   intro hi;have b:tr[i]?=some tr[i]:=bH (by lia);have d:(dG tr)[i]?=some (Sum.inr tr[i].1,aS tr[i].2):=by unfold dG;rw[bZ,b];rfl
   rw[NG d,ih (by lia),PJ ok (e:=tr[i].2) (n:=tr[i].1) b]
 have hl:↑(dG tr)=↑tr:=by unfold dG;rw[aI]
 have:=a ↑tr (aY _);rwa [eM (by lia),eM<|aY _]at this
inductive PU(vs:List V)(H:Hp)(Q:VK):Prop
 | mk(wd:Addr)(M:List Addr)(A:WA)(D:WD)(n:Str)(l:List Str)(h1:vs=[.ref wd,.str n])(h2:Wld M H wd A D)(h3:vY D)(h4:Up D.tr n l)(h5:∀(a:Addr)(H':Hp),FrS [] H H'->H a=none->H' a=some (.lst<|l.map V.str)->Q (.ref a) H'):PU  vs H Q
def xZ:Sp:=λvs H Q _=>PU  vs H Q
def ys6:bY [qW,"_law_kind","_law_up","_law_line_here"] qG (bP GF):=cE
def TD(F:Fun K "_law_line" "_law_line" GF f fd)(ab:mg "dict"=none):aQ P w K mg base bQ (k+1) f fd qG xZ:=by
 refine F.ok ys6 (λvs H Q E h=>?_) λac A outer s H vs Q E hr h=>?_
 .obtain⟨wd,M,A,D,n,l,rfl,_⟩:=h;rfl
 obtain⟨wd,M,WA,D,n,l,rfl,N,d,C,q⟩:=h;have Y:=eU hr;exists _,aG (sL 2 ys6.nd<|fG (KA rfl) rfl ab (by rfl')<|aA (cQ Y (pv 0) bR λ_ _=>rfl) aE)
  (aG (sL 3 ys6.nd<|cW aE)<|aG (JN dW (jI<|uR<|pv 1)<|aG (dZ<|fI eX fQ fV fL (pv 3)<|aA (pv 1) aE)<|aV<|sL 1 ys6.nd<|cQ Y (pv 2) (pv 1) λ_ _=>rfl)<|aV<|bL<|pv 3)
 ac_rfl
 obtain⟨ts,t1,t2,t3⟩:=N.tree;have Z:↑(dG D.tr)=D.tr.length:=by unfold dG;rw[aI]
 have ad:=d.l12;refine⟨_,rfl,wd,_,rfl,N.g.1,WA.tree,ts,dG D.tr,rfl,SqL.of t1.2,by rw[Z];exact t2,by rw[Z];exact bO (by lia),λj t r ht G=>?_,λb a8=>?_⟩
 .unfold dG at G;rw[bZ]at G;obtain⟨x,B,rfl⟩:=wt0.mp G;exact SqT.of (t3 j t x ht B).2
 rw[WX d.ok];refine⟨bT _,λa u=>?_⟩;have L:b≠a:=λz=>by rw[<-z,zb1]at u;cases u
 have X:H a=none:=by rw[aC<|bW L]at u;exact u
 refine MY (λσ m=>∃(dn:List Str)(r:V),σ=[some<|.ref wd,some r,some<|.ref b,some<|.ref a]/\m=upd (upd H b<|.dK<|dG D.tr) a (.lst<|dn.map V.str)/\↑dn<=12/\((r=.non/\dn=l)\/∃x rs,r=.str x/\Up D.tr x rs/\dn++rs=l))
  (λσ m=>match m a with | some (.lst xs)=>100-↑xs | _=>0) ⟨[],.str n,rfl,rfl,by decide,.inr ⟨n,l,rfl,C,rfl⟩⟩ ?_ ?_
 .rintro σ m ⟨dn,r,rfl,rfl,hd,I⟩;have T:∀o,upd (upd H b<|.dK<|dG D.tr) a o b=some (.dK<|dG D.tr):=λo=>by rw[aC L];exact zb1
  rcases I with ⟨rfl,rfl⟩ | ⟨x,rs,rfl,B,hl⟩
  .exists _,rfl,_,rfl;show if (!decide (V.non=V.non))=true then _ else _
   rw[bD<|by trivial];exact⟨_,rfl,q a _ (((FrS.refl).put a8).put X) X zb1⟩
  .exists _,rfl,_,rfl;show if (!decide (V.str x=V.non))=true then _ else _
   rw[bE<|by trivial];have O:↑dn+1<=12:=by
    obtain⟨i,g,hi⟩:=C.at;have h1:=Up.len d.ok i n g l hi C;obtain⟨h2,_⟩:=wr1.mp hi;have h3:=cM List.length hl;rw[bJ]at h3;have h4:1<=↑rs:=by cases B <;> simp
    lia
   exists _,rfl,.inl ⟨rfl,_,SqL.of zb1⟩,_,rfl,a,_,_,rfl,rfl,zb1,by rw[aI];exact bO (by lia),_,rfl,_,rfl;rw[gS];have W:(match upd (upd H b<|.dK<|dG D.tr) a (.lst<|dn.map V.str++[V.str x]) a with | some (HO.lst xs)=>100-↑xs | _=>0)<(match upd (upd H b<|.dK<|dG D.tr) a (.lst<|dn.map V.str) a with | some (HO.lst xs)=>100-↑xs | _=>0):=by
    rw[zb1,zb1];show 100-↑(dn.map V.str++[V.str x])<100-↑(dn.map V.str);rw[bJ,aI,dQ];lia
   have J:dn.map V.str++[V.str x]=(dn++[x]).map V.str:=by rw[bX];rfl
   cases B with
   | @root i _ hi=>
    refine⟨b,.non,rfl,?_,⟨dn++[x],.non,rfl,by rw[J],by rw[bJ,dQ];exact O,.inl ⟨rfl,hl⟩⟩,W⟩;have:=DGet.k (k:=(Sum.inr x:aJ))<|T<|.lst<|dn.map V.str++[V.str x];rw[AB d.ok hi]at this;exact this
   | @step i _ e l' hi hb=>
    refine⟨b,.str e,rfl,?_,⟨dn++[x],.str e,rfl,by rw[J],by rw[bJ,dQ];exact O,.inr ⟨e,l',rfl,hb,by rw[<-hl];simp⟩⟩,W⟩;have:=DGet.k (k:=(Sum.inr x:aJ))<|T<|.lst<|dn.map V.str++[V.str x];rw[AB d.ok hi]at this;exact this
 .intro σ m R R' hR I;obtain⟨v1,h1,c,a9,aa⟩:=I;exact⟨v1,h1,c,a9,hR _ _ aa⟩
def HP(D:WD)(k d:Str):Prop:=k∈D.names/\d∈D.deeds/\∃n l,Up D.tr k l/\n∈l/\n∈D.own d
def eG(D:WD)(k:Str):Option Str->Prop
 | some d=>HP D k d
 | none=>k∈D.names
inductive nN(vs:List V)(H:Hp)(Q:VK):Prop
 | mk(wd:Addr)(M:List Addr)(A:WA)(D:WD)(n d:Str)(h1:vs=[.ref wd,.str n,.str d])(h2:Wld M H wd A D)(h3:vY D)(h4:n∈D.names)(h5:d∈D.deeds)(h6:∀(b:Bool)(H':Hp),FrS [] H H'->(b=true->HP D n d)->Q (.bl b) H'):nN  vs H Q
def LB:Sp:=λvs H Q _=>nN  vs H Q
def zK:bY qE qE (bP tN):=cE
def ID(a:vY D)(f:n∈D.names):∃l,Up D.tr n l/\↑l<=12/\∀x∈l,x∈D.names:=by
 obtain⟨z,hz,e⟩:=ws9.mp f;obtain⟨i,hi,d⟩:=kY hz;have b:D.tr[i]?=some (n,z.2):=by rw[bH hi,d,<-e]
 obtain⟨l,hl⟩:=Up.exists a.ok i n z.2 b;have:=Up.len a.ok i n z.2 l b hl;have:=a.l12;exact⟨l,hl,by lia,hl.mem⟩
def pP(F:Fun K "_law_has" "_law_has" tN f fd)(T:aR P w K mg base k "_law_line" qG xZ)(W:mg "any"=none):aQ P w K mg base bQ (k+1) f fd qE LB:=by
 refine F.ok zK (λvs H Q E h=>?_) λab A outer s H vs Q E hr h=>?_
 .obtain⟨wd,M,A,D,n,d,rfl,_⟩:=h;rfl
 obtain⟨wd,M,WA,D,n,d,rfl,o,z,G,hd,q⟩:=h;have I:=eU hr;have Z:(["_law_one",qW,"_law_deed_here"]:List Str).Nodup:=by rfl'
 exists _,aV (bL (eR (UY rfl) rfl W (by rfl') (aA (jZ (N':=["_law_one",qW,"_law_deed_here"]) (src:=[none,some 0,some 2]) rfl fH
   (iF<|bC T hr rfl<|aA (pv 0)<|aA (pv 1) aE)
   (g:=cG 0) (λ_ _ _ _=>gL 0 Z) (λ_ _ _ _=>gT)
   (λ_ _ _ _=>vK (show OpR _ _ (jK K false) from sD) (pv 0) (cQ I (cQ I (pv 1) bR λ_ _=>rfl) (pv 2) λ_ _=>rfl) rfl)) aE)))
 ac_rfl
 obtain⟨l,hl,a8,ac⟩:=ID z G;obtain⟨Y,o1,o2,o3,o4⟩:=o.ol d hd;refine⟨_,rfl,_,rfl,wd,M,WA,D,n,l,rfl,o,z,hl,λO H1 L ad J=>⟨O,rfl,⟨_,SqL.of J⟩,λB u=>?_⟩⟩;refine uH (xs:=l.map V.str) (λi σ a=>(∃x,σ=[x,some<|.ref wd,some<|.str d])/\FrS [] H1 a/\∃bs:List Bool,bs=(l.take i).map (λx=>gU (.str x)<|(D.own d).map V.str)/\a B=some (.lst<|bs.map V.bl)) ⟨⟨_,rfl⟩,(FrS.refl).put u,[],rfl,zb1⟩ ?_ ?_ ?_
 .rintro i σ a hi ⟨_,fr,_⟩;exact SqL.of<|fr _ _ (by trivial) J
 .rintro i x σ a j ⟨⟨x0,rfl⟩,fr,bs,e,r⟩;obtain⟨hi,_⟩:=wr1.mp j;rw[aI]at hi;rw[bZ,bH hi]at j;cases j;have C:FrS M H a:=(L.trans fr).mono (by trivial);have N:=o.keep C;have aa:=o2.keep C;exists _,rfl,_,rfl,wd,_,rfl,N.g.2.2.2.2.1,_,rfl,WA.owners,_,rfl,.inl ⟨_,Sum.inr d,.inl N.owners.2,rfl,o1.symm⟩,Y,_,rfl,.inl<|SqL.of aa.2,rfl,jS _,_,r,?_,⟨_,rfl⟩,fr.put u,bs++[gU (.str l[i])<|(D.own d).map V.str],?_
  .rw[aI,e,aI,eS];exact bO (by lia)
  .rw[e,fE,bH hi,bX];rfl
  .rw[zb1,bX];rfl
 .rintro σ a ⟨_,fr,bs,e,r⟩;refine⟨B,bs,rfl,SqL.of r,q _ a (L.trans fr) λa2=>⟨G,hd,?_⟩⟩;rw[aI,eM<|aY _]at e;subst e;obtain⟨b,X,m⟩:=vk3.mp a2;obtain⟨x,j,rfl⟩:=ws9.mp X;exists x,l,hl,j;have m:gU (.str x) ((D.own d).map V.str)=true:=m;rw[kU]at m;simpa using m
abbrev Ms(hd en:Addr)(A:WA):List Addr:=[hd,en,A.told,A.held]
structure Sit(H:Hp)(hd en wd:Addr)(A:WA)(D:WD)(t r:Int):Prop where
 hand:∃d m,Hand H hd d m t r
 env:∃kv,H en=some (.dK kv)/\DOk D.U D.names kv
 told:∃kv,H A.told=some (.dK kv)/\DOk D.deeds D.names kv
 held:∃kv,H A.held=some (.dK kv)/\DOk D.fields D.names kv
 w:Wld (Ms hd en A) H wd A D
 nd:(Ms hd en A).Nodup
 ok:vY D
section
variable{H H':Hp}{hd en wd:Addr}{A:WA}{D:WD}{t r:Int}
def Sit.fr0(S:Sit H hd en wd A D t r)(f:FrS [] H H'):Sit H' hd en wd A D t r:=by
 obtain⟨⟨d,m,h1,i⟩,⟨e,o,a⟩,⟨b,n,h⟩,⟨j,q,l⟩,w,nd,ok⟩:=S;exact⟨⟨d,m,f _ _ (by trivial) h1,i⟩,⟨e,f _ _ (by trivial) o,a⟩,⟨b,f _ _ (by trivial) n,h⟩,⟨j,f _ _ (by trivial) q,l⟩,w.keep (f.mono<|by trivial),nd,ok⟩
def Sit.ne(S:Sit H hd en wd A D t r):hd≠en/\hd≠A.told/\hd≠A.held/\en≠A.told/\en≠A.held/\A.told≠A.held:=by
 have:=S.nd;simp only[Ms,wv3,wr5,aZ,cY,eY]at this;exact⟨this.1.1,this.1.2.1,this.1.2.2,this.2.1.1,this.2.1.2,this.2.2.1⟩
def Sit.setHand(S:Sit H hd en wd A D t r)(ok:nT d' m' t'):Sit (upd H hd<|hl d' m' t' r') hd en wd A D t' r':=by
 obtain⟨f,b,q,B,x,z⟩:=S.ne;obtain⟨⟨d,m,h1⟩,⟨h,s,a⟩,⟨e,o,i⟩,⟨l,u,n⟩,w,nd,j⟩:=S;exact⟨⟨d',m',Hand.at ok⟩,⟨h,by rw[aC f.symm];exact s,a⟩,⟨e,by rw[aC b.symm];exact o,i⟩,⟨l,by rw[aC q.symm];exact u,n⟩,w.keep (FrS.chg<|by trivial),nd,j⟩
def Sit.setEnv(S:Sit H hd en wd A D t r)(h:DOk D.U D.names kv):Sit (upd H en<|.dK kv) hd en wd A D t r:=by
 obtain⟨f,u,C,j,e,z⟩:=S.ne;obtain⟨⟨d,m,h1,a⟩,⟨B,E,x⟩,⟨b,q,i⟩,⟨n,s,o⟩,w,nd,l⟩:=S;exact⟨⟨d,m,by rw[aC f];exact h1,a⟩,⟨kv,zb1,h⟩,⟨b,by rw[aC j.symm];exact q,i⟩,⟨n,by rw[aC e.symm];exact s,o⟩,w.keep (FrS.chg<|by trivial),nd,l⟩
def Sit.setTold(S:Sit H hd en wd A D t r)(h:DOk D.deeds D.names kv):Sit (upd H A.told<|.dK kv) hd en wd A D t r:=by
 obtain⟨B,b,E,j,z,e⟩:=S.ne;obtain⟨⟨d,m,h1,a⟩,⟨f,q,i⟩,⟨x,C,u⟩,⟨n,s,o⟩,w,nd,l⟩:=S;exact⟨⟨d,m,by rw[aC b];exact h1,a⟩,⟨f,by rw[aC j];exact q,i⟩,⟨kv,zb1,h⟩,⟨n,by rw[aC e.symm];exact s,o⟩,w.keep (FrS.chg<|by trivial),nd,l⟩
def Sit.setHeld(S:Sit H hd en wd A D t r)(h:DOk D.fields D.names kv):Sit (upd H A.held<|.dK kv) hd en wd A D t r:=by
 obtain⟨z,u,q,B,e,f⟩:=S.ne;obtain⟨⟨d,m,h1,l⟩,⟨i,s,a⟩,⟨b,o,j⟩,⟨C,E,x⟩,w,nd,n⟩:=S;exact⟨⟨d,m,by rw[aC q];exact h1,l⟩,⟨i,by rw[aC e];exact s,a⟩,⟨b,by rw[aC f];exact o,j⟩,⟨kv,zb1,h⟩,w.keep (FrS.chg<|by trivial),nd,n⟩
def Sit.have_(S:Sit H hd en wd A D t r):∀b∈Ms hd en A,∃o,H b=some o:=by
 obtain⟨⟨d,m,h1,s⟩,⟨n,f,i⟩,⟨l,e,q⟩,⟨u,h,j⟩,w,nd,x⟩:=S;intro b a;simp only[Ms,wr5,aZ,cY]at a;rcases a with rfl | rfl | rfl | rfl
 .exact⟨_,h1⟩
 .exact⟨_,f⟩
 .exact⟨_,e⟩
 .exact⟨_,h⟩
def Sit.notin(S:Sit H hd en wd A D t r)(hp:H p=none):p∉Ms hd en A:=λz=>by
 obtain⟨o,a⟩:=S.have_ p z;rw[hp]at a;cases a
def hV{p a:Addr}{ss:List Str}{d m t r:Int}(h:H p=some (.lst<|ss.map V.str))(b:Hand H a d m t r):p≠a:=λe=>by
 subst e;rw[b.1]at h;cases ss with
 | nil=>cases h
 | cons x l=>cases h
def FrS.thaw(d:H a=Option.some u)(f:FrS [] (upd H a<|.frz o u) Hx):FrS [] H (upd Hx a u):=λb v n q=>by
 by_cases e:b=a
 .subst e;rw[zb1];rw[d]at q;exact q
 .rw[aC e];exact f b v n (by rw[aC e];exact q)
def DOk.strs(h:DOk U N kvs):∃ss:List Str,kvs.map (λd=>kV d.1)=ss.map V.str/\↑ss=↑kvs/\∀x∈ss,x∈U:=by
 have b:∀l:List (aJ×V),(∀k∈l.map (·.1),∃x∈U,k=Sum.inr x)->∃ss:List Str,l.map (λd=>kV d.1)=ss.map V.str/\↑ss=↑l/\∀x∈ss,x∈U:=by
  intro l
  induction l with
  | nil=>intro _;exact⟨[],rfl,rfl,by simp⟩
  | cons a l ih=>
   intro i;obtain⟨ss,e,m,o⟩:=ih λk j=>i k<|gX _ j;obtain⟨x,n,ex⟩:=i a.1 (by trivial);exists x::ss,?_,by simp[m]
   .rw[dB,dB,e,ex];rfl
   .intro y f;rcases wr5.mp f with rfl | f
    .exact n
    .exact o y f
 exact b kvs h.ks
end
abbrev oX:Stmt:=top 57
abbrev pU:Stmt:=top 58
abbrev HE:Stmt:=top 59
inductive nF(vs:List V)(H:Hp)(Q:VK):Prop
 | mk(hd en wd:Addr)(A:WA)(D:WD)(t r:Int)(h1:vs=[.ref hd,.ref wd,.ref en])(h2:Sit H hd en wd A D t r)(h3:t+2<1000000)(h4:∀(x:Str)(H':Hp)(t':Int),Sit H' hd en wd A D t' r->FrS (Ms hd en A) H H'->t'<=t+2->FrS [hd] H H'->Q (.str x) H'):nF  vs H Q
def nC:Sp:=λvs H Q _=>nF  vs H Q
def scVar:bY [qH,qW,"_law_env","_law_some"] qA (bP oX):=cE
def rS{k:Nat}(F:Fun K "_law_variable" "_law_variable" oX f fd)(T:aR P w K mg base k "_law_take" qB fZ)(O:aR P w K mg base k "_law_of" qC (cR K))(ag:mg "list"=none):
  aQ P w K mg base bQ (k+1) f fd qA nC:=by
 refine F.ok scVar (λvs H Q E h=>?_) λap A outer s H vs Q E hr h=>?_
 .obtain⟨hd,en,wd,A,D,t,r,rfl,_⟩:=h;rfl
 obtain⟨hd,en,wd,WA,D,t,r,rfl,S,ht,q⟩:=h;have hu:=eU hr;have al:(["_law_x","_law_env"]:List Str).Nodup:=by rfl'
 exists _,aG (OE<|tL (i:=3) (N':=["_law_x","_law_env"]) (src:=[none,some 2]) rfl scVar.nd rfl rfl fH (BB<|pv 2) (g:=cG 0) (λ_ _ _ _=>gL 0 al) (λ_ _ _ _=>vI<|jI<|uR<|cQ hu (pv 1) (pv 0) λ_ _=>rfl) λ_ _ _ _=>pv 0)
  (aG (cK (PW.pt<|jD (cA (EY<|vG hu) (pv 3) (cW aE)<|cF _)<|kR<|cA kE (bC T hr rfl<|aA (pv 0)<|aA aN aE) aN<|cF _) (aV<|bL<|bC O hr rfl<|aA (pv 0)<|aA (pv 3) aE) cO)<|aV<|bL<|bC O hr rfl<|aA (pv 0)<|aA (cB vC (cQ hu (pv 1) bR λ_ _=>rfl)<|fG (VA rfl) rfl ag (by rfl')<|aA (pv 2) aE) aE)
 ac_rfl
 obtain⟨b,a9,hk⟩:=S.env;have hU:D.U.length=9:=by unfold WD.U;rw[cL,bJ,S.ok.v4,S.ok.p4]
 have an:=hk.len;obtain⟨us,eu,am,_⟩:=hk.strs;exists en,b,a9;refine⟨_,rfl,en,b,rfl,a9,λo n I=>?_⟩;have ac:n≠en:=λz=>by rw[z,zb1]at I;cases I
 have ao:H n=none:=by rw[aC ac]at I;exact I
 refine BG (xs:=b.map λp=>kV p.1) (λi σ u=>(∃x,σ=[x,some<|.ref en])/\FrS [] (upd H en<|.frz o<|.dK b) u/\∃ss:List Str,↑ss<=i/\u n=some (.lst<|ss.map V.str)) ⟨⟨_,rfl⟩,(FrS.refl).put I,[],by simp,zb1⟩ ?_ ?_ ?_
 .rintro i σ u hi ⟨_,fr,_⟩;exact fr _ _ (by trivial) zb1
 .rintro i x σ u j ⟨⟨x0,rfl⟩,fr,ss,hs,X⟩;have aa:=j;rw[eu]at j;obtain⟨hi,_⟩:=wr1.mp j;rw[aI]at hi;rw[bZ,bH hi]at j;cases j;have ah:(Sum.inr us[i]:aJ)∈b.map (·.1):=by
   rw[bZ]at aa;obtain⟨p,hp,e⟩:=wt0.mp aa;have:p.1=Sum.inr us[i]:=by
    obtain⟨y,_,ey⟩:=hk.ks p.1<|ws9.mpr ⟨p,dC hp,rfl⟩;rw[ey]at e ⊢;cases e;rfl
   exact ws9.mpr ⟨p,dC hp,this⟩
  obtain⟨v,hv⟩:∃v,aK b (Sum.inr us[i])=some v:=by
   cases z:aK b (Sum.inr us[i])with
   | some v=>exact⟨v,rfl⟩
   | none=>exact absurd ah<|BR z
  exists _,rfl,_,rfl,en,v,rfl,.inl ⟨b,Sum.inr us[i],.inr ⟨o,fr _ _ (by trivial) zb1⟩,rfl,hv.symm⟩,_,rfl;refine bB (λc=>?_) λc=>?_
  .exists _,rfl,_,X,by rw[aI];exact bO (by lia),⟨_,rfl⟩,fr.put I,ss++[us[i]],?_
   .rw[bJ,dQ];lia
   .rw[zb1,bX];rfl
  .exact⟨⟨_,rfl⟩,fr,ss,by lia,X⟩
 .rintro σ u ⟨_,fr,ss,hs,X⟩;rw[aI]at hs;exists o,fr _ _ (by trivial) zb1;have f1:FrS [] H (upd u en<|.dK b):=FrS.thaw a9 fr;have S1:=S.fr0 f1;have J:upd u en (.dK b) n=some (.lst<|ss.map V.str):=by rw[aC ac];exact X
  generalize upd u en (.dK b)=H1 at f1 S1 J;have a1:∀(H2:Hp)(Z:Int),Sit H2 hd en wd WA D Z r->FrS (Ms hd en WA) H H2->FrS [hd] H H2->Z<=t+1->
    gO (gE (cR K) [] E<|bG (aL 0)<|bG (dR xT (uQ (aL 1)<|tC<|.str "vars")<|mJ (λxs H Q=>∃p kvs,xs=[.ref p]/\Rd H p (.dK kvs)/\∀l,H l=none->Q (.ref l) (upd H l<|.lst<|kvs.map λb=>kV b.1))<|bG (aL 2) bK) bK) ⟨λ_ H=>Q .non H,Q,λ_ _=>False,λ_ _=>False⟩ [some<|.ref hd,some<|.ref wd,some<|.ref en,some<|.ref n] H2:=by
   intro H2 Z B Y N aq;obtain⟨a8,a7,ad⟩:=B.env;obtain⟨ai,ab,ak,_⟩:=ad.strs;have aj:=ad.len;refine⟨_,rfl,_,rfl,wd,_,rfl,B.w.g.2.2.2.2.2.1,_,rfl,en,a8,rfl,.inl a7,λl hl=>?_⟩;have G:=B.fr0<|FrS.new (S:=[]) (o:=.lst<|a8.map λb=>kV b.1) hl;refine⟨WA.vars,l,_,_,rfl,rfl,G.w.vars.2,zb1,?_,λp hp=>?_⟩
   .rw[aI,aI,S.ok.v4];exact dM (bO<|by lia)
   .have S4:=G.fr0<|FrS.new (S:=[]) (o:=.lst<|D.vars.map V.str++a8.map λb=>kV b.1) hp;rw[ab,<-bX]at S4 ⊢;rw[ab]at hp;obtain⟨d,m,C⟩:=S4.hand;refine⟨hd,p,d,m,Z,r,_,rfl,C,by lia,hV (ss:=D.vars++ai) zb1 C,SqL.of zb1,?_,?_,λx d' m' t' j c e=>?_⟩
    .intro z;have:=cM List.length z;rw[aI,bJ,S.ok.v4,iD]at this;lia
    .rw[aI,bJ,S.ok.v4];lia
    obtain⟨y,hy,rfl⟩:=ws9.mp j;refine q y _ t' (S4.setHand c) ?_ (by lia) ?_
    .exact(Y.trans<|(FrS.new hl).trans<|FrS.new hp).put' (by trivial)
    .exact(N.trans<|(FrS.new hl).trans<|FrS.new hp).put' (by trivial)
  refine⟨_,rfl,bT _,λpe L=>?_⟩;have B:=S1.fr0<|FrS.new (S:=[]) (o:=.lst []) L;have M:n≠pe:=bA J L;exists n,pe,_,rfl,rfl,M,SqL.of (by rw[aC M];exact J),SqL.of zb1,_,rfl;have Y:FrS (Ms hd en WA) H (upd H1 pe<|.lst []):=(f1.trans<|FrS.new L).mono (by trivial);have N:FrS [hd] H (upd H1 pe<|.lst []):=(f1.trans<|FrS.new L).mono (by trivial);cases ss with
  | nil=>exact a1 _ t B Y N (by lia)
  | cons y ys=>
   obtain⟨d,m,C⟩:=B.hand;refine⟨_,rfl,hd,d,m,t,r,4,rfl,C,by lia,by decide,by decide,λx d' m' W x0 x1 c e=>⟨_,_,rfl,rfl,_,rfl,?_⟩⟩;have G:=B.setHand (r':=r) c;have f3:=Y.put' (a:=hd) (o:=hl d' m' W r) (by trivial);have af:=N.put' (a:=hd) (o:=hl d' m' W r) (by trivial);have ae:n≠hd:=hV (ss:=y::ys) (by rw[aC M];exact J) C;refine bB (λc=>?_) λc=>?_
   .obtain⟨d,m,C⟩:=G.hand;refine⟨_,rfl,_,rfl,hd,n,d,m,W,r,_,rfl,C,by lia,ae,SqL.of (by rw[aC ae,aC M];exact J),by simp,by rw[aI];lia,λx d' m' t' j c e=>?_⟩;obtain⟨y,hy,rfl⟩:=ws9.mp j;exact q y _ t' (G.setHand c) (f3.put'<|by trivial) (by lia) (af.put'<|by trivial)
   .exact a1 _ W G f3 af e
def Tup(H H':Hp):Prop:=∀b xs,H b=some (.tup xs)->H' b=some (.tup xs)
def Tup.trans{A B C:Hp}(f:Tup A B)(g:Tup B C):Tup A C:=λb xs h=>g b xs<|f b xs h
def Tup.of0(f:FrS [] H H'):Tup H H':=λb _ h=>f b _ aZ h
def Tup.new(hp:H p=none):Tup H (upd H p o):=λb xs h=>by
 rw[aC<|bA h hp];exact h
theorem Tup.lst(hp:H p=some (.lst ys)):Tup H (upd H p o):=λb xs h=>by
 rw[aC λz=>by rw[z,hp]at h;cases h];exact h
theorem FrS.tup(f:FrS M H H')(a:∀b∈M,∀xs,H b≠some (.tup xs)):Tup H H':=λb xs h=>f b _ (λz=>a b z xs h) h
def Sit.notup{A:WA}(S:Sit H hd en wd A D t r):∀b∈Ms hd en A,∀xs,H b≠some (.tup xs):=by
 obtain⟨⟨d,m,h1,q⟩,⟨n,f,i⟩,⟨l,e,o⟩,⟨s,h,j⟩,w,nd,u⟩:=S;intro b a xs;simp only[Ms,wr5,aZ,cY]at a;rcases a with rfl | rfl | rfl | rfl
 .rw[h1];intro z;cases z
 .rw[f];intro z;cases z
 .rw[e];intro z;cases z
 .rw[h];intro z;cases z
theorem Sit.tup{A:WA}(S:Sit H hd en wd A D t r)(f:FrS (Ms hd en A) H H'):Tup H H':=FrS.tup f S.notup
inductive Rw | make (x k:Str) | copy (x y:Str) | put (x f y:Str) | take (x y f:Str) | say (w:Str) | bring (k:Str)
def Rw.vs:Rw->List V
 | .make x k=>[.str "make",.str x,.str k]
 | .copy x y=>[.str "copy",.str x,.str y]
 | .put x f y=>[.str "put",.str x,.str f,.str y]
 | .take x y f=>[.str "take",.str x,.str y,.str f]
 | .say w=>[.str "say",.str w]
 | .bring k=>[.str "bring",.str k]
inductive PlainR(Z:Str->Option Str->Prop)(H:Hp)(a:Addr):Prop
 | mk(r:Rw)(h:H a=some (.tup r.vs))(b:∀k,r=.bring k->Z k none):PlainR Z H a
inductive CallR(Z:Str->Option Str->Prop)(H:Hp)(a:Addr):Prop
 | mk(x y k d:Str)(g:Addr)(ss:List Str)(h:H a=some (.tup [.str "call",.str x,.str y,.str k,.str d,.ref g]))(hg:H g=some (.tup<|ss.map V.str))(hl:↑ss<=1000)(hz:Z k (some d)):CallR Z H a
def PlainR.keep(h:PlainR Z H a)(f:Tup H H'):PlainR Z H' a:=by
 obtain⟨r,h,b⟩:=h;exact⟨r,f _ _ h,b⟩
def CallR.keep(h:CallR Z H a)(f:Tup H H'):CallR Z H' a:=by
 obtain⟨x,y,k,d,g,ss,h,b,hl,hz⟩:=h;exact⟨x,y,k,d,g,ss,f _ _ h,f _ _ b,hl,hz⟩
inductive DpG(H:Hp)(pv gv:V):Prop
 | mk(pt:Addr)(ps:List Str)(g:Option Str)(h1:pv=.ref pt)(h2:H pt=some (.tup<|ps.map V.str))(h3:gv=aS g)(h4:↑ps<=1000):DpG H pv gv
def DpG.keep{u v:V}(h:DpG H u v)(f:Tup H H'):DpG H' u v:=by
 obtain⟨pt,ps,g,h1,h2,a,b⟩:=h;exact⟨pt,ps,g,h1,f _ _ h2,a,b⟩
def wU(Z:Str->Option Str->Prop)(H:Hp)(a:Addr):Prop:=PlainR Z H a\/CallR Z H a
inductive Fl(Z:Str->Option Str->Prop)(H:Hp):Nat->List Addr->List Addr->Prop
 | nil {n:Nat}:Fl Z H n [] []
 | one {n:Nat} {a:Addr} {rs fs:List Addr} (h:wU Z H a) (t:Fl Z H n rs fs):Fl Z H n (a::rs) (a::fs)
 | again {n:Nat} {a l:Addr} {rs1 fs1 rs fs:List Addr} (h:H a=some (.tup [.str "again",.ref l])) (hl:H l=some (.tup<|rs1.map V.ref)) (s:Fl Z H n rs1 fs1) (t:Fl Z H (n+1) rs fs):Fl Z H (n+1) (a::rs) (a::(fs1++fs))
 | either {n:Nat} {a l1 l2:Addr} {rs1 fs1 rs2 fs2 rs fs:List Addr} (h:H a=some (.tup [.str "either",.ref l1,.ref l2])) (h1:H l1=some (.tup<|rs1.map V.ref)) (h2:H l2=some (.tup<|rs2.map V.ref)) (s1:Fl Z H n rs1 fs1) (s2:Fl Z H n rs2 fs2) (t:Fl Z H (n+1) rs fs):Fl Z H (n+1) (a::rs) (a::(fs1++(fs2++fs)))
theorem Fl.keep(h:Fl Z H n rs fs)(f:Tup H H'):Fl Z H' n rs fs:=by
 induction h with
 | nil=>exact .nil
 | one h _ ih=>exact .one (h.imp (·.keep f) (·.keep f)) ih
 | again h hl _ _ i1 i2=>exact .again (f _ _ h) (f _ _ hl) i1 i2
 | either h h1 h2 _ _ _ i1 i2 i3=>exact .either (f _ _ h) (f _ _ h1) (f _ _ h2) i1 i2 i3
def Fl.app(h:Fl Z H n rs fs)(g:Fl Z H n rs' fs'):Fl Z H n (rs++rs') (fs++fs'):=by
 induction h with
 | nil=>exact g
 | one h _ ih=>exact .one h<|ih g
 | again h hl s _ i1 i2=>
  have:=Fl.again h hl s<|i2 g;rw[<-jG]at this;exact this
 | either h h1 h2 s1 s2 _ i1 i2 i3=>
  have:=Fl.either h h1 h2 s1 s2<|i3 g;simpa [jG]using this
inductive Lots(Z:Str->Option Str->Prop)(H:Hp)(n:Nat):List Addr->List Addr->Prop
 | nil:Lots Z H n [] []
 | snoc {ls fs:List Addr} {l:Addr} {rs f1:List Addr} (h:Lots Z H n ls fs) (hl:H l=some (.tup<|rs.map V.ref)) (s:Fl Z H n rs f1):Lots Z H n (ls++[l]) (fs++f1)
theorem Lots.keep(h:Lots Z H n ls fs)(f:Tup H H'):Lots Z H' n ls fs:=by
 induction h with
 | nil=>exact .nil
 | snoc _ hl s ih=>exact ih.snoc (f _ _ hl)<|s.keep f
def Lots.zero(h:Lots Z H n ls fs)(e:↑ls=0):ls=[]/\fs=[]:=by
 cases h with
 | nil=>exact⟨rfl,rfl⟩
 | snoc h hl s=>rw[bJ,dQ]at e;lia
def Lots.one(h:Lots Z H n ls fs)(e:↑ls=1):∃l rs,ls=[l]/\H l=some (.tup<|rs.map V.ref)/\Fl Z H n rs fs:=by
 cases h with
 | nil=>cases e
 | snoc h hl s=>
  rw[bJ,dQ]at e;obtain⟨rfl,rfl⟩:=h.zero (by lia);exact⟨_,_,rfl,hl,s⟩
def Lots.two(h:Lots Z H n ls fs)(e:↑ls=2):∃f d f1 l2 rs2 f2,ls=[f,l2]/\fs=f1++f2/\H f=some (.tup<|d.map V.ref)/\Fl Z H n d f1/\H l2=some (.tup<|rs2.map V.ref)/\Fl Z H n rs2 f2:=by
 cases h with
 | nil=>cases e
 | snoc h hl s=>
  rw[bJ,dQ]at e;obtain⟨f,d,rfl,a,b⟩:=h.one (by lia);exact⟨f,d,_,_,_,_,rfl,rfl,a,b,hl,s⟩
def Lots.row{w:Str}(h:Lots Z H n ls fs)(d:H a=some (.tup<|.str w::ls.map V.ref))(e:↑ls=1/\w="again"\/↑ls=2/\w="either"):Fl Z H (n+1) [a] (a::fs):=by
 rcases e with ⟨e,rfl⟩ | ⟨e,rfl⟩
 .obtain⟨l,rs,rfl,b,s⟩:=h.one e;have:=Fl.again (rs:=[]) (fs:=[]) d b s .nil;rwa [fO]at this
 .obtain⟨x,m,r,u,q,o,rfl,rfl,f,i,j,s2⟩:=h.two e;have:=Fl.either (rs:=[]) (fs:=[]) d f j i s2 .nil;rwa [fO]at this
inductive mZ(vs:List V)(H:Hp)(Q:VK):Prop
 | mk(hd en wd:Addr)(A:WA)(D:WD)(t r:Int)(h1:vs=[.ref hd,.ref wd,.ref en])(h2:Sit H hd en wd A D t r)(h3:t+1<1000000)(h4:∀(x:Str)(H':Hp)(t':Int),x∈D.U->Sit H' hd en wd A D t' r->FrS (Ms hd en A) H H'->t'<=t+1->FrS [hd] H H'->Q (.str x) H'):mZ  vs H Q
def pM:Sp:=λvs H Q _=>mZ  vs H Q
def AK:bY qA qA (bP pU):=cE
def rR(F:Fun K "_law_target" "_law_target" pU f fd)(O:aR P w K mg base k "_law_of" qC (cR K)):
  aQ P w K mg base bQ (k+1) f fd qA pM:=by
 refine F.ok AK (λvs H Q E h=>?_) λac A outer s H vs Q E hr h=>?_
 .obtain⟨hd,en,wd,A,D,t,r,rfl,_⟩:=h;rfl
 obtain⟨hd,en,wd,WA,D,t,r,rfl,S,ht,q⟩:=h;have Z:=eU hr;have a8:(["_law_x",qW]:List Str).Nodup:=by rfl'
 exists _,aV<|bL<|bC O hr rfl<|aA (pv 0)<|aA (cB vC (cQ Z (pv 1) bR λ_ _=>rfl)<|PH<|jZ (N':=["_law_x",qW]) (src:=[none,some 1]) rfl fH (BB<|pv 2) (g:=cG 0) (λ_ _ _ _=>gL 0 a8) (λ_ _ _ _=>vI<|cA (show OpR _ _ (jK K false) from sD) (pv 0) (cQ Z (pv 1) bR λ_ _=>rfl) rfl) λ_ _ _ _=>pv 0) aE
 ac_rfl
 obtain⟨B,M,X⟩:=S.env;have hU:D.U.length=9:=by unfold WD.U;rw[cL,bJ,S.ok.v4,S.ok.p4]
 have aa:=X.len;obtain⟨us,eu,a9,a7⟩:=X.strs;exists _,rfl,_,rfl,wd,_,rfl,S.w.g.2.2.2.2.2.1,en,B,M;refine⟨_,rfl,en,B,rfl,M,λo G l=>?_⟩;have Y:G≠en:=λz=>by rw[z,zb1]at l;cases l
 have ab:H G=none:=by rw[aC Y]at l;exact l
 have ad:wd≠en:=λz=>by obtain⟨kvs,⟨hn,_⟩,_⟩:=S.w.k;exact hn (by rw[z];simp)
 refine BG (xs:=B.map λp=>kV p.1) (λi σ j=>(∃x,σ=[x,some<|.ref wd])/\FrS [] (upd H en<|.frz o<|.dK B) j/\∃ss:List Str,↑ss<=i/\(∀x∈ss,x∈D.U)/\j G=some (.lst<|ss.map V.str)) ⟨⟨_,rfl⟩,(FrS.refl).put l,[],by simp,by simp,zb1⟩ ?_ ?_ ?_
 .rintro i σ j hi ⟨_,fr,_⟩;exact fr _ _ (by trivial) zb1
 .rintro i x σ j a ⟨⟨x0,rfl⟩,fr,ss,hs,I,J⟩;rw[eu]at a;obtain⟨hi,_⟩:=wr1.mp a;rw[aI]at hi;rw[bZ,bH hi]at a;cases a;have a5:FrS (Ms hd en WA) H j:=λb u n e=>fr b u (by trivial) (by rw[aC λz=>n<|by rw[z];simp];exact e)
  have T:=S.w.keep a5;exists _,rfl,_,rfl,wd,_,rfl,T.g.2.2.2.2.2.2.1,WA.params,_,rfl,.inl<|SqL.of T.params.2,rfl,jS _,_,rfl;refine bB (λc=>?_) λc=>?_
  .exists _,rfl,_,J,by rw[aI];exact bO (by lia),⟨_,rfl⟩,fr.put l,ss++[us[i]],?_,?_
   .rw[bJ,dQ];lia
   .intro x a;rcases wt2.mp a with a | a
    .exact I x a
    .rw[wr8.mp a];exact a7 _<|gW hi
   .rw[zb1,bX];rfl
  .exact⟨⟨_,rfl⟩,fr,ss,by lia,I,J⟩
 .rintro σ j ⟨_,fr,ss,hs,I,J⟩;rw[aI]at hs;exists o,fr _ _ (by trivial) zb1;have N:FrS [] H (upd j en<|.dK B):=FrS.thaw M fr;have S1:=S.fr0 N;have a6:upd j en (.dK B) G=some (.lst<|ss.map V.str):=by rw[aC Y];exact J
  refine⟨WA.vars,G,_,_,rfl,rfl,S1.w.vars.2,a6,?_,λp hp=>?_⟩
  .rw[aI,aI,S.ok.v4];exact dM (bO<|by lia)
  .have L:=S1.fr0<|FrS.new (S:=[]) (o:=.lst<|D.vars.map V.str++ss.map V.str) hp;rw[<-bX]at L ⊢;obtain⟨d,m,W⟩:=L.hand;refine⟨hd,p,d,m,t,r,_,rfl,W,by lia,hV (ss:=D.vars++ss) zb1 W,SqL.of zb1,?_,?_,λx d' m' t' a c e=>?_⟩
   .intro z;have:=cM List.length z;rw[aI,bJ,S.ok.v4,iD]at this;lia
   .rw[aI,bJ,S.ok.v4];lia
   obtain⟨y,C,rfl⟩:=ws9.mp a;refine q y _ t' ?_ (L.setHand c) ?_ (by lia) ?_
   .rcases wt2.mp C with C | C
    .unfold WD.U;simp[C]
    .exact I y C
   .exact((N.trans<|FrS.new hp).mono<|by trivial).put' (by trivial)
   .exact((N.trans<|FrS.new hp).mono<|by trivial).put' (by trivial)
def IO{H1:Hp}{tp:Addr}{ts:List Addr}{tr:Tr}{b:Addr}(o:H1 tp=some (.lst<|ts.map V.ref))(hl:↑ts=↑tr)(n:∀(j:Nat) t x,ts[j]?=some t->tr[j]?=some x->H1 t=some (.tup [.str x.1,aS x.2]))(m:H1 b=none)(u:↑tr<=1000)
  {Q:Hp->Prop} (q:∀H',FrS [] H1 H'->H' b=some (.lst<|(tr.map (·.1)).map V.str)->Q H'):nA (rE K tp) (eN K 2<|eJ (cG 0)<|eJ (cG 1) eK) lS (aL 0) b [none,none] (upd H1 b<|.lst []) Q:=by
 refine uH (xs:=ts.map V.ref) (λi σ a=>(∃x y,σ=[x,y])/\FrS [] H1 a/\a b=some (.lst<|((tr.take i).map (·.1)).map V.str)) ⟨⟨_,_,rfl⟩,(FrS.refl).put m,zb1⟩ ?_ ?_ ?_
 .rintro i σ a hi ⟨_,fr,_⟩;exact SqL.of<|fr _ _ (by trivial) o
 .rintro i x σ a l ⟨⟨r,s,rfl⟩,fr,d⟩;rw[bZ]at l;obtain⟨t,f,rfl⟩:=wt0.mp l;obtain⟨hi,_⟩:=wr1.mp f;have h:tr[i]?=some tr[i]:=bH (by lia);have e:=n i t _ f h;exists t,_,rfl,SqT.of<|fr _ _ (by trivial) e,rfl,_,_,rfl,_,_,rfl,rfl;exists _,rfl,_,d,?_,⟨_,_,rfl⟩,fr.put m
  .rw[aI,aI,eS];exact bO (by lia)
  .rw[zb1,fE,h,bX,bX];rfl
 .rintro σ a ⟨_,fr,d⟩;rw[eM<|by rw[aI];lia]at d;exact q a fr d
inductive LP(vs:List V)(H:Hp)(Q:VK):Prop
 | mk(hd en wd:Addr)(A:WA)(D:WD)(t r:Int)(h1:vs=[.ref hd,.ref wd,.ref en])(h2:Sit H hd en wd A D t r)(h3:t+3<1000000)(h4:∀(x:Addr)(H':Hp)(t':Int),PlainR (eG D) H' x->Sit H' hd en wd A D t' r->FrS (Ms hd en A) H H'->t'<=t+3->Q (.ref x) H'):LP  vs H Q
def BI:Sp:=λvs H Q _=>LP  vs H Q
abbrev yG:List Str:=[qH,qW,"_law_env","_law_names","_law_soon","_law_kind","_law_x"]
def ym8:bY yG qA (bP HE):=cE
def YM{k:Nat}(F:Fun K "_law_make" "_law_make" HE f fd)(T:aR P w K mg base k "_law_take" qB fZ)(O:aR P w K mg base k "_law_of" qC (cR K))(G:aR P w K mg base k "_law_target" qA pM):
  aQ P w K mg base bQ (k+1) f fd qA BI:=by
 refine F.ok ym8 (λvs H Q E h=>?_) λaz A outer s H vs Q E hr h=>?_
 .obtain⟨hd,en,wd,A,D,t,r,rfl,_⟩:=h;rfl
 obtain⟨hd,en,wd,WA,D,t,r,rfl,S,ht,q⟩:=h;have hu:=eU hr;have al:(["_law_name","_law_elder"]:List Str).Nodup:=by rfl'
 have aq:(["_law_name",qW]:List Str).Nodup:=by rfl'
 exists _,aG (tL (i:=3) (N':=["_law_name","_law_elder"]) (src:=[none,none]) rfl ym8.nd rfl rfl fH (iF<|cQ hu (pv 1) bR λ_ _=>rfl) (g:=eN K 2<|eJ (cG 0)<|eJ (cG 1) eK) (λ_ _ _ _=>dS (n:=2) rfl<|bI (gL 0 al)<|bI (gL 1 al) dV) (λ_ _ _ _=>gT) λ_ _ _ _=>pv 0)
  (aG (tL (i:=4) (N':=["_law_name",qW]) (src:=[none,some 1]) rfl ym8.nd rfl rfl fH (iF<|pv 3) (g:=cG 0) (λ_ _ _ _=>gL 0 aq) (λ_ _ _ _=>vI<|cA (show OpR _ _ (jK K true) from CY) (pv 0) (cQ hu (pv 1) bR λ_ _=>rfl) rfl) λ_ _ _ _=>pv 0)<|aG (sL 5 ym8.nd<|bC O hr rfl<|aA (pv 0)<|aA (eI (cW<|aA (pv 4)<|aA (pv 4)<|aA (pv 3) aE)<|bC T hr rfl<|aA (pv 0)<|aA aN aE) aE)<|aG (sL 6 ym8.nd<|bC G hr rfl<|aA (pv 0)<|aA (pv 1)<|aA (pv 2) aE)<|aG (hB hu (pv 2) (pv 6) (pv 5) rfl)<|aV<|bL<|cX<|aA bR<|aA (pv 6)<|aA (pv 5) aE)
  
 ac_rfl
 have hU:D.U.length=9:=by unfold WD.U;rw[cL,bJ,S.ok.v4,S.ok.p4]
 have b0:=S.ok.l12;obtain⟨ts,t1,t2,t3⟩:=S.w.tree;refine⟨_,rfl,wd,_,rfl,S.w.g.1,WA.tree,rfl,⟨_,SqL.of t1.2⟩,λu ay=>?_⟩;refine IO (tr:=D.tr) t1.2 t2 (λj t x a b=>(t3 j t x a b).2) ay (by lia) λH1 f1 Y=>?_
 have S1:=S.fr0 f1;refine⟨_,rfl,u,rfl,⟨_,SqL.of Y⟩,λl a7=>?_⟩;have b1:u≠l:=bA Y a7;refine uH (xs:=(D.tr.map (·.1)).map V.str) (λi σ W=>(∃x,σ=[x,some<|.ref wd])/\FrS [] H1 W/\W l=some (.lst<|(((D.tr.map (·.1)).take i).filter λx=>decide<|x∉D.late).map V.str)) ⟨⟨_,rfl⟩,(FrS.refl).put a7,zb1⟩ ?_ ?_ ?_
 .rintro i σ W hi ⟨_,fr,_⟩;exact SqL.of<|fr _ _ (by trivial) Y
 .rintro i x σ W B ⟨⟨x0,rfl⟩,fr,ah⟩;obtain⟨hi,_⟩:=wr1.mp B;rw[aI]at hi;rw[bZ,bH hi]at B;cases B;have N:=S1.fr0 fr;have ar:=hi;rw[aI]at ar;have Z:↑(((D.tr.map (·.1)).take i).filter λx=>decide<|x∉D.late)<=12:=by
   have:=BQ (λx=>decide<|x∉D.late)<|(D.tr.map (·.1)).take i;rw[eS,aI]at this;lia
  exists _,rfl,_,rfl,wd,_,rfl,N.w.g.2.1,WA.late,_,rfl,.inl<|SqL.of N.w.late.2,rfl,jS _,_,rfl;have ef:((D.tr.map (·.1)).take<|i+1).filter (λx=>decide<|x∉D.late)=((D.tr.map (·.1)).take i).filter (λx=>decide<|x∉D.late)++[(D.tr.map (·.1))[i]].filter (λx=>decide<|x∉D.late):=by
   rw[fE,bH hi,List.filter_append];rfl
  rw[kU];refine bB (λc0=>?_) λc0=>?_
  rotate_left
  .have c:(D.tr.map (·.1))[i]∈D.late:=by simpa using c0
   exists ⟨_,rfl⟩,fr;rw[ef,List.filter_cons_of_neg (by simpa using c),List.filter_nil,fO];exact ah
  .have c:(D.tr.map (·.1))[i]∉D.late:=by simpa using c0
   exists _,rfl,_,ah,by rw[aI];exact bO (by lia),⟨_,rfl⟩,fr.put a7;rw[zb1,ef,List.filter_cons_of_pos (by simpa using c),List.filter_nil,bX];rfl
 rintro σ H2 ⟨_,f2,J⟩;rw[aI,eM<|aY _]at J;have N:=S1.fr0 f2;have aa:=f2 _ _ (by trivial) Y;obtain⟨x1,aj,a8⟩:=S.ok.soon;have a0:((D.tr.map (·.1)).filter λx=>decide<|x∉D.late)≠[]:=λz=>by
  have:x1∈((D.tr.map (·.1)).filter λx=>decide<|x∉D.late):=vm1.mpr ⟨aj,by simp[a8]⟩;rw[z]at this;cases this
 have ae:D.tr.map (·.1)≠[]:=λz=>by
  have:x1∈D.tr.map (·.1):=aj;rw[z]at this;cases this
 have Z:↑((D.tr.map (·.1)).filter λx=>decide<|x∉D.late)<=12:=by
  have:=BQ (λx=>decide<|x∉D.late)<|D.tr.map (·.1);rw[aI]at this;lia
 generalize hss:((D.tr.map (·.1)).filter λx=>decide<|x∉D.late)=ss at J a0 Z;have ag:∀x∈ss,x∈D.names:=λx B=>by rw[<-hss]at B;exact(vm1.mp B).1
 have a9:FrS (Ms hd en WA) H H2:=(f1.trans f2).mono (by trivial);refine⟨_,rfl,_,rfl,_,rfl,_,rfl,dJ rfl,λI X=>?_⟩;have S3:=N.fr0<|FrS.new (S:=[]) (o:=.lst [.ref l,.ref l,.ref u]) X;obtain⟨d,m,C⟩:=S3.hand;refine⟨_,rfl,hd,d,m,t,r,3,rfl,C,by lia,by decide,by decide,λx d' m' t4 x0 x1 c e=>?_⟩;have S4:=S3.setHand (r':=r) c;have M:I≠hd:=λz=>by have:=C.1;rw[z]at *;rw[zb1]at this;cases this
 have ai:l≠hd:=λz=>by have L:=C.1;rw[aC<|bW M]at L;exact hV J ⟨L,C.2⟩ z
 have au:u≠hd:=λz=>by have L:=C.1;rw[aC<|bW M]at L;exact hV aa ⟨L,C.2⟩ z
 have ak:l≠I:=bA J X;have an:u≠I:=bA aa X;have ab:=(a9.trans<|FrS.new (o:=.lst [.ref l,.ref l,.ref u]) X).put' (a:=hd) (o:=hl d' m' t4 r) (by trivial);have go:∀(pz:Addr)(zs:List Str),pz≠hd->pz≠I->H2 pz=some (.lst<|zs.map V.str)->zs≠[]->↑zs<=12->(∀x∈zs,x∈D.names)->
   cR K [.ref hd,.ref pz] (upd (upd H2 I<|.lst [.ref l,.ref l,.ref u]) hd<|hl d' m' t4 r) (λv Hv=>eZ (fN (gE pM [] E0<|bG (aL 0)<|bG (aL 1)<|bG (aL 2) bK)<|cG 6) (eZ (oE (aL 2) (aL 6)<|aL 5)<|gO<|gR<|bG (tC<|.str "make")<|bG (aL 6)<|bG (aL 5) bK) ⟨λ_ H=>Q .non H,Q,λ_ _=>False,λ_ _=>False⟩ [some<|.ref hd,some<|.ref wd,some<|.ref en,some<|.ref u,some<|.ref l,some v,none] Hv) E0:=by
  intro pz zs h1 h2 hz as ax ap;obtain⟨d,m,C⟩:=S4.hand;refine⟨hd,pz,d,m,t4,r,_,rfl,C,by lia,h1,SqL.of (by rw[aC h1,aC h2];exact hz),by simpa using as,by rw[aI];lia,λy d5 m5 t5 hy c5 e5=>?_⟩;obtain⟨z,av,rfl⟩:=ws9.mp hy;have S5:=S4.setHand (r':=r) c5;have ac:=ab.put' (a:=hd) (o:=hl d5 m5 t5 r) (by trivial);refine⟨_,rfl,_,rfl,_,rfl,hd,en,wd,WA,D,t5,r,rfl,S5,by lia,λx6 H6 t6 ao S6 f6 b2 _=>?_⟩;obtain⟨kv,aw,hk⟩:=S6.env;exists _,rfl,_,rfl,_,rfl,en,_,rfl,DPut.k (k:=(Sum.inr x6:aJ)) aw<|bO (by have:=hk.len;lia);have S7:=S6.setEnv<|hk.put ao<|.inr ⟨z,ap z av,rfl⟩;have ad:=(ac.trans f6).put' (a:=en) (o:=.dK<|aO kv (Sum.inr x6)<|V.str z) (by trivial);refine⟨_,rfl,_,rfl,dJ rfl,λpr af=>?_⟩;exact q pr _ t6 ⟨.make _ _,zb1,λ_ e=>nomatch e⟩ (S7.fr0<|FrS.new af) (ad.trans<|FrS.new af) (by lia)
 have am:x=0\/x=1\/x=2:=by lia
 rcases am with rfl | rfl | rfl
 .exact⟨I,_,_,.ref l,rfl,rfl,SqL.of (by rw[aC M];exact zb1),rfl,go l ss ai ak J a0 Z ag⟩
 .exact⟨I,_,_,.ref l,rfl,rfl,SqL.of (by rw[aC M];exact zb1),rfl,go l ss ai ak J a0 Z ag⟩
 .exact⟨I,_,_,.ref u,rfl,rfl,SqL.of (by rw[aC M];exact zb1),rfl,go u D.names au an aa ae (by unfold WD.names;rw[aI];lia) λx B=>B⟩
abbrev KL:Stmt:=top 60
abbrev IS:Stmt:=top 62
inductive NV(vs:List V)(H:Hp)(Q:VK):Prop
 | mk(hd en wd:Addr)(A:WA)(D:WD)(t r:Int)(ab dd:Str)(h1:vs=[.ref hd,.ref wd,.ref en,.str ab,.str dd])(h2:Sit H hd en wd A D t r)(h3:t+12<1000000)(h4:ab∈D.names)(h5:dd∈D.deeds)(h6:∀(x:Addr)(ss:List Str)(H':Hp)(t':Int),H' x=some (.tup<|ss.map V.str)->↑ss<=1000->Sit H' hd en wd A D t' r->FrS (Ms hd en A) H H'->t'<=t+12->Q (.ref x) H'):NV  vs H Q
def JS:Sp:=λvs H Q _=>NV  vs H Q
inductive MQ(vs:List V)(H:Hp)(Q:VK):Prop
 | mk(hd en wd:Addr)(A:WA)(D:WD)(t r:Int)(h1:vs=[.ref hd,.ref wd,.ref en])(h2:Sit H hd en wd A D t r)(h3:t+7<1000000)(h4:∀(x:Addr)(H':Hp)(t':Int),PlainR (eG D) H' x->Sit H' hd en wd A D t' r->FrS (Ms hd en A) H H'->t'<=t+7->Q (.ref x) H'):MQ  vs H Q
def IF:Sp:=λvs H Q _=>MQ  vs H Q
def Sit.own{A:WA}(S:Sit H hd en wd A D t r)(e:Sit H6 hd en wd A D t6 r6)(f:FrS (Ms hd en A) H H6)(a:H pa=none):Sit (upd H6 pa o) hd en wd A D t6 r6/\FrS (Ms hd en A) H (upd H6 pa o):=by
 have n:pa∉Ms hd en A:=S.notin a;have u:∀b∈Ms hd en A,upd H6 pa o b=H6 b:=λb C=>aC (λz=>n<|by rw[<-z];exact C)
 have fr:FrS (Ms hd en A) H (upd H6 pa o):=f.put a;obtain⟨⟨d,m,h1,h⟩,⟨l,E,x⟩,⟨i,B,q⟩,⟨s,G,j⟩,w,nd,ok⟩:=e;exact⟨⟨⟨d,m,(u _<|by trivial).trans h1,h⟩,⟨l,(u _<|by trivial).trans E,x⟩,⟨i,(u _<|by trivial).trans B,q⟩,⟨s,(u _<|by trivial).trans G,j⟩,S.w.keep fr,nd,ok⟩,fr⟩
abbrev yM:List Str:=[qH,qW,"_law_env","_law_above","_law_deed_here","_law_args_here","_law_kind","_law_some"]
def ys4:bY yM qD (bP KL):=cE
def Br(F:Fun K "_law_args" "_law_args" KL f fd)(T:aR P w K mg base k "_law_take" qB fZ)(O:aR P w K mg base k "_law_of" qC (cR K))(V':aR P w K mg base k "_law_variable" qA nC)(L:aR P w K mg base k "_law_line" qG xZ)(av:mg "tuple"=none):
  aQ P w K mg base bQ (k+1) f fd qD JS:=by
 refine F.ok ys4 (λvs H Q E h=>?_) λb7 A outer s H vs Q E hr h=>?_
 .obtain⟨hd,en,wd,A,D,t,r,ab,J,rfl,_⟩:=h;rfl
 obtain⟨hd,en,wd,WA,D,t,r,ab,J,rfl,S,ht,b2,b1,q⟩:=h;have Y:=eU hr;have ax:(["_law_x","_law_env","_law_kind",qW]:List Str).Nodup:=by rfl'
 exists _,aG (sL 5 ys4.nd<|cW aE)
  (aG (eC dW rfl (iF<|cQ Y (cQ Y (pv 1) bR λ_ _=>rfl) (cX<|aA (cQ Y (cQ Y (pv 1) bR λ_ _=>rfl) (pv 3) λ_ _=>rfl)<|aA (pv 4) aE) λ_ _=>rfl) (uW (i:=6) ys4.nd rfl<|Or.inr rfl)<|aG (OE<|tL (i:=7) (N':=["_law_x","_law_env","_law_kind",qW]) (src:=[none,some 2,some 6,some 1]) rfl ys4.nd rfl rfl fH (BB<|pv 2) (g:=cG 0) (λ_ _ _ _=>gL 0 ax) (λ_ _ _ _=>vI<|PW.pt<|jD (jI<|uR<|cQ Y (pv 1) (pv 0) λ_ _=>rfl)<|kR<|cA (show OpR _ _ (jK K false) from sD) (pv 2) (bC L hr rfl<|aA (pv 3)<|aA (cQ Y (pv 1) (pv 0) λ_ _=>rfl) aE) rfl) λ_ _ _ _=>pv 0)<|aV<|cK (PW.pt<|jD (cA (EY<|vG Y) (pv 7) (cW aE)<|cF _)<|kR<|cA kE (bC T hr rfl<|aA (pv 0)<|aA aN aE) aN<|cF _) (aV<|dZ<|fI eX fQ fV fL (pv 5)<|aA (bC O hr rfl<|aA (pv 0)<|aA (pv 7) aE) aE)<|aV<|dZ<|fI eX fQ fV fL (pv 5)<|aA (bC V' hr rfl<|aA (pv 0)<|aA (pv 1)<|aA (pv 2) aE) aE)<|aV<|bL<|fG iB rfl av (by rfl')<|aA (pv 5) aE)
 ac_rfl
 have hU:D.U.length=9:=by unfold WD.U;rw[cL,bJ,S.ok.v4,S.ok.p4]
 refine⟨bT _,λj a3=>?_⟩;have Z:=S.fr0<|FrS.new (S:=[]) (o:=.lst []) a3;obtain⟨rt,wp,ws,e1,e2,e3,e4,e5⟩:=S.w.wl ab b2 J b1;refine⟨_,rfl,wd,_,rfl,Z.w.g.2.2.2.1,_,rfl,wd,_,rfl,Z.w.g.2.2.2.2.2.2.2.2.2.2,_,rfl,WA.roots,_,rfl,.inl ⟨_,Sum.inr ab,.inl Z.w.roots.2,rfl,e1.symm⟩,_,rfl,dJ rfl,λpk a9=>?_⟩;have S2:=Z.fr0<|FrS.new (S:=[]) (o:=.tup [V.str rt,V.str J]) a9;have am:=e3.keep<|(FrS.new (o:=.lst []) a3).trans<|FrS.new (o:=.tup [V.str rt,V.str J]) a9;have a8:upd (upd H j<|.lst []) pk (.tup [V.str rt,V.str J]) j=some (.lst []):=by rw[aC<|bA (o:=.lst []) zb1 a9];exact zb1
 exists WA.wants,.ref wp,rfl,.inr ⟨_,[Sum.inr rt,Sum.inr J],pk,.inl S2.w.wants.2,rfl,zb1,e2.symm⟩,wp,rfl,⟨_,SqL.of am.2⟩;have ao:FrS (Ms hd en WA) H (upd (upd H j<|.lst []) pk<|.tup [V.str rt,V.str J]):=(FrS.new a3).trans<|FrS.new a9;generalize upd (upd H j<|.lst []) pk (.tup [V.str rt,V.str J])=H2 at S2 am a8 ao;have a6:j∉Ms hd en WA:=S.notin a3;refine tU (xs:=ws.map V.str) (λi σ B=>∃(kx sx:Option V)(tx:Int)(xs:List Str),σ=[some<|.ref hd,some<|.ref wd,some<|.ref en,some<|.str ab,some<|.str J,some<|.ref j,kx,sx]/\Sit B hd en wd WA D tx r/\FrS (Ms hd en WA) H B/\tx<=t+3*i/\B j=some (.lst<|xs.map V.str)/\↑xs<=i) ⟨_,_,t,[],rfl,S2,ao,by lia,a8,by simp⟩ ?_ ?_ ?_
 .rintro i σ B hi ⟨_,_,_,_,_,_,fr,_⟩;exact SqL.of (e3.keep fr).2
 .rintro i x σ B G ⟨kx,sx,tx,xs,rfl,Sx,fr,ai,ac,aj⟩;obtain⟨hi,_⟩:=wr1.mp G;rw[aI]at hi;rw[bZ,bH hi]at G;cases G;obtain⟨C,af,hk⟩:=Sx.env;have b5:=hk.len;obtain⟨us,eu,b4,_⟩:=hk.strs;exists en,C,af;refine⟨_,rfl,en,C,rfl,af,λo I a2=>?_⟩;have an:I≠en:=λz=>by rw[z,zb1]at a2;cases a2
  have b6:B I=none:=by rw[aC an]at a2;exact a2
  refine BG (xs:=C.map λp=>kV p.1) (λM σ W=>(∃x,σ=[x,some<|.ref en,some<|.str ws[i],some<|.ref wd])/\FrS [] (upd B en<|.frz o<|.dK C) W/\∃ss:List Str,↑ss<=M/\W I=some (.lst<|ss.map V.str)) ⟨⟨_,rfl⟩,(FrS.refl).put a2,[],by simp,zb1⟩ ?_ ?_ ?_
  .rintro M σ W hi ⟨_,fr,_⟩;exact fr _ _ (by trivial) zb1
  .rintro M x σ W G ⟨⟨x0,rfl⟩,N,ss,hs,a7⟩;have ak:=G;rw[eu]at G;obtain⟨hi,_⟩:=wr1.mp G;rw[aI]at hi;rw[bZ,bH hi]at G;cases G;have az:(Sum.inr us[M]:aJ)∈C.map (·.1):=by
    rw[bZ]at ak;obtain⟨p,hp,e⟩:=wt0.mp ak;have:p.1=Sum.inr us[M]:=by
     obtain⟨y,_,ey⟩:=hk.ks p.1<|ws9.mpr ⟨p,dC hp,rfl⟩;rw[ey]at e ⊢;cases e;rfl
    exact ws9.mpr ⟨p,dC hp,this⟩
   obtain⟨v,hv⟩:∃v,aK C (Sum.inr us[M])=some v:=by
    cases z:aK C (Sum.inr us[M])with
    | some v=>exact⟨v,rfl⟩
    | none=>exact absurd az<|BR z
   have as:∀Hz,FrS [] (upd B en<|.frz o<|.dK C) Hz->DGet Hz en (.str us[M]) (some v):=λHz fz=>.inl ⟨C,Sum.inr us[M],.inr ⟨o,fz _ _ (by trivial) zb1⟩,rfl,hv.symm⟩
   exists _,rfl,_,rfl,en,v,rfl,as _ N,_,rfl;rcases hk.vs _ _ hv with rfl | ⟨n,hn,rfl⟩
   .show if (!decide (V.non=V.non))=true then _ else _
    rw[bD<|by trivial];exact⟨⟨_,rfl⟩,N,ss,by lia,a7⟩
   .show if (!decide (V.str n=V.non))=true then _ else _
    rw[bE<|by trivial];obtain⟨l,hl,aw,_⟩:=ID S.ok hn;have ay:FrS (Ms hd en WA) B W:=λb u n e=>N b u (by trivial) (by rw[aC λz=>n<|by rw[z];simp];exact e)
    refine⟨_,rfl,_,rfl,_,rfl,_,rfl,en,V.str n,rfl,as _ N,wd,_,WA,D,n,l,rfl,Sx.w.keep ay,S.ok,hl,λla Hz fz b3 b0=>?_⟩;have au:I≠la:=bA a7 b3;have aq:=fz _ _ (by trivial) a7;exists la,_,rfl,.inl<|SqL.of b0,rfl,jS _,_,rfl;refine bB (λc=>?_) λc=>?_
    .exists _,rfl,_,aq,by rw[aI];exact bO (by lia),⟨_,rfl⟩,(N.trans fz).put a2,ss++[us[M]],?_
     .rw[bJ,dQ];lia
     .rw[zb1,bX];rfl
    .exact⟨⟨_,rfl⟩,N.trans fz,ss,by lia,aq⟩
  .rintro σ W ⟨_,N,ss,hs,a7⟩;rw[aI]at hs;exists o,N _ _ (by trivial) zb1;have f1:FrS [] B (upd W en<|.dK C):=FrS.thaw af N;have Z:=Sx.fr0 f1;have ae:upd W en (.dK C) I=some (.lst<|ss.map V.str):=by rw[aC an];exact a7
   generalize upd W en (.dK C)=H3 at f1 Z ae;have a4:=f1 _ _ (by trivial) ac;refine⟨_,rfl,bT _,λpe aa=>?_⟩;have S4:=Z.fr0<|FrS.new (S:=[]) (o:=.lst []) aa;have ar:I≠pe:=bA ae aa;have a5:upd H3 pe (.lst []) j=some (.lst<|xs.map V.str):=by rw[aC<|bA a4 aa];exact a4
   have f4:FrS (Ms hd en WA) H (upd H3 pe<|.lst []):=fr.trans ((f1.trans<|FrS.new aa).mono<|by trivial);have ag:upd H3 pe (.lst []) I=some (.lst<|ss.map V.str):=by rw[aC ar];exact ae
   exists I,pe,_,rfl,rfl,ar,SqL.of ag,SqL.of zb1,_,rfl;have ah:∀(H5:Hp)(X:Int),Sit H5 hd en wd WA D X r->FrS (Ms hd en WA) H H5->X<=tx+1->H5 j=some (.lst<|xs.map V.str)->zE (uK K "list" uM (aL 5)<|bG (gE nC [] E0<|bG (aL 0)<|bG (aL 1)<|bG (aL 2) bK) bK)
     ⟨λσ B=>∃(kx sx:Option V)(tx:Int)(xs:List Str),σ=[some<|.ref hd,some<|.ref wd,some<|.ref en,some<|.str ab,some<|.str J,some<|.ref j,kx,sx]/\Sit B hd en wd WA D tx r/\FrS (Ms hd en WA) H B/\tx<=t+3*((i+1:Nat):Int)/\B j=some (.lst<|xs.map V.str)/\↑xs<=i+1,λ_ _=>False,λ_ _=>False,λ_ _=>False⟩ [some<|.ref hd,some<|.ref wd,some<|.ref en,some<|.str ab,some<|.str J,some<|.ref j,some<|.str ws[i],some<|.ref I] H5:=by
    intro H5 X S5 f5 b8 a0;refine⟨_,rfl,.inl ⟨rfl,_,SqL.of a0⟩,_,rfl,_,rfl,_,rfl,hd,en,wd,WA,D,X,r,rfl,S5,by lia,λx H6 t6 S6 f6 b9 _=>?_⟩;have ad:=f6 _ _ a6 a0;have S7:=Sit.own (o:=.lst<|xs.map V.str++[V.str x]) S S6 (f5.trans f6) a3;exact⟨j,_,_,rfl,rfl,ad,bO (by rw[aI];lia),_,_,t6,xs++[x],rfl,S7.1,S7.2,by lia,by rw[zb1,bX];rfl,by rw[bJ,dQ];lia⟩
   cases ss with
   | nil=>exact ah _ tx S4 f4 (by lia) a5
   | cons y ys=>
    obtain⟨d,m,hh⟩:=S4.hand;refine⟨_,rfl,hd,d,m,tx,r,4,rfl,hh,by lia,by decide,by decide,λx d' m' X x0 x1 c e=>⟨_,_,rfl,rfl,_,rfl,?_⟩⟩;have S5:=S4.setHand (r':=r) c;have f5:=f4.put' (a:=hd) (o:=hl d' m' X r) (by trivial);have ap:I≠hd:=hV (ss:=y::ys) ag hh;have al:j≠hd:=λz=>a6 (by rw[z];simp)
    have a0:upd (upd H3 pe<|.lst []) hd (hl d' m' X r) j=some (.lst<|xs.map V.str):=by rw[aC al];exact a5
    refine bB (λc=>?_) λc=>?_
    .obtain⟨d,m,hh⟩:=S5.hand;refine⟨_,rfl,.inl ⟨rfl,_,SqL.of a0⟩,_,rfl,_,rfl,hd,I,d,m,X,r,_,rfl,hh,by lia,ap,SqL.of (by rw[aC ap];exact ag),by simp,by rw[aI];lia,λx d' m' t' G c e=>?_⟩;obtain⟨x,_,rfl⟩:=ws9.mp G;have S7:=Sit.own (o:=.lst<|xs.map V.str++[V.str x]) S (S5.setHand (r':=r) c) (f5.put' (a:=hd) (o:=hl d' m' t' r)<|by trivial) a3;exact⟨j,_,_,rfl,rfl,by rw[aC al];exact a0,bO (by rw[aI];lia),_,_,t',xs++[x],rfl,S7.1,S7.2,by lia,by rw[zb1,bX];rfl,by rw[bJ,dQ];lia⟩
    .exact ah _ X S5 f5 e a0
 .rintro σ B ⟨kx,sx,tx,xs,rfl,Sx,fr,ai,ac,aj⟩;rw[aI]at ai aj;refine⟨_,rfl,j,_,rfl,.inl ⟨SqL.of ac,λl hl=>?_⟩⟩;exact q l xs _ tx zb1 (by lia) (Sx.fr0<|FrS.new hl) (fr.trans<|FrS.new hl) (by lia)
abbrev oS:List Str:=[qH,qW,"_law_env","_law_x","_law_y","_law_field_here","_law_z"]
def yg5:bY oS qA (bP IS):=cE
def XF(F:Fun K "_law_field" "_law_field" IS f fd)(T:aR P w K mg base k "_law_take" qB fZ)(O:aR P w K mg base k "_law_of" qC (cR K))(V':aR P w K mg base k "_law_variable" qA nC)(G:aR P w K mg base k "_law_target" qA pM):
  aQ P w K mg base bQ (k+1) f fd qA IF:=by
 refine F.ok yg5 (λvs H Q E h=>?_) λab A outer s H vs Q E hr h=>?_
 .obtain⟨hd,en,wd,A,D,t,r,rfl,_⟩:=h;rfl
 obtain⟨hd,en,wd,WA,D,t,r,rfl,S,ht,q⟩:=h;have b:=eU hr;exists _,aG (rK (i:=3) (j:=4) rfl yg5.nd rfl rfl (by decide) rfl rfl (aA (bC V' hr rfl<|aA (pv 0)<|aA (pv 1)<|aA (pv 2) aE)<|aA (bC V' hr rfl<|aA (pv 0)<|aA (pv 1)<|aA (pv 2) aE) aE) rfl)
  (aG (sL 5 yg5.nd<|bC O hr rfl<|aA (pv 0)<|aA (cQ b (pv 1) bR λ_ _=>rfl) aE)<|aG (cK (cA fK (bC T hr rfl<|aA (pv 0)<|aA aN aE) aN<|cF _) (aG (hB b (cQ b (pv 1) bR λ_ _=>rfl) (pv 5) (iT b (pv 2) (pv 4) ⟨rfl,rfl,rfl,rfl⟩) rfl)<|aV<|bL<|cX<|aA bR<|aA (pv 3)<|aA (pv 5)<|aA (pv 4) aE) cO)<|aG (sL 6 yg5.nd<|bC G hr rfl<|aA (pv 0)<|aA (pv 1)<|aA (pv 2) aE)<|aG (hB b (pv 2) (pv 6) (iT b (cQ b (pv 1) bR λ_ _=>rfl) (pv 5) ⟨rfl,rfl,rfl,rfl⟩) rfl)<|aV<|bL<|cX<|aA bR<|aA (pv 6)<|aA (pv 4)<|aA (pv 5) aE)
 ac_rfl
 have hU:D.U.length=9:=by unfold WD.U;rw[cL,bJ,S.ok.v4,S.ok.p4]
 have ad:=S.ok.f3;refine⟨_,rfl,_,rfl,_,rfl,hd,en,wd,WA,D,t,r,rfl,S,by lia,λx1 H1 t1 S1 f1 aa _=>?_⟩;refine⟨_,rfl,_,rfl,_,rfl,hd,en,wd,WA,D,t1,r,rfl,S1,by lia,λx2 H2 t2 u f2 ac _=>⟨_,_,rfl,?_⟩⟩;obtain⟨d,m,N⟩:=u.hand;refine⟨_,rfl,_,rfl,wd,_,rfl,u.w.g.2.2.2.2.2.2.2.1,hd,WA.fields,d,m,t2,r,_,rfl,N,by lia,hV u.w.fields.2 N,SqL.of u.w.fields.2,?_,by rw[aI];lia,λx d3 m3 t3 hx c3 e3=>?_⟩
 .intro z;have:=cM List.length z;rw[aI,iD]at this;lia
 obtain⟨n,a5,rfl⟩:=ws9.mp hx;have S3:=u.setHand (r':=r) c3;have a7:=(f1.trans f2).put' (a:=hd) (o:=hl d3 m3 t3 r) (by trivial);obtain⟨d,m,N⟩:=S3.hand;refine⟨_,rfl,hd,d,m,t3,r,2,rfl,N,by lia,by decide,by decide,λx d4 m4 Y x0 x1 c4 e4=>⟨rfl,_,rfl,?_⟩⟩;have B:=S3.setHand (r':=r) c4;have a4:=a7.put' (a:=hd) (o:=hl d4 m4 Y r) (by trivial);obtain⟨X,M,J⟩:=B.env;obtain⟨W,L,I⟩:=B.held;refine bB (λc=>?_) λc=>?_
 .exists _,rfl,en,rfl,.inl ⟨_,.inl M⟩,_,rfl,_,DGet.k (k:=(Sum.inr x2:aJ)) M,_,rfl,wd,_,rfl,B.w.g.2.2.2.2.2.2.2.2.2.1,_,rfl,WA.held,_,rfl,DPut.k (k:=(Sum.inr n:aJ)) L<|bO (by have:=I.len;lia);have l:=B.setHeld<|I.put a5<|J.get<|Sum.inr x2;have a6:=a4.put' (a:=WA.held) (o:=.dK<|aO W (Sum.inr n)<|(aK X<|Sum.inr x2).getD .non) (by trivial);refine⟨_,rfl,_,rfl,_,rfl,dJ rfl,λZ C=>?_⟩;exact q Z _ Y ⟨.put _ _ _,zb1,λ_ e=>nomatch e⟩ (l.fr0<|FrS.new C) (a6.trans<|FrS.new C) (by lia)
 .refine⟨_,rfl,_,rfl,_,rfl,hd,en,wd,WA,D,Y,r,rfl,B,by lia,λx5 H5 t5 a8 l f5 ae _=>?_⟩;obtain⟨X,M,J⟩:=l.env;obtain⟨W,L,I⟩:=l.held;exists _,rfl,wd,_,rfl,l.w.g.2.2.2.2.2.2.2.2.2.1,WA.held,rfl,.inl ⟨_,.inl L⟩,_,rfl,_,DGet.k (k:=(Sum.inr n:aJ)) L,_,rfl,_,rfl,en,_,rfl,DPut.k (k:=(Sum.inr x5:aJ)) M<|bO (by have:=J.len;lia);have S6:=l.setEnv<|J.put a8<|I.get<|Sum.inr n;have a9:=(a4.trans f5).put' (a:=en) (o:=.dK<|aO X (Sum.inr x5)<|(aK W<|Sum.inr n).getD .non) (by trivial);refine⟨_,rfl,_,rfl,_,rfl,dJ rfl,λZ C=>?_⟩;exact q Z _ t5 ⟨.take _ _ _,zb1,λ_ e=>nomatch e⟩ (S6.fr0<|FrS.new C) (a9.trans<|FrS.new C) (by lia)
abbrev JX:Stmt:=top 61
inductive LS(vs:List V)(H:Hp)(Q:VK):Prop
 | mk(hd en wd:Addr)(A:WA)(D:WD)(t r lv:Int)(h1:vs=[.ref hd,.ref wd,.ref en,.int lv])(h2:Sit H hd en wd A D t r)(h3:t+18<1000000)(h4:∀(x:Addr)(H':Hp)(t':Int),wU (eG D) H' x->Sit H' hd en wd A D t' r->FrS (Ms hd en A) H H'->t'<=t+18->Q (.ref x) H'):LS  vs H Q
def AL:Sp:=λvs H Q _=>LS  vs H Q
def Ws(D:WD)(H:Hp)(as:List Addr):Prop:=∀a∈as,∃o d,H a=some (.tup [.str o,.str d])/\o∈D.names/\d∈D.deeds/\HP D o d
def Ws.mono(h:Ws D H as)(f:∀b xs,H b=some (.tup xs)->H' b=some (.tup xs)):Ws D H' as:=λa i=>by
 obtain⟨o,d,e,r⟩:=h a i;exact⟨o,d,f _ _ e,r⟩
def Ws.app(h:Ws D H as)(h':Ws D H bs):Ws D H (as++bs):=λa b=>(wt2.mp b).elim (h a)<|h' a
def EH(hp:H p=some (.lst ys)):∀b xs,H b=some (.tup xs)->upd H p o b=some (.tup xs):=λb xs h=>by
 rw[aC λz=>by rw[z,hp]at h;cases h];exact h
def RA(ds:List Str)(lo hi:Option Int):∃ds':List Str,cH (ds.map V.str) lo hi=ds'.map V.str/\↑ds'<=↑ds/\∀x∈ds',x∈ds:=by
 unfold cH;rw[<-vj2,<-rL];refine⟨_,rfl,?_,λx a=>List.mem_of_mem_drop<|List.mem_of_mem_take a⟩;rw[eS,lL];lia
abbrev AS:List Str:=[qH,qW,"_law_env","_law_level","_law_y","_law_kind","_law_some","_law_ways","_law_deed_here","_law_above","_law_args_here","_law_x"]
def zn7:bY AS qF (bP JX):=cE
def XV(F:Fun K "_law_call" "_law_call" JX f fd)(T:aR P w K mg base k "_law_take" qB fZ)(O:aR P w K mg base k "_law_of" qC (cR K))(V':aR P w K mg base k "_law_variable" qA nC)(L:aR P w K mg base k "_law_line" qG xZ)(G:aR P w K mg base k "_law_target" qA pM)(HS:aR P w K mg base k "_law_has" qE LB)(MK:aR P w K mg base k "_law_make" qA BI)(AR:aR P w K mg base k "_law_args" qD JS):
  aQ P w K mg base bQ (k+1) f fd qF AL:=by
 refine F.ok zn7 (λvs H Q E h=>?_) λbz A outer s H vs Q E hr h=>?_
 .obtain⟨hd,en,wd,A,D,t,r,J,rfl,_⟩:=h;rfl
 obtain⟨hd,en,wd,WA,D,t,r,J,rfl,S,ht,q⟩:=h;have M:=eU hr;have b2:(["_law_name","_law_elder"]:List Str).Nodup:=by rfl'
 have bi:(["_law_one","_law_deed_here",qW]:List Str).Nodup:=by rfl'
 exists _,aG (sL 4 zn7.nd<|bC V' hr rfl<|aA (pv 0)<|aA (pv 1)<|aA (pv 2) aE)
  (aG (sL 5 zn7.nd<|iT M (pv 2) (pv 4) ⟨rfl,rfl,rfl,rfl⟩)<|aG (cK (jI<|pY<|pv 5) (aV<|sL 5 zn7.nd<|bC O hr rfl<|aA (pv 0)<|aA (jZ (N':=["_law_name","_law_elder"]) (src:=[none,none]) rfl fH (iF<|cQ M (pv 1) bR λ_ _=>rfl) (g:=eN K 2<|eJ (cG 0)<|eJ (cG 1) eK) (λ_ _ _ _=>dS (n:=2) rfl<|bI (gL 0 b2)<|bI (gL 1 b2) dV) (λ_ _ _ _=>gT) λ_ _ _ _=>pv 0) aE) cO)<|aG (sL 6 zn7.nd<|jE rZ (cQ M (pv 1) bR λ_ _=>rfl) (jH<|cB jL (pv 3) aN) jA)<|aG (cK (cA fK (bC T hr rfl<|aA (pv 0)<|aA aN aE) aN<|cF _) (aV<|sL 6 zn7.nd<|cQ M (pv 1) bR λ_ _=>rfl) cO)<|aG (sL 7 zn7.nd<|cW aE)<|aG (eC dW rfl (iF<|pv 6) (uW (i:=8) zn7.nd rfl<|Or.inr rfl)<|aV<|dZ<|fI eX PySem.F.slot_list_extend PySem.F.type_list_extend ZK (pv 7)<|aA (jZ (N':=["_law_one","_law_deed_here",qW]) (src:=[none,some 8,some 1]) rfl fH (iF<|bC L hr rfl<|aA (pv 1)<|aA (pv 5) aE) (g:=cG 0) (λ_ _ _ _=>gL 0 bi) (λ_ _ _ _=>vI<|KC<|bC HS hr rfl<|aA (pv 2)<|aA (pv 0)<|aA (pv 1) aE) λ_ _ _ _=>cX<|aA (pv 0)<|aA (pv 1) aE) aE)<|aG (cK (cA (NN<|vG M) (pv 7) (cW aE)<|cF _) (aV<|bL<|bC MK hr rfl<|aA (pv 0)<|aA (pv 1)<|aA (pv 2) aE) cO)<|aG (gP (bC O hr rfl<|aA (pv 0)<|aA (pv 7) aE)<|dS (n:=2) rfl<|bI (gL 9 zn7.nd)<|bI (uW (i:=8) zn7.nd rfl<|Or.inr rfl) dV)<|aG (sL 10 zn7.nd<|bC AR hr rfl<|aA (pv 0)<|aA (pv 1)<|aA (pv 2)<|aA (pv 9)<|aA (pv 8) aE)<|aG (sL 11 zn7.nd<|bC G hr rfl<|aA (pv 0)<|aA (pv 1)<|aA (pv 2) aE)<|aG (hB M (pv 2) (pv 11) (iT M (cQ M (pv 1) bR λ_ _=>rfl) (pv 8) ⟨rfl,rfl,rfl,rfl⟩) rfl)<|aV<|bL<|cX<|aA bR<|aA (pv 11)<|aA (pv 4)<|aA (pv 9)<|aA (pv 8)<|aA (pv 10) aE)
 ac_rfl
 have hU:D.U.length=9:=by unfold WD.U;rw[cL,bJ,S.ok.v4,S.ok.p4]
 have bv:=S.ok.l12;have h6:=S.ok.d6;refine⟨_,rfl,_,rfl,_,rfl,hd,en,wd,WA,D,t,r,rfl,S,by lia,λB H1 t1 S1 f1 bt _=>?_⟩;obtain⟨kv,a6,hk⟩:=S1.env;exists _,rfl,en,rfl,.inl ⟨_,.inl a6⟩,_,rfl,_,DGet.k (k:=(Sum.inr B:aJ)) a6;have aw:=hk.get<|Sum.inr B;generalize (aK kv<|Sum.inr B).getD .non=vk at aw;have b9:∀(nx:St->Hp->Prop),(∀(n:Str)(H2:Hp)(t2:Int),n∈D.names->Sit H2 hd en wd WA D t2 r->FrS (Ms hd en WA) H H2->t2<=t+3->nx [some<|.ref hd,some<|.ref wd,some<|.ref en,some<|.int J,some<|.str B,some<|.str n,none,none,none,none,none,none] H2)->
   hI (tB<|AN<|aL 5) (fN (gE (cR K) [] E0<|bG (aL 0)<|bG (BS (nO K<|uQ (aL 1)<|tC<|.str "tree") [none,none] (eN K 2<|eJ (cG 0)<|eJ (cG 1) eK) lS<|aL 0) bK)<|cG 5) sQ ⟨nx,Q,λ_ _=>False,λ_ _=>False⟩ [some<|.ref hd,some<|.ref wd,some<|.ref en,some<|.int J,some<|.str B,some vk,none,none,none,none,none,none] H1:=by
  intro nx a1;exists _,rfl,_,rfl;rcases aw with rfl | ⟨n,hn,rfl⟩
  .show if (decide<|V.non=V.non)=true then _ else _
   rw[bE<|by trivial];obtain⟨ts,ao,b8,b4⟩:=S1.w.tree;refine⟨_,rfl,_,rfl,wd,_,rfl,S1.w.g.1,WA.tree,rfl,⟨_,SqL.of ao.2⟩,λDn bb=>?_⟩;refine IO (tr:=D.tr) ao.2 b8 (λj t x a b=>(b4 j t x a b).2) bb (by lia) λH2 f2 an=>?_
   have W:=S1.fr0 f2;obtain⟨d,m,hh⟩:=W.hand;refine⟨hd,Dn,d,m,t1,r,_,rfl,hh,by lia,hV an hh,SqL.of an,?_,by rw[aI,aI];lia,λx d3 m3 t3 e c3 e3=>?_⟩
   .intro z;have:=cM List.length z;rw[aI,aI,iD]at this;exact S.ok.l1<|vg5.mp this
   .obtain⟨n,hn,rfl⟩:=ws9.mp e;exact a1 n _ t3 hn (W.setHand c3) ((f1.trans<|f2.mono<|by trivial).put'<|by trivial) (by lia)
  .show if (decide<|V.str n=V.non)=true then _ else _
   rw[bD<|by trivial];exact a1 n H1 t1 hn S1 f1 (by lia)
 refine b9 _ λn H2 t2 hn W f2 bu=>?_;refine⟨_,rfl,wd,_,rfl,W.w.g.2.2.1,_,rfl,J,1,rfl,rfl,_,rfl,WA.deeds,_,rfl,SqL.of W.w.deeds.2,λps ag=>?_⟩;obtain⟨ds,ed,bw,ba⟩:=RA D.deeds (some<|J+1) none;rw[ed];have S3:=W.fr0<|FrS.new (S:=[]) (o:=.lst<|ds.map V.str) ag;have f3:FrS (Ms hd en WA) H (upd H2 ps<|.lst<|ds.map V.str):=f2.trans<|FrS.new ag;have a4:Stt (Ms hd en WA) (upd H2 ps<|.lst<|ds.map V.str) ps (.lst<|ds.map V.str):=⟨W.notin ag,zb1⟩;generalize upd H2 ps (.lst<|ds.map V.str)=H3 at S3 f3 a4;have bk:∀(nx:St->Hp->Prop),(∀(pz:Addr)(zs:List Str)(H4:Hp)(C:Int),Stt (Ms hd en WA) H4 pz (.lst<|zs.map V.str)->↑zs<=6->(∀x∈zs,x∈D.deeds)->Sit H4 hd en wd WA D C r->FrS (Ms hd en WA) H H4->C<=t+4->nx [some<|.ref hd,some<|.ref wd,some<|.ref en,some<|.int J,some<|.str B,some<|.str n,some<|.ref pz,none,none,none,none,none] H4)->
   hI (hY<|dR pN (gE fZ [] E0<|bG (aL 0)<|bG (tC<|.int 8) bK)<|tC<|.int 0) (fN (uQ (aL 1)<|tC<|.str "deeds")<|cG 6) sQ ⟨nx,Q,λ_ _=>False,λ_ _=>False⟩ [some<|.ref hd,some<|.ref wd,some<|.ref en,some<|.int J,some<|.str B,some<|.str n,some<|.ref ps,none,none,none,none,none] H3:=by
  intro nx a1;obtain⟨d,m,hh⟩:=S3.hand;refine⟨_,rfl,hd,d,m,t2,r,8,rfl,hh,by lia,by decide,by decide,λx d4 m4 C x0 x1 c4 e4=>⟨rfl,_,rfl,?_⟩⟩;have N:=S3.setHand (r':=r) c4;have f4:=f3.put' (a:=hd) (o:=hl d4 m4 C r) (by trivial);refine bB (λc=>?_) λc=>?_
  .exact⟨_,rfl,wd,_,rfl,N.w.g.2.2.1,a1 WA.deeds D.deeds _ C N.w.deeds h6 (λx e=>e) N f4<|by lia⟩
  .exact a1 ps ds _ C (a4.keep<|FrS.chg<|by trivial) (by lia) ba N f4 (by lia)
 refine bk _ λpz zs H4 C hz bx b7 N f4 c1=>?_;refine⟨bT _,λI a3=>?_⟩;have S5:=N.fr0<|FrS.new (S:=[]) (o:=.lst []) a3;have af:I∉Ms hd en WA:=N.notin a3;have ad:pz≠I:=bA hz.2 a3;obtain⟨l,b5,bh,bp⟩:=ID S.ok hn;exists _,rfl,pz,rfl,⟨_,SqL.of<|by rw[aC ad];exact hz.2⟩;refine tU (xs:=zs.map V.str) (λi σ Hx=>∃(dx:Option V)(as:List Addr),σ=[some<|.ref hd,some<|.ref wd,some<|.ref en,some<|.int J,some<|.str B,some<|.str n,some<|.ref pz,some<|.ref I,dx,none,none,none]/\Sit Hx hd en wd WA D C r/\FrS (Ms hd en WA) H4 Hx/\Hx I=some (.lst<|as.map V.ref)/\Ws D Hx as/\↑as<=12*i) ⟨_,[],rfl,S5,FrS.new a3,zb1,(λa ha=>nomatch ha),by simp⟩ ?_ ?_ ?_
 .rintro i σ Hx hi ⟨_,_,_,_,fr,_⟩;exact SqL.of (hz.keep fr).2
 .rintro i x σ Hx e ⟨dx,as,rfl,Sx,fr,ar,bg,a2⟩;obtain⟨hi,_⟩:=wr1.mp e;rw[aI]at hi;rw[bZ,bH hi]at e;cases e;have b1:zs[i]∈D.deeds:=b7 _<|gW hi;refine⟨_,rfl,.inl ⟨rfl,_,SqL.of ar⟩,_,rfl,_,rfl,wd,_,WA,D,n,l,rfl,Sx.w,S.ok,b5,λla Hy fy c5 al=>⟨la,rfl,⟨_,SqL.of al⟩,λDl ax=>?_⟩⟩;have Sy:=Sx.fr0 fy;have bl:=fy _ _ (by trivial) ar;have ac:Ws D Hy as:=bg.mono λb xs h=>fy _ _ (by trivial) h
  refine uH (xs:=l.map V.str) (λY σ Z=>(∃x,σ=[x,some<|.str zs[i],some<|.ref wd])/\FrS [] Hy Z/\∃bs:List Addr,↑bs<=Y/\Z Dl=some (.lst<|bs.map V.ref)/\Ws D Z bs) ⟨⟨_,rfl⟩,(FrS.refl).put ax,[],by simp,zb1,λa ha=>nomatch ha⟩ ?_ ?_ ?_
  .rintro Y σ Z hi ⟨_,u,_⟩;exact SqL.of<|u _ _ (by trivial) al
  .rintro Y x σ Z e ⟨⟨x0,rfl⟩,u,bs,am,ab,aj⟩;obtain⟨a9,_⟩:=wr1.mp e;rw[aI]at a9;rw[bZ,bH a9]at e;cases e;have au:l[Y]∈D.names:=bp _<|gW a9;refine⟨_,rfl,_,rfl,_,rfl,wd,_,WA,D,l[Y],zs[i],rfl,(Sy.fr0 u).w,S.ok,au,b1,λb Hv fv bd=>⟨_,rfl,?_⟩⟩;have aa:=fv _ _ (by trivial) ab;have aq:Ws D Hv bs:=aj.mono λb xs h=>fv _ _ (by trivial) h
   refine bB (λc=>?_) λc=>?_
   .refine⟨_,rfl,_,rfl,dJ rfl,λtp a5=>?_⟩;have bf:Dl≠tp:=bA aa a5;have ap:upd Hv tp (.tup [V.str l[Y],V.str zs[i]]) Dl=some (.lst<|bs.map V.ref):=by rw[aC bf];exact aa
    exists _,ap,by rw[aI];exact bO (by lia),⟨_,rfl⟩,((u.trans fv).trans<|FrS.new a5).put ax,bs++[tp],?_,?_
    .rw[bJ,dQ];lia
    .rw[zb1,bX];rfl
    .refine Ws.mono (H:=upd Hv tp<|.tup [V.str l[Y],V.str zs[i]]) (Ws.app (aq.mono λb xs h=>?_) λa ha=>?_)<|EH ap
     .rw[aC<|bA h a5];exact h
     .rw[wr8.mp ha];exact⟨_,_,zb1,au,b1,bd c⟩
   .exact⟨⟨_,rfl⟩,u.trans fv,bs,by lia,aa,aq⟩
  .rintro σ Z ⟨_,u,bs,am,ab,aj⟩;rw[aI]at am;have av:=u _ _ (by trivial) bl;have Sz:=Sy.fr0 u;have ah:Ws D Z as:=ac.mono λb xs h=>u _ _ (by trivial) h
   have X:=Sit.own (o:=.lst<|as.map V.ref++bs.map V.ref) N Sz (fr.trans<|(fy.trans u).mono<|by trivial) a3;refine⟨I,Dl,_,_,rfl,rfl,av,ab,by rw[aI,aI];exact dM (bO<|by lia),_,as++bs,rfl,X.1,X.2,by rw[zb1,bX],(Ws.app ah aj).mono<|EH av,by rw[bJ];lia⟩
 rintro σ H6 ⟨dx,as,rfl,S6,f6,ay,bo,a2⟩;rw[aI]at a2;have bq:=f4.trans f6;refine⟨_,rfl,bT _,λpe a7=>?_⟩;have X:=S6.fr0<|FrS.new (S:=[]) (o:=.lst []) a7;have ak:I≠pe:=bA ay a7;have ae:FrS (Ms hd en WA) H (upd H6 pe<|.lst []):=bq.trans<|FrS.new a7;have ai:upd H6 pe (.lst []) I=some (.lst<|as.map V.ref):=by rw[aC ak];exact ay
 have b0:Ws D (upd H6 pe<|.lst []) as:=bo.mono λb xs h=>by rw[aC<|bA h a7];exact h
 exists I,pe,_,rfl,rfl,ak,SqL.of ai,SqL.of zb1,_,rfl;generalize upd H6 pe (.lst [])=H7 at X ae ai b0;cases as with
 | nil=>
  refine⟨_,rfl,_,rfl,_,rfl,hd,en,wd,WA,D,C,r,rfl,X,by lia,λx H8 t8 p8 S8 f8 c2=>q x H8 t8 (.inl p8) S8 (ae.trans f8)<|by lia⟩
 | cons a0 as'=>
  obtain⟨d,m,hh⟩:=X.hand;refine⟨_,rfl,_,rfl,hd,I,d,m,C,r,_,rfl,hh,by lia,λz=>af (by rw[z];simp),SqL.of ai,by simp,by rw[aI];lia,λx d8 m8 t8 e c8 e8=>?_⟩;obtain⟨tp,a5,rfl⟩:=ws9.mp e;obtain⟨on,dn,e1,e2,e3,e4⟩:=b0 tp a5;have S8:=X.setHand (r':=r) c8;have f8:=ae.put' (a:=hd) (o:=hl d8 m8 t8 r) (by trivial);have bj:tp≠hd:=λz=>by have:=hh.1;rw[<-z,e1]at this;cases this
  exists tp,_,rfl,SqT.of (by rw[aC bj];exact e1),rfl,_,_,rfl,_,_,rfl,rfl;refine⟨_,rfl,_,rfl,_,rfl,_,rfl,_,rfl,hd,en,wd,WA,D,t8,r,on,dn,rfl,S8,by lia,e2,e3,λx9 bm H9 t9 be bc S9 f9 br=>?_⟩;refine⟨_,rfl,_,rfl,_,rfl,hd,en,wd,WA,D,t9,r,rfl,S9,by lia,λxa Ha ta b3 Sa fa c0 _=>?_⟩;obtain⟨kv,a6,hk⟩:=Sa.env;obtain⟨kt,az,bn⟩:=Sa.told;exists _,rfl,wd,_,rfl,Sa.w.g.2.2.2.2.2.2.2.2.1,WA.told,rfl,.inl ⟨_,.inl az⟩,_,rfl,_,DGet.k (k:=(Sum.inr dn:aJ)) az,_,rfl,_,rfl,en,_,rfl,DPut.k (k:=(Sum.inr xa:aJ)) a6<|bO (by have:=hk.len;lia);have Sb:=Sa.setEnv<|hk.put b3<|bn.get<|Sum.inr dn;have fb:=((f8.trans f9).trans fa).put' (a:=en) (o:=.dK<|aO kv (Sum.inr xa)<|(aK kt<|Sum.inr dn).getD .non) (by trivial);refine⟨_,rfl,_,rfl,_,rfl,_,rfl,_,rfl,dJ rfl,λpr a8=>?_⟩;have b6:Tup H9 (upd (upd Ha en<|.dK<|aO kv (Sum.inr xa)<|(aK kt<|Sum.inr dn).getD .non) pr<|.tup [V.str "call",V.str xa,V.str B,V.str on,V.str dn,V.ref x9]):=((S9.tup fa).trans<|Sa.tup<|FrS.chg<|.tail _<|.head _).trans<|Tup.new a8;exact q pr _ ta (.inr ⟨xa,B,on,dn,x9,bm,zb1,b6 _ _ be,bc,e4⟩) (Sb.fr0<|FrS.new a8) (fb.trans<|FrS.new a8) (by lia)
abbrev sB:Stmt:=top 63
abbrev AT:Stmt:=top 64
abbrev jW:List Str:=[qH,qW,"_law_env","_law_level","_law_deep"]
abbrev jX:List Str:=[qH,qW,"_law_env","_law_level","_law_deep","_law_most"]
inductive nP(n:Nat)(vs:List V)(H:Hp)(Q:VK):Prop
 | mk(hd en wd:Addr)(A:WA)(D:WD)(t r lv:Int)(dp:Nat)(h1:vs=[.ref hd,.ref wd,.ref en,.int lv,.int (dp:Int)])(h2:dp<=n)(h3:Sit H hd en wd A D t r)(h4:0<=r)(h5:t+25*r+24<1000000)(h6:∀(x:Addr)(fs:List Addr)(H':Hp)(t' r':Int),Fl (eG D) H' n [x] fs->(↑fs:Int)+r'<=r+1->Sit H' hd en wd A D t' r'->FrS (Ms hd en A) H H'->0<=r'->r'<=r->t'+25*r'<=t+25*r+24->Q (.ref x) H'):nP n vs H Q
def GN(n:Nat):Sp:=λvs H Q _=>nP n vs H Q
inductive NW(n:Nat)(vs:List V)(H:Hp)(Q:VK):Prop
 | mk(hd en wd:Addr)(A:WA)(D:WD)(t r lv mo:Int)(dp:Nat)(h1:vs=[.ref hd,.ref wd,.ref en,.int lv,.int (dp:Int),.int mo])(h2:dp<=n)(h3:0<=mo)(h4:mo<=100)(h5:Sit H hd en wd A D t r)(h6:0<=r)(h7:t+25*r+1<1000000)(h8:∀(x:Addr)(rs fs:List Addr)(H':Hp)(t' r':Int),H' x=some (.tup<|rs.map V.ref)->Fl (eG D) H' n rs fs->(↑fs:Int)+r'<=r->Sit H' hd en wd A D t' r'->FrS (Ms hd en A) H H'->0<=r'->r'<=r->t'+25*r'<=t+25*r+1->Q (.ref x) H'):NW n vs H Q
def tG(n:Nat):Sp:=λvs H Q _=>NW n vs H Q
def zW:Nat->Sp
 | 0=>λ_ _ _ _=>False
 | n+1=>tG n
abbrev KJ:List Str:=[qH,qW,"_law_env","_law_level","_law_deep","_law_way","_law_y","_law_x","_law_lots"]
def xj7:bY KJ jW (bP sB):=cE
def oZ(F:Fun K "_law_row" "_law_row" sB f fd)(T:aR P w K mg base k "_law_take" qB fZ)(O:aR P w K mg base k "_law_of" qC (cR K))(V':aR P w K mg base k "_law_variable" qA nC)(G:aR P w K mg base k "_law_target" qA pM)(MK:aR P w K mg base k "_law_make" qA BI)(FI:aR P w K mg base k "_law_field" qA IF)(CA:aR P w K mg base k "_law_call" qF AL)(R:aR P w K mg base k "_law_rows" jX (zW n))(mr:mg "range"=none)(ml:mg "len"=none)(am:mg "tuple"=none):
  aQ P w K mg base bQ (k+1) f fd jW (GN n):=by
 refine F.ok xj7 (λvs H Q E h=>?_) λbe A outer s H vs Q E hr h=>?_
 .obtain⟨hd,en,wd,A,D,t,r,X,I,rfl,_⟩:=h;rfl
 obtain⟨hd,en,wd,WA,D,t,r,X,I,rfl,b7,S,hr0,ht,q⟩:=h;have hu:=eU hr;have ao:(["_law_k",qH,qW,"_law_env","_law_level","_law_deep"]:List Str).Nodup:=by rfl'
 exists _,aG (sL 5 xj7.nd<|bC T hr rfl<|aA (pv 0)<|aA aN aE)
  (aG (cK (cA uG (pv 5) aN<|cF _) (aV<|bL<|bC MK hr rfl<|aA (pv 0)<|aA (pv 1)<|aA (pv 2) aE) cO) (aG (cK (cA fK (pv 5) aN<|cF _) (aG (sL 6 xj7.nd<|bC V' hr rfl<|aA (pv 0)<|aA (pv 1)<|aA (pv 2) aE)<|aG (sL 7 xj7.nd<|bC G hr rfl<|aA (pv 0)<|aA (pv 1)<|aA (pv 2) aE)<|aG (hB hu (pv 2) (pv 7) (iT hu (pv 2) (pv 6) ⟨rfl,rfl,rfl,rfl⟩) rfl)<|aV<|bL<|cX<|aA bR<|aA (pv 7)<|aA (pv 6) aE) cO) (aG (cK (cA uG (pv 5) aN<|cF _) (aV<|bL<|bC FI hr rfl<|aA (pv 0)<|aA (pv 1)<|aA (pv 2) aE) cO) (aG (cK (PW.pt<|jD (cA fK (pv 5) aN<|cF _)<|kR<|cA (EY<|vG hu) (cQ hu (pv 1) bR λ_ _=>rfl) (cW aE)<|cF _) (aV<|bL<|cX<|aA bR<|aA (bC O hr rfl<|aA (pv 0)<|aA (cQ hu (pv 1) bR λ_ _=>rfl) aE) aE) cO) (aG (cK (PW.pt<|CV (cA fK (pv 5) aN<|cF _)<|GQ<|cA fK (pv 5) aN<|cF _) (aV<|bL<|cX<|aA bR<|aA (bC O hr rfl<|aA (pv 0)<|aA (cQ hu (pv 1) bR λ_ _=>rfl) aE) aE) cO) (aG (cK (PW.pt<|jD (cA uG (pv 5) aN<|cF _)<|jD (cA kE (pv 4) aN<|cF _)<|kR<|cA kE (eI (pv 0) aN) aN<|cF _) (aG (tL (i:=8) (N':=["_law_k",qH,qW,"_law_env","_law_level","_law_deep"]) (src:=[none,some 0,some 1,some 2,some 3,some 4]) rfl xj7.nd rfl rfl fH (lN rfl mr<|aA (cB lO aN<|pv 5) aE) (g:=cG 0) (λ_ _ _ _=>gL 0 ao) (λ_ _ _ _=>gT) λ_ _ _ _=>bC R hr rfl<|aA (pv 1)<|aA (pv 2)<|aA (pv 3)<|aA (pv 4)<|aA (cB lO (pv 5) aN)<|aA aN aE)<|aV<|bL<|cB ZX (cX<|aA (eI (cW<|aA bR<|aA bR aE)<|cB lO (eR gK rfl ml gB<|aA (pv 8) aE) aN) aE)<|fG iB rfl am (by rfl')<|aA (pv 8) aE) cO)
  (aV<|bL<|bC CA hr rfl<|aA (pv 0)<|aA (pv 1)<|aA (pv 2)<|aA (pv 3) aE)))))))
 ac_rfl
 have hU:D.U.length=9:=by unfold WD.U;rw[cL,bJ,S.ok.v4,S.ok.p4]
 have bf:=S.ok.f3;have az:=S.ok.lateLen;obtain⟨d,m,Y⟩:=S.hand;refine⟨_,rfl,hd,d,m,t,r,14,rfl,Y,by lia,by decide,by decide,λx d1 m1 u x0 x1 c1 e1=>?_⟩;have L:=S.setHand (r':=r) c1;have f1:FrS (Ms hd en WA) H (upd H hd<|hl d1 m1 u r):=FrS.chg (by trivial);have a6:upd H hd (hl d1 m1 u r) hd=some (hl d1 m1 u r):=zb1;generalize upd H hd (hl d1 m1 u r)=H1 at L f1 a6;exists _,rfl,_,_,rfl,rfl,_,rfl;refine bB (λc=>?_) λc=>?_
 .exact⟨_,rfl,_,rfl,_,rfl,hd,en,wd,WA,D,u,r,rfl,L,by lia,λx H2 t2 p2 b B ag=>q x [x] H2 t2 r (.one (.inl p2) .nil) (by show(1:Int)+_<=_;lia) b (f1.trans B) hr0 (by lia)<|by lia⟩
 have n3:¬x<3:=λz=>c<|eE z;exists _,rfl,rfl,_,rfl;refine bB (λc=>?_) λc=>?_
 .refine⟨_,rfl,_,rfl,_,rfl,hd,en,wd,WA,D,u,r,rfl,L,by lia,λy2 H2 t2 b B ag _=>?_⟩;refine⟨_,rfl,_,rfl,_,rfl,hd,en,wd,WA,D,t2,r,rfl,b,by lia,λx3 H3 Z b0 S3 f3 aw _=>?_⟩;obtain⟨kv,ab,hk⟩:=S3.env;exists _,rfl,en,rfl,.inl ⟨_,.inl ab⟩,_,rfl,_,DGet.k (k:=(Sum.inr y2:aJ)) ab,_,rfl,_,rfl,en,_,rfl,DPut.k (k:=(Sum.inr x3:aJ)) ab<|bO (by have:=hk.len;lia);have S4:=S3.setEnv<|hk.put b0<|hk.get<|Sum.inr y2;have f4:=((f1.trans B).trans f3).put' (a:=en) (o:=.dK<|aO kv (Sum.inr x3)<|(aK kv<|Sum.inr y2).getD .non) (by trivial);refine⟨_,rfl,_,rfl,dJ rfl,λM W=>?_⟩;exact q M [M] _ Z r (.one (.inl ⟨.copy _ _,zb1,λ_ e=>nomatch e⟩) .nil) (by show(1:Int)+_<=_;lia) (S4.fr0<|FrS.new W) (f4.trans<|FrS.new W) hr0 (by lia) (by lia)
 have n4:x≠3:=λz=>c (eE<|by rw[z])
 exists _,rfl,_,_,rfl,rfl,_,rfl;refine bB (λc=>?_) λc=>?_
 .exact⟨_,rfl,_,rfl,_,rfl,hd,en,wd,WA,D,u,r,rfl,L,by lia,λx H2 t2 p2 b B ag=>q x [x] H2 t2 r (.one (.inl p2) .nil) (by show(1:Int)+_<=_;lia) b (f1.trans B) hr0 (by lia)<|by lia⟩
 have n6:¬x<6:=λz=>c<|eE z;have rest:∀(H2:Hp),Sit H2 hd en wd WA D u r->FrS (Ms hd en WA) H H2->H2 hd=some (hl d1 m1 u r)->
   eZ (hI (KM (hY<|dR pN (aL 5)<|tC<|.int 6)<|hY<|dR pN (aL 5)<|tC<|.int 7) (gO<|gR<|bG (tC<|.str "say")<|bG (gE (cR K) [] E0<|bG (aL 0)<|bG (uQ (aL 1)<|tC<|.str "fields") bK) bK) sQ)
   (eZ (hI (iN (hY<|dR (gZ λi j=>.bl<|decide<|i<j) (aL 5)<|tC<|.int 10)<|iN (hY<|dR (gZ λi j=>.bl<|decide<|j<i) (aL 4)<|tC<|.int 0)<|hY<|dR (gZ λi j=>.bl<|decide<|j<i) (dR (kZ K) (aL 0)<|tC<|.int 3)<|tC<|.int 2) (eZ (fN (BS (nR<|bG (dR (gZ λi j=>.int<|i-j) (tC<|.int 10)<|aL 5) bK) [none,some 0,some 1,some 2,some 3,some 4] (cG 0) lS<|gE (zW n) [] E0<|bG (aL 1)<|bG (aL 2)<|bG (aL 3)<|bG (aL 4)<|bG (dR (gZ λi j=>.int<|i-j) (aL 5)<|tC<|.int 1)<|bG (tC<|.int 3) bK)<|cG 8)<|gO<|dR (nM K) (gR<|bG (dR (kZ K) (lA<|bG (tC<|.str "again")<|bG (tC<|.str "either") bK)<|dR (gZ λi j=>.int<|i-j) (mJ (λxs H Q=>∃p ys,xs=[.ref p]/\(SqL K H p ys\/SqT K H p ys)/\Q (.int ↑ys) H)<|bG (aL 8) bK)<|tC<|.int 1) bK)<|mJ (λxs H Q=>∃p ys,xs=[.ref p]/\((SqL K H p ys/\∀l,H l=none->Q (.ref l) (upd H l<|.tup ys))\/(SqT K H p ys/\Q (.ref p) H)))<|bG (aL 8) bK) sQ)<|gO<|gE AL [] E0<|bG (aL 0)<|bG (aL 1)<|bG (aL 2)<|bG (aL 3) bK)
   ⟨λ_ H=>Q .non H,Q,λ_ _=>False,λ_ _=>False⟩ [some<|.ref hd,some<|.ref wd,some<|.ref en,some<|.int X,some<|.int (I:Int),some<|.int x,none,none,none] H2:=by
  intro H2 b B a7;have say:gO (gR<|bG (tC<|.str "say")<|bG (gE (cR K) [] E0<|bG (aL 0)<|bG (uQ (aL 1)<|tC<|.str "fields") bK) bK) ⟨λ_ H=>Q .non H,Q,λ_ _=>False,λ_ _=>False⟩ [some<|.ref hd,some<|.ref wd,some<|.ref en,some<|.int X,some<|.int (I:Int),some<|.int x,none,none,none] H2:=by
   obtain⟨d,m,Y⟩:=b.hand;refine⟨_,rfl,_,rfl,wd,_,rfl,b.w.g.2.2.2.2.2.2.2.1,hd,WA.fields,d,m,u,r,_,rfl,Y,by lia,hV b.w.fields.2 Y,SqL.of b.w.fields.2,?_,by rw[aI];lia,λx d3 m3 Z hx c3 e3=>?_⟩
   .intro z;have:=cM List.length z;rw[aI,iD]at this;lia
   obtain⟨x,a3,rfl⟩:=ws9.mp hx;refine⟨dJ rfl,λM W=>?_⟩;exact q M [M] _ Z r (.one (.inl ⟨.say _,zb1,λ_ e=>nomatch e⟩) .nil) (by show(1:Int)+_<=_;lia) ((b.setHand c3).fr0<|FrS.new W) ((B.put'<|by trivial).trans<|FrS.new W) hr0 (by lia) (by lia)
  have a8:gO (gE AL [] E0<|bG (aL 0)<|bG (aL 1)<|bG (aL 2)<|bG (aL 3) bK) ⟨λ_ H=>Q .non H,Q,λ_ _=>False,λ_ _=>False⟩ [some<|.ref hd,some<|.ref wd,some<|.ref en,some<|.int X,some<|.int (I:Int),some<|.int x,none,none,none] H2:=
   ⟨_,rfl,_,rfl,_,rfl,_,rfl,hd,en,wd,WA,D,u,r,X,rfl,b,by lia,λx H3 Z p3 S3 f3 aw=>q x [x] H3 Z r (.one p3 .nil) (by show(1:Int)+_<=_;lia) S3 (B.trans f3) hr0 (by lia)<|by lia⟩
  exists _,rfl,rfl,_,rfl;refine bB (λc=>?_) λc=>?_
  .exact say
  have b9:x≠6:=λz=>c (eE<|by rw[z])
  exists _,rfl,rfl,_,rfl;refine bB (λc=>?_) λc=>?_
  .exact say
  have b5:x≠7:=λz=>c (eE<|by rw[z])
  exists _,rfl,_,_,rfl,rfl,_,rfl;refine bB (λc=>?_) λc=>a8;have b8:x<10:=cS c;exists _,rfl,_,_,rfl,rfl,_,rfl;refine bB (λc=>?_) λc=>a8;have bc:(0:Int)<(I:Int):=cS c;exists _,rfl,hd,_,_,_,rfl,rfl,SqL.of a7,yV,_,_,rfl,rfl,_,rfl;refine bB (λc=>?_) λc=>a8;have nr:(2:Int)<r:=cS c;obtain⟨n',rfl⟩:∃n',n=n'+1:=⟨n-1,by lia⟩;refine⟨_,rfl,_,_,rfl,rfl,_,rfl,by lia,by lia,λN a4=>?_⟩;have ap:N∉Ms hd en WA:=b.notin a4;refine KR (lo:=0) (n:=(10-x).toNat) (λi σ J=>∃(kx:Option V)(tx C:Int)(ls fs:List Addr),σ=[kx,some<|.ref hd,some<|.ref wd,some<|.ref en,some<|.int X,some<|.int (I:Int)]/\Sit J hd en wd WA D tx C/\FrS (Ms hd en WA) H2 J/\0<=C/\C<=r/\tx+25*C<=u+25*r+i/\J N=some (.lst<|ls.map V.ref)/\↑ls=i/\Lots (eG D) J n' ls fs/\(↑fs:Int)+C<=r)
   ⟨_,u,r,[],[],rfl,b.fr0<|FrS.new a4,FrS.new a4,hr0,by lia,by lia,zb1,rfl,.nil,by show(0:Int)+r<=r;lia⟩ ?_ ?_
  .rintro i σ J hi ⟨kx,tx,C,ls,fs,rfl,Sx,fx,a9,aj,a3,a2,av,ac,ar⟩;refine⟨_,rfl,_,rfl,_,rfl,_,rfl,_,rfl,_,_,rfl,rfl,hd,en,wd,WA,D,tx,C,X,3,I-1,?_,by lia,by decide,by decide,Sx,a9,by lia,λv b6 b1 Hy ty ry b4 as ba Sy fy ax bb bd=>?_⟩
   .have:((I-1:Nat):Int)=(I:Int)-1:=by lia
    rw[this];rfl
   .have ai:=fy _ _ ap a2;have S7:=Sit.own (o:=.lst<|ls.map V.ref++[V.ref v]) b Sy (fx.trans fy) a4;have af:Tup Hy (upd Hy N<|.lst<|ls.map V.ref++[V.ref v]):=Tup.lst ai;exact⟨_,ai,bO (by rw[aI];lia),_,ty,ry,ls++[v],fs++b1,rfl,S7.1,S7.2,ax,by lia,by lia,by rw[zb1,bX];rfl,by rw[bJ,dQ];lia,(ac.keep<|(Sx.tup fy).trans af).snoc (af _ _ b4)<|as.keep af,by rw[bJ];lia⟩
  .rintro σ J ⟨kx,tx,C,ls,fs,rfl,Sx,fx,a9,aj,a3,a2,av,ac,ar⟩;have hj:↑ls=1\/↑ls=2:=by lia
   refine⟨dJ rfl,λpl ak=>?_⟩;have al:N≠pl:=bA a2 ak;have an:∃v:Str,dY [V.str "again",V.str "either"] (((↑(ls.map V.ref):Nat):Int)-1)=some (.str v)/\(↑ls=1/\v="again"\/↑ls=2/\v="either"):=by
    rw[aI];rcases hj with h | h
    .exact⟨"again",by rw[h];rfl,.inl ⟨h,rfl⟩⟩
    .exact⟨"either",by rw[h];rfl,.inr ⟨h,rfl⟩⟩
   obtain⟨v,hv,b3⟩:=an;refine⟨_,rfl,N,_,rfl,.inl (SqL.of<|by rw[aC al];exact a2),_,_,rfl,rfl,pl,_,_,_,rfl,rfl,SqL.of zb1,hv,dJ rfl,λpt ah=>?_⟩;have a1:upd J pl (.lst [V.str "again",V.str "either"]) N=some (.lst<|ls.map V.ref):=by rw[aC al];exact a2
   have ay:N≠pt:=bA a1 ah;refine⟨_,rfl,N,_,rfl,.inl ⟨SqL.of (by rw[aC ay];exact a1),λpu aa=>?_⟩⟩;have b2:pt≠pu:=λz=>by rw[<-z,zb1]at aa;cases aa
   refine⟨pt,pu,[.str v],ls.map V.ref,rfl,rfl,SqT.of (by rw[aC b2];exact zb1),SqT.of zb1,by simp,by rw[aI];show 1+↑ls<=sizeLine;exact dM (bO<|by lia),λz=>?_,λ_ pz au=>?_⟩
   .have:=cM List.length z;rw[aI,iD]at this;lia
   .have ff:FrS [] J _:=(((FrS.new (S:=[]) ak).trans<|FrS.new ah).trans<|FrS.new aa).trans<|FrS.new (o:=.tup<|[V.str v]++ls.map V.ref) au;exact q pz (pz::fs) _ tx C ((ac.keep<|Tup.of0 ff).row zb1 b3) (by rw[cL];lia) (Sx.fr0 ff) (B.trans<|fx.trans<|ff.mono<|by trivial) a9 aj (by lia)
 exists _,rfl,rfl,_,rfl;refine bB (λc=>?_) λc=>rest H1 L f1 a6;refine⟨_,rfl,wd,_,rfl,L.w.g.2.1,bT _,λpe a5=>?_⟩;have b:=L.fr0<|FrS.new (S:=[]) (o:=.lst []) a5;have aq:WA.late≠pe:=bA L.w.late.2 a5;exists WA.late,pe,_,rfl,rfl,aq,SqL.of b.w.late.2,SqL.of zb1,_,rfl;have B:FrS (Ms hd en WA) H (upd H1 pe<|.lst []):=f1.trans<|FrS.new a5;have a7:upd H1 pe (.lst []) hd=some (hl d1 m1 u r):=by rw[aC<|bA a6 a5];exact a6
 generalize upd H1 pe (.lst [])=H2 at b B a7;cases hla:D.late with
 | nil=>exact rest H2 b B a7
 | cons y ys=>
  have ad:=b.w.late.2;rw[hla]at ad;have ae:=az;rw[hla]at ae;obtain⟨d,m,Y⟩:=b.hand;refine⟨_,rfl,_,rfl,wd,_,rfl,b.w.g.2.1,hd,WA.late,d,m,u,r,_,rfl,Y,by lia,hV ad Y,SqL.of ad,by simp,by rw[aI];lia,λx d3 m3 Z hx c3 e3=>?_⟩;obtain⟨x,a3,rfl⟩:=ws9.mp hx;refine⟨dJ rfl,λM W=>?_⟩;exact q M [M] _ Z r (.one (.inl ⟨.bring _,zb1,λ_ e=>by cases e;exact S.ok.lnm _<|by rw[hla];exact a3⟩) .nil) (by show(1:Int)+_<=_;lia) ((b.setHand c3).fr0<|FrS.new W) ((B.put'<|by trivial).trans<|FrS.new W) hr0 (by lia) (by lia)
abbrev xD:List Str:=[qH,qW,"_law_env","_law_level","_law_deep","_law_most","_law_rows_here","_law_k"]
def ys5:bY xD jX (bP AT):=cE
def QT(F:Fun K "_law_rows" "_law_rows" AT f fd)(T:aR P w K mg base k "_law_take" qB fZ)(R:aR P w K mg base k "_law_row" jW (GN n))(mr:mg "range"=none)(ad:mg "tuple"=none):
  aQ P w K mg base bQ (k+1) f fd jX (tG n):=by
 refine F.ok ys5 (λvs H Q E h=>?_) λai A outer s H vs Q E hr h=>?_
 .obtain⟨hd,en,wd,A,D,t,r,Z,mo,L,rfl,_⟩:=h;rfl
 obtain⟨hd,en,wd,WA,D,t,r,Z,mo,L,rfl,ae,ak,ah,S,hr0,ht,q⟩:=h;have hu:=eU hr;exists _,aG (sL 6 ys5.nd<|cW aE)
  (aG (eC dW rfl (lN rfl mr<|aA (bC T hr rfl<|aA (pv 0)<|aA (cB jL (pv 5) aN) aE) aE) (gL 7 ys5.nd)<|aV<|cK (cA kE (eI (pv 0) aN) aN<|cF _) (aG (gP (cB lO (eI (pv 0) aN) aN)<|uD (pv 0) aN tY)<|aV<|dZ<|fI eX fQ fV fL (pv 6)<|aA (bC R hr rfl<|aA (pv 0)<|aA (pv 1)<|aA (pv 2)<|aA (pv 3)<|aA (pv 4) aE) aE) cO)<|aV<|bL<|fG iB rfl ad (by rfl')<|aA (pv 6) aE)
 ac_rfl
 refine⟨bT _,λj B=>?_⟩;have S1:=S.fr0<|FrS.new (S:=[]) (o:=.lst []) B;have a9:j∉Ms hd en WA:=S.notin B;obtain⟨d,m,hh⟩:=S1.hand;refine⟨_,rfl,_,rfl,_,_,rfl,rfl,hd,d,m,t,r,_,rfl,hh,by lia,by lia,by lia,λx d1 m1 t1 x0 x1 c1 e1=>?_⟩;have S2:=S1.setHand (r':=r) c1;have a8:j≠hd:=λz=>a9 (by rw[z];simp)
 refine⟨_,rfl,by lia,by lia,?_⟩;refine vU (lo:=0) (n:=x.toNat) (λi σ e=>∃(W:Option V)(tx b:Int)(rs fs:List Addr),σ=[some<|.ref hd,some<|.ref wd,some<|.ref en,some<|.int Z,some<|.int (L:Int),some<|.int mo,some<|.ref j,W]/\Sit e hd en wd WA D tx b/\FrS (Ms hd en WA) H e/\0<=b/\b<=r/\tx+25*b<=t+25*r+1/\e j=some (.lst<|rs.map V.ref)/\↑rs<=i/\Fl (eG D) e n rs fs/\(↑fs:Int)+b<=r)
  ⟨_,t1,r,[],[],rfl,S2,((FrS.new B).put'<|by trivial),hr0,by lia,by lia,by rw[aC a8];exact zb1,by simp,.nil,by show(0:Int)+r<=r;lia⟩ ?_ ?_
 .rintro i σ e hi ⟨W,tx,b,rs,fs,rfl,u,C,a4,X,M,I,ac,G,O⟩;obtain⟨d,m,Y,ok⟩:=u.hand;exists _,rfl,hd,_,_,_,rfl,rfl,SqL.of Y,yV,_,_,rfl,rfl,_,rfl;refine bB (λc=>?_) λc=>?_
  .have c':0<b:=cS c;exists _,rfl,hd,_,_,_,rfl,rfl,SqL.of Y,yV,_,_,rfl,rfl;exists _,rfl,hd,_,3,3,rfl,rfl,Y,rfl;have S3:=u.setHand (r':=b-1) ok;have f3:=C.put' (a:=hd) (o:=hl d m tx<|b-1) (by trivial);have a7:upd e hd (hl d m tx<|b-1) j=some (.lst<|rs.map V.ref):=by rw[aC a8];exact I
   refine⟨_,rfl,.inl ⟨rfl,_,SqL.of a7⟩,_,rfl,_,rfl,_,rfl,_,rfl,_,rfl,hd,en,wd,WA,D,tx,b-1,Z,L,rfl,ae,S3,by lia,by lia,λv fv N t4 r4 ag aj S4 J h0 h1 h2=>?_⟩;have ab:=J _ _ a9 a7;have S7:=Sit.own (o:=.lst<|rs.map V.ref++[V.ref v]) S S4 (f3.trans J) B;have aa:Tup N (upd N j<|.lst<|rs.map V.ref++[V.ref v]):=Tup.lst ab;have af:Tup e N:=(u.tup<|FrS.chg<|.head _).trans<|S3.tup J;exact⟨j,_,_,rfl,rfl,ab,bO (by rw[aI];lia),_,t4,r4,rs++[v],fs++fv,rfl,S7.1,S7.2,h0,by lia,by lia,by rw[zb1,bX];rfl,by rw[bJ,dQ];lia,(G.keep<|af.trans aa).app<|ag.keep aa,by rw[bJ];lia⟩
  .exact⟨_,tx,b,rs,fs,rfl,u,C,a4,X,M,I,by lia,G,O⟩
 .rintro σ e ⟨W,tx,b,rs,fs,rfl,u,C,a4,X,M,I,ac,G,O⟩;refine⟨_,rfl,j,_,rfl,.inl ⟨SqL.of I,λl hl=>?_⟩⟩;exact q l rs fs _ tx b zb1 (G.keep<|Tup.new hl) O (u.fr0<|FrS.new hl) (C.trans<|FrS.new hl) a4 X M
abbrev M0(hd:Addr)(A:WA):List Addr:=[hd,A.told,A.held]
structure Sit0(H:Hp)(hd wd:Addr)(A:WA)(D:WD)(t r:Int):Prop where
 hand:∃d m,Hand H hd d m t r
 told:∃kv,H A.told=some (.dK kv)/\DOk D.deeds D.names kv
 held:∃kv,H A.held=some (.dK kv)/\DOk D.fields D.names kv
 w:Wld (M0 hd A) H wd A D
 nd:(M0 hd A).Nodup
 ok:vY D
section
variable{H H':Hp}{hd en wd:Addr}{A:WA}{D:WD}{t r t' r':Int}
def Sit0.have_(S:Sit0 H hd wd A D t r):∀b∈M0 hd A,∃o,H b=some o:=by
 obtain⟨⟨d,m,h1,h⟩,⟨j,e,i⟩,⟨n,f,q⟩,w,nd,l⟩:=S;intro b a;simp only[M0,wr5,aZ,cY]at a;rcases a with rfl | rfl | rfl
 .exact⟨_,h1⟩
 .exact⟨_,e⟩
 .exact⟨_,f⟩
def Sit0.notin(S:Sit0 H hd wd A D t r)(hp:H p=none):p∉M0 hd A:=λz=>by
 obtain⟨o,a⟩:=S.have_ p z;rw[hp]at a;cases a
def Sit0.ne(S:Sit0 H hd wd A D t r):hd≠A.told/\hd≠A.held/\A.told≠A.held:=by
 have:=S.nd;simp only[M0,wv3,wr5,aZ,cY,eY]at this;exact⟨this.1.1,this.1.2,this.2.1⟩
def Sit0.fr0(S:Sit0 H hd wd A D t r)(f:FrS [] H H'):Sit0 H' hd wd A D t r:=by
 obtain⟨⟨d,m,h1,a⟩,⟨j,i,b⟩,⟨h,l,e⟩,w,nd,ok⟩:=S;exact⟨⟨d,m,f _ _ (by trivial) h1,a⟩,⟨j,f _ _ (by trivial) i,b⟩,⟨h,f _ _ (by trivial) l,e⟩,w.keep (f.mono<|by trivial),nd,ok⟩
def Sit0.setHand(S:Sit0 H hd wd A D t r)(ok:nT d' m' t'):Sit0 (upd H hd<|hl d' m' t' r') hd wd A D t' r':=by
 obtain⟨f,l,o⟩:=S.ne;obtain⟨⟨d,m,h1⟩,⟨e,j,a⟩,⟨i,n,h⟩,w,nd,b⟩:=S;exact⟨⟨d',m',Hand.at ok⟩,⟨e,by rw[aC f.symm];exact j,a⟩,⟨i,by rw[aC l.symm];exact n,h⟩,w.keep (FrS.chg<|by trivial),nd,b⟩
def Sit0.own(S:Sit0 H hd wd A D t r)(e:Sit0 H6 hd wd A D t6 r6)(f:FrS (M0 hd A) H H6)(a:H pa=none):Sit0 (upd H6 pa o) hd wd A D t6 r6/\FrS (M0 hd A) H (upd H6 pa o):=by
 have j:pa∉M0 hd A:=S.notin a;have u:∀b∈M0 hd A,upd H6 pa o b=H6 b:=λb x=>aC (λz=>j<|by rw[<-z];exact x)
 have fr:FrS (M0 hd A) H (upd H6 pa o):=f.put a;obtain⟨⟨d,m,h1,q⟩,⟨i,s,l⟩,⟨n,B,h⟩,w,nd,ok⟩:=e;exact⟨⟨⟨d,m,(u _<|by trivial).trans h1,q⟩,⟨i,(u _<|by trivial).trans s,l⟩,⟨n,(u _<|by trivial).trans B,h⟩,S.w.keep fr,nd,ok⟩,fr⟩
def Sit0.open(S:Sit0 H hd wd A D t r)(he:H en=none)(e:DOk D.U D.names kv):Sit (upd H en<|.dK kv) hd en wd A D t r:=by
 have b:=S.notin he;obtain⟨f,i,j⟩:=S.ne;have fr:FrS [] H (upd H en<|.dK kv):=FrS.new he;have d:=S.fr0 fr;refine⟨d.hand,⟨kv,zb1,e⟩,d.told,d.held,S.w.map λa o h=>⟨λz=>?_,fr _ _ (by trivial) h.2⟩,?_,S.ok⟩
 .simp only[Ms,wr5,aZ,cY]at z;rcases z with z | z | z | z
  .exact h.1 (by rw[z];simp)
  .exact bA h.2 he z
  .exact h.1 (by rw[z];simp)
  .exact h.1 (by rw[z];simp)
 .simp only[M0,wr5,aZ,cY,eY]at b;simp only[Ms,wv3,wr5,aZ,cY,eY];exact⟨⟨bW b.1,f,i⟩,⟨b.2.1,b.2.2⟩,j,not_false,kH⟩
def Sit.close(S:Sit H hd en wd A D t r):Sit0 H hd wd A D t r:=by
 obtain⟨i,b,d,f,j,e⟩:=S.ne;refine⟨S.hand,S.told,S.held,S.w.map λa o h=>h.sub (by simp +contextual),?_,S.ok⟩;simp only[M0,wv3,wr5,aZ,cY,eY];exact⟨⟨b,d⟩,e,not_false,kH⟩
def FrS.close(he:H en=none)(f:FrS (Ms hd en A) (upd H en o) H1):FrS (M0 hd A) H H1:=λb u n e=>by
 have a:b≠en:=bA e he;refine f b u (λz=>?_) (by rw[aC a];exact e);simp only[Ms,wr5,aZ,cY]at z;rcases z with z | z | z | z
 .exact n (by rw[z];simp)
 .exact a z
 .exact n (by rw[z];simp)
 .exact n (by rw[z];simp)
theorem DOk.merge:∀(more:List (aJ×V)){kvs:List (aJ×V)},DOk U N kvs->(∀b∈more,∃x∈U,b.1=Sum.inr x/\(b.2=.non\/∃n∈N,b.2=.str n))->DOk U N (dU kvs more)
 | [],kvs,h,_=>h
 | a::l,kvs,h,hm=>by
  obtain⟨x,d,e,i⟩:=hm a<|sJ ..;show DOk U N<|dU (aO kvs a.1 a.2) l;refine DOk.merge l ?_ λb f=>hm b<|gX _ f;rw[e];exact h.put d i
end
theorem Sit0.tup{A:WA}(S:Sit0 H hd wd A D t r)(f:FrS (M0 hd A) H H'):Tup H H':=by
 obtain⟨⟨d,m,h1,i⟩,⟨j,e,l⟩,⟨o,h,q⟩,w,nd,n⟩:=S;refine FrS.tup f λb a xs=>?_;simp only[M0,wr5,aZ,cY]at a;rcases a with rfl | rfl | rfl
 .rw[h1];intro z;cases z
 .rw[e];intro z;cases z
 .rw[h];intro z;cases z
abbrev GW:Stmt:=top 65
inductive SW(vs:List V)(H:Hp)(Q:VK):Prop
 | mk(hd wd:Addr)(A:WA)(D:WD)(t r:Int)(kd:Str)(lv:Nat)(h1:vs=[.ref hd,.ref wd,.str kd,.int (lv:Int)])(h2:kd∈D.names)(h3:lv<D.deeds.length)(h4:Sit0 H hd wd A D t r)(h5:0<=r)(h6:t+25*r+20<1000000)(h7:∀(x:Addr)(dn:Str)(pv gv:V)(l:Addr)(rs fs:List Addr)(H':Hp)(t' r':Int),D.deeds[lv]?=some dn->H' x=some (.tup [.str dn,pv,.ref l,gv])->DpG H' pv gv->H' l=some (.tup<|rs.map V.ref)->Fl (eG D) H' 4 rs fs->(↑fs:Int)+r'<=r->Sit0 H' hd wd A D t' r'->FrS (M0 hd A) H H'->0<=r'->r'<=r->t'+25*r'<=t+25*r+15->Q (.ref x) H'):SW  vs H Q
def DS:Sp:=λvs H Q _=>SW  vs H Q
abbrev xQ:List Str:=[qH,qW,"_law_kind","_law_level","_law_deed_here","_law_pool","_law_wanted","_law_params","_law_env","_law_rows_here","_law_gives"]
abbrev CI:List Str:=[qH,qW,"_law_kind","_law_level"]
def zv7:bY xQ CI (bP GW):=cE
def TJ(F:Fun K "_law_deed" "_law_deed" GW f fd)(T:aR P w K mg base k "_law_take" qB fZ)(O:aR P w K mg base k "_law_of" qC (cR K))(V':aR P w K mg base k "_law_variable" qA nC)(R:aR P w K mg base k "_law_rows" jX (tG 4))(ml:mg "len"=none)(bj:mg "list"=none)(mz:mg "zip"=none)(bp:mg "dict"=none)(bm:mg "tuple"=none):
  aQ P w K mg base bQ (k+1) f fd CI DS:=by
 refine F.ok zv7 (λvs H Q E h=>?_) λcp A outer s H vs Q E hr h=>?_
 .obtain⟨hd,wd,A,D,t,r,kd,L,rfl,_⟩:=h;rfl
 obtain⟨hd,wd,WA,D,t,r,kd,L,rfl,ba,aa,S,hr0,ht,q⟩:=h;have B:=eU hr;have c5:(["_law_want","_law_pool",qH]:List Str).Nodup:=by rfl'
 exists _,aG (sL 4 zv7.nd<|eI (cQ B (pv 1) bR λ_ _=>rfl)<|pv 3)
  (aG (hW (i:=5) zv7.nd rfl (Or.inr rfl)<|cB vC (cQ B (pv 1) bR λ_ _=>rfl)<|jE rZ (cQ B (pv 1) bR λ_ _=>rfl) jA<|jH aN) (aG (sL 6 zv7.nd<|cQ B (cQ B (pv 1) bR λ_ _=>rfl) (cX<|aA (cQ B (cQ B (pv 1) bR λ_ _=>rfl) (pv 2) λ_ _=>rfl)<|aA (pv 4) aE) λ_ _=>rfl) (aG (tL (i:=7) (N':=["_law_want","_law_pool",qH]) (src:=[none,some 5,some 0]) rfl zv7.nd rfl rfl fH (iF<|pv 6) (g:=cG 0) (λ_ _ _ _=>gL 0 c5) (λ_ _ _ _=>gT) (te:=uK K "list" RJ (aL 1)<|bG (gE fZ [] E0<|bG (aL 2)<|bG (mJ (λxs H Q=>∃p ys,xs=[.ref p]/\(SqL K H p ys\/SqT K H p ys)/\Q (.int ↑ys) H)<|bG (aL 1) bK) bK) bK) λ_ _ _ _=>fI eX PySem.F.slot_list_pop PySem.F.type_list_pop YD (pv 1)<|aA (bC T hr rfl<|aA (pv 2)<|aA (eR gK rfl ml gB<|aA (pv 1) aE) aE) aE) (aG (sL 8 zv7.nd<|fG (KA rfl) rfl bp (by rfl')<|aA (cB vC (cW<|aA (cX<|aA bR<|aA (pv 2) aE) aE)<|XZ rfl rfl bj rfl mz<|aA (pv 7)<|aA (pv 6) aE) aE)
  (aG (sL 9 zv7.nd<|bC R hr rfl<|aA (pv 0)<|aA (pv 1)<|aA (pv 8)<|aA (pv 3)<|aA (bC T hr rfl<|aA (pv 0)<|aA aN aE)<|aA (bC O hr rfl<|aA (pv 0)<|aA (cW<|aA aN<|aA aN<|aA aN<|aA aN<|aA aN aE) aE) aE)<|aG (sL 10 zv7.nd<|bC O hr rfl<|aA (pv 0)<|aA (cW<|aA gH<|aA (bC V' hr rfl<|aA (pv 0)<|aA (pv 1)<|aA (pv 8) aE)<|aA (bC V' hr rfl<|aA (pv 0)<|aA (pv 1)<|aA (pv 8) aE) aE) aE)<|aG (hB B (cQ B (pv 1) bR λ_ _=>rfl) (pv 4) (YK B (pv 8) (pv 10) ⟨rfl,rfl,rfl,rfl⟩) rfl)<|aV<|bL<|cX<|aA (pv 4)<|aA (fG iB rfl bm (by rfl')<|aA (pv 7) aE)<|aA (pv 9)<|aA (pv 10) aE)))))
 ac_rfl
 have h6:=S.ok.d6;have hU:D.U.length=9:=by unfold WD.U;rw[cL,bJ,S.ok.v4,S.ok.p4]
 have ax:D.deeds[L]∈D.deeds:=gW aa;have bo:dY (D.deeds.map V.str) (L:Int)=some (.str D.deeds[L]):=mQ (by rw[bZ,bH aa];rfl);exists _,rfl,wd,_,rfl,S.w.g.2.2.1,_,rfl,WA.deeds,_,_,_,rfl,rfl,SqL.of S.w.deeds.2,bo;have b3:D.deeds[L]?=some D.deeds[L]:=bH aa;generalize D.deeds[L]=dn at ax b3;refine⟨_,rfl,wd,_,rfl,S.w.g.2.2.2.2.2.2.1,_,rfl,wd,_,rfl,S.w.g.2.2.2.2.2.1,_,rfl,WA.vars,_,rfl,SqL.of S.w.vars.2,λay b6=>?_⟩;obtain⟨ds,ed,c2,bt⟩:=RA D.vars none<|some 2;rw[ed];rw[S.ok.v4]at c2;have S1:=S.fr0<|FrS.new (S:=[]) (o:=.lst<|ds.map V.str) b6;have f1:FrS (M0 hd WA) H (upd H ay<|.lst<|ds.map V.str):=FrS.new b6;refine⟨WA.params,ay,_,_,rfl,rfl,S1.w.params.2,zb1,by rw[aI,aI,S.ok.p4];exact dM (bO<|by lia),λu ae=>?_⟩;generalize upd H ay (.lst<|ds.map V.str)=H1 at S1 f1 ae;rw[<-bX];have S2:=S1.fr0<|FrS.new (S:=[]) (o:=.lst<|(D.params++ds).map V.str) ae;have f2:FrS (M0 hd WA) H1 (upd H1 u<|.lst<|(D.params++ds).map V.str):=FrS.new ae;have a3:upd H1 u (.lst<|(D.params++ds).map V.str) u=some (.lst<|(D.params++ds).map V.str):=zb1;generalize upd H1 u (.lst<|(D.params++ds).map V.str)=H2 at S2 f2 a3;have an:↑(D.params++ds)=4+↑ds:=by rw[bJ,S.ok.p4]
 have ad:∀x∈D.params++ds,x∈D.U:=λx Y=>by
  unfold WD.U;rcases wt2.mp Y with h | h
  .simp[h]
  .simp[bt x h]
 generalize D.params++ds=ps at a3 an ad;obtain⟨rt,wp,ws,e1,e2,e3,e4,e5⟩:=S.w.wl kd ba dn ax;refine⟨_,rfl,wd,_,rfl,S2.w.g.2.2.2.1,_,rfl,wd,_,rfl,S2.w.g.2.2.2.2.2.2.2.2.2.2,_,rfl,WA.roots,_,rfl,.inl ⟨_,Sum.inr kd,.inl S2.w.roots.2,rfl,e1.symm⟩,_,rfl,dJ rfl,λpk aj=>?_⟩;have S3:=S2.fr0<|FrS.new (S:=[]) (o:=.tup [V.str rt,V.str dn]) aj;have f3:FrS (M0 hd WA) H1 (upd H2 pk<|.tup [V.str rt,V.str dn]):=f2.trans<|FrS.new aj;have a6:upd H2 pk (.tup [V.str rt,V.str dn]) u=some (.lst<|ps.map V.str):=by rw[aC<|bA a3 aj];exact a3
 exists WA.wants,.ref wp,rfl,.inr ⟨_,[Sum.inr rt,Sum.inr dn],pk,.inl S3.w.wants.2,rfl,zb1,e2.symm⟩;generalize upd H2 pk (.tup [V.str rt,V.str dn])=H3 at S3 f3 a6;have w3:=e3.keep<|f1.trans f3;have ak:u∉M0 hd WA:=S1.notin ae;refine⟨_,rfl,wp,rfl,⟨_,SqL.of w3.2⟩,λC ab=>?_⟩;have a9:C∉M0 hd WA:=S3.notin ab;have cc:H1 C=none:=f3.old S3.have_ ab;have aq:u≠C:=bA a6 ab;refine uH (xs:=ws.map V.str) (λi σ I=>∃(kx:Option V)(tx:Int)(l qs:List Str),σ=[kx,some<|.ref u,some<|.ref hd]/\Sit0 I hd wd WA D tx r/\FrS (M0 hd WA) H1 I/\tx<=t+i/\I u=some (.lst<|l.map V.str)/\↑l+i=↑ps/\(∀x∈l,x∈D.U)/\I C=some (.lst<|qs.map V.str)/\↑qs=i/\∀x∈qs,x∈D.U)
  ⟨_,t,ps,[],rfl,S3.fr0<|FrS.new ab,f3.trans<|FrS.new ab,by lia,by rw[aC aq];exact a6,by lia,ad,zb1,rfl,by simp⟩ ?_ ?_ ?_
 .rintro i σ I hi ⟨_,_,_,_,_,_,fx,_⟩;exact SqL.of (e3.keep<|f1.trans fx).2
 .rintro i x σ I Y ⟨kx,tx,l,qs,rfl,Sx,fx,cj,ap,bx,b5,c3,ai,am⟩;obtain⟨hi,_⟩:=wr1.mp Y;rw[aI]at hi;obtain⟨d,m,Z⟩:=Sx.hand;have bv:u≠hd:=λz=>ak (by rw[z];simp)
  refine⟨_,rfl,.inl ⟨rfl,_,SqL.of ap⟩,_,rfl,_,rfl,u,_,rfl,.inl<|SqL.of ap,hd,d,m,tx,r,_,rfl,Z,by lia,by rw[aI];lia,by rw[aI];lia,λy d' m' ty y0 y1 c e=>?_⟩;rw[aI]at y1;have Sy:=Sx.setHand (r':=r) c;have fy:=fx.put' (a:=hd) (o:=hl d' m' ty r) (by trivial);have bd:upd I hd (hl d' m' ty r) u=some (.lst<|l.map V.str):=by rw[aC bv];exact ap
  have bc:upd I hd (hl d' m' ty r) C=some (.lst<|qs.map V.str):=by rw[aC λz=>a9<|by rw[z];simp];exact c3
  generalize upd I hd (hl d' m' ty r)=Hy at Sy fy bd bc;have ao:y.toNat<↑l:=by lia
  have c7:seqIndex? y ↑(l.map V.str)=some y.toNat:=by
   unfold seqIndex?;rw[aI];have g1:¬y<0:=by lia
   simp only[g1,iO];rw[bE<|by simp;lia]
  refine⟨u,_,y,y.toNat,.str l[y.toNat],rfl,rfl,bd,by lia,by lia,c7,by rw[bZ,bH ao];rfl,?_⟩;have bh:(l.map V.str).eraseIdx y.toNat=(l.eraseIdx y.toNat).map V.str:=by rw[List.eraseIdx_eq_take_drop_succ,List.eraseIdx_eq_take_drop_succ,bX,rL,vj2]
  rw[bh];have S7:=Sit0.own (o:=.lst<|(l.eraseIdx y.toNat).map V.str) S1 Sy fy ae;have bw:upd Hy u (.lst<|(l.eraseIdx y.toNat).map V.str) C=some (.lst<|qs.map V.str):=by rw[aC aq.symm];exact bc
  have S8:=Sit0.own (o:=.lst<|qs.map V.str++[V.str l[y.toNat]]) S1 S7.1 S7.2 cc;refine⟨_,bw,by rw[aI];exact bO (by lia),_,ty,l.eraseIdx y.toNat,qs++[l[y.toNat]],rfl,S8.1,S8.2,by lia,by rw[aC aq];exact zb1,?_,λx Y=>b5 x<|List.mem_of_mem_eraseIdx Y,by rw[zb1,bX];rfl,by rw[bJ,ai];rfl,λx Y=>?_⟩
  .rw[List.length_eraseIdx_of_lt ao];lia
  .rcases wt2.mp Y with h | h
   .exact am x h
   .rw[wr8.mp h];exact b5 _<|gW ao
 rintro σ N ⟨kx,t4,l,qs,rfl,S4,f4,ce,cn,_,_,av,ai,am⟩;rw[aI]at ce ai;have b8:FrS (M0 hd WA) H N:=f1.trans f4;have w4:=e3.keep b8;refine⟨_,rfl,dJ rfl,λpt br=>⟨dJ rfl,λpo bb=>?_⟩⟩;have f5:FrS [] N (upd (upd N pt<|.tup [V.str "own",V.str kd]) po<|.lst [V.ref pt]):=(FrS.new br).trans<|FrS.new bb;have ac:upd (upd N pt<|.tup [V.str "own",V.str kd]) po (.lst [V.ref pt]) po=some (.lst [V.ref pt]):=zb1;have a5:upd (upd N pt<|.tup [V.str "own",V.str kd]) po (.lst [V.ref pt]) pt=some (.tup [V.str "own",V.str kd]):=by rw[aC<|bA (o:=.tup [V.str "own",V.str kd]) zb1 bb];exact zb1
 generalize upd (upd N pt<|.tup [V.str "own",V.str kd]) po (.lst [V.ref pt])=H5 at f5 ac a5;refine⟨_,rfl,_,rfl,C,wp,qs.map V.str,ws.map V.str,rfl,SqL.of<|f5 _ _ (by trivial) av,SqL.of<|f5 _ _ (by trivial) w4.2,by rw[aI,aI];exact ai,λzl ts H6 fz cl c6 ci bg=>?_⟩;have f6:FrS [] N H6:=f5.trans λb o _ e=>fz b o e;rw[aI]at ci;refine⟨po,zl,_,_,rfl,rfl,fz _ _ ac,c6,by rw[aI];show 1+↑ts<=sizeLine;exact dM (bO<|by lia),λpc az=>?_⟩;have f7:FrS [] N (upd H6 pc<|.lst<|[V.ref pt]++ts.map V.ref):=f6.trans<|FrS.new az;have S7:=S4.fr0 f7;refine⟨pc,pt::ts,(Sum.inr "own",.str kd)::(qs.zip ws).map (λp=>((Sum.inr p.1:aJ),V.str p.2)),rfl,SqL.of zb1,?_,?_,λj t' X b9 a7=>?_,λen al=>?_⟩
 .rw[cL,cL,aI,vH];lia
 .rw[cL,aI,vH];exact bO (by lia)
 .cases j with
  | zero=>
   have a1:pt=t':=by simpa using b9
   have a2:((Sum.inr "own":aJ),V.str kd)=X:=by simpa using a7
   subst a1 a2;exact SqT.of (by rw[aC<|bA (fz _ _ a5) az];exact fz _ _ a5)
  | succ j=>
   have a1:ts[j]?=some t':=by simpa using b9
   have a2:((qs.zip ws).map λp=>((Sum.inr p.1:aJ),V.str p.2))[j]?=some X:=by simpa using a7
   obtain⟨x,y,g1,g2,g3⟩:=bg j t' a1;rw[bZ]at g1 g2 a2;obtain⟨x',c1,rfl⟩:=wt0.mp g1;obtain⟨y',bq,rfl⟩:=wt0.mp g2;obtain⟨p,hp,rfl⟩:=wt0.mp a2;rw[DB]at hp;obtain⟨z1,z2⟩:=hp;rw[c1]at z1;rw[bq]at z2;cases z1;cases z2;exact SqT.of (by rw[aC<|bA g3 az];exact g3)
 have bf:C≠en:=bA (f7 _ _ (by trivial) av) al;have a7:DOk D.U D.names (dU []<|(Sum.inr "own",.str kd)::(qs.zip ws).map (λp=>((Sum.inr p.1:aJ),V.str p.2))):=by
  refine DOk.merge _ DOk.nil λX a7=>?_;rcases wr5.mp a7 with rfl | h
  .exact⟨"own",by unfold WD.U;simp,rfl,.inr ⟨kd,ba,rfl⟩⟩
  .obtain⟨p,hp,rfl⟩:=ws9.mp h;have:=xV hp;exact⟨p.1,am _ this.1,rfl,.inr ⟨p.2,e5 _ this.2,rfl⟩⟩
 have S8:=S7.open al a7;have b1:Stt (Ms hd en WA) (upd (upd H6 pc<|.lst<|[V.ref pt]++ts.map V.ref) en<|.dK<|dU []<|(Sum.inr "own",.str kd)::(qs.zip ws).map (λp=>((Sum.inr p.1:aJ),V.str p.2))) C (.lst<|qs.map V.str):=by
  refine⟨λz=>?_,by rw[aC bf];exact f7 _ _ (by trivial) av⟩;simp only[Ms,wr5,aZ,cY]at z;simp only[M0,wr5,aZ,cY,eY]at a9;rcases z with z | z | z | z
  .exact a9.1 z
  .exact bf z
  .exact a9.2.1 z
  .exact a9.2.2 z
 have b7:∀Hf:Hp,FrS (Ms hd en WA) (upd (upd H6 pc<|.lst<|[V.ref pt]++ts.map V.ref) en<|.dK<|dU []<|(Sum.inr "own",.str kd)::(qs.zip ws).map (λp=>((Sum.inr p.1:aJ),V.str p.2))) Hf->FrS (M0 hd WA) H Hf:=λHf ff=>(b8.trans<|f7.mono<|by trivial).trans<|FrS.close al ff
 generalize upd (upd H6 pc<|.lst<|[V.ref pt]++ts.map V.ref) en (.dK<|dU []<|(Sum.inr "own",.str kd)::(qs.zip ws).map (λp=>((Sum.inr p.1:aJ),V.str p.2)))=H8 at S8 b1 b7;obtain⟨d,m,Z⟩:=S8.hand;refine⟨_,rfl,_,rfl,_,rfl,_,rfl,_,rfl,hd,d,m,t4,r,3,rfl,Z,by lia,by decide,by decide,λx d9 m9 t9 x0 M c9 e9=>?_⟩;obtain⟨dp,rfl⟩:∃dp:Nat,x=(dp:Int):=⟨x.toNat,by lia⟩;have S9:=S8.setHand (r':=r) c9;have f9:FrS (Ms hd en WA) H8 (upd H8 hd<|hl d9 m9 t9 r):=FrS.chg (by trivial);refine⟨_,rfl,dJ rfl,λpi au=>?_⟩;have Sa:=S9.fr0<|FrS.new (S:=[]) (o:=.lst [V.int 1,V.int 2,V.int 3,V.int 4,V.int 6]) au;have fa:=f9.trans<|FrS.new (o:=.lst [V.int 1,V.int 2,V.int 3,V.int 4,V.int 6]) au;have as:pi≠hd:=λz=>S9.notin au (by rw[z];simp)
 obtain⟨d,m,Z⟩:=Sa.hand;refine⟨hd,pi,d,m,t9,r,_,rfl,Z,by lia,as,SqL.of zb1,by simp,by show 5<1000;decide,λy db mb tb hy cb eb=>?_⟩;obtain⟨mo,rfl,bl,bk⟩:∃mo:Int,y=.int mo/\0<=mo/\mo<=100:=by
  simp only[wr5,aZ,cY]at hy;rcases hy with rfl | rfl | rfl | rfl | rfl
  .exact⟨1,rfl,by decide,by decide⟩
  .exact⟨2,rfl,by decide,by decide⟩
  .exact⟨3,rfl,by decide,by decide⟩
  .exact⟨4,rfl,by decide,by decide⟩
  .exact⟨6,rfl,by decide,by decide⟩
 have Sb:=Sa.setHand (r':=r) cb;have fb:=fa.put' (a:=hd) (o:=hl db mb tb r) (by trivial);refine⟨hd,en,wd,WA,D,tb,r,(L:Int),mo,dp,rfl,by lia,bl,bk,Sb,hr0,by lia,λrv bi c4 Hc tc G cf bu aa Sc fc c8 bn cm=>?_⟩;have c0:=fb.trans fc;refine⟨_,rfl,_,rfl,_,rfl,_,rfl,hd,en,wd,WA,D,tc,G,rfl,Sc,by lia,λM Hd td Sd b2 co _=>?_⟩;refine⟨_,rfl,_,rfl,_,rfl,hd,en,wd,WA,D,td,G,rfl,Sd,by lia,λx2 He te Se fe ck _=>?_⟩;have bs:=(c0.trans b2).trans fe;refine⟨dJ rfl,λpg af=>?_⟩;have Sf:=Se.fr0<|FrS.new (S:=[]) (o:=.lst [V.non,V.str M,V.str x2]) af;have ff:=bs.trans<|FrS.new (o:=.lst [V.non,V.str M,V.str x2]) af;have b0:pg≠hd:=λz=>Se.notin af (by rw[z];simp)
 obtain⟨d,m,Z⟩:=Sf.hand;refine⟨hd,pg,d,m,te,G,_,rfl,Z,by lia,b0,SqL.of zb1,by simp,by show 3<1000;decide,λgv dg ah tg ag cg eg=>?_⟩;have Sg:=Sf.setHand (r':=G) cg;have fg:=ff.put' (a:=hd) (o:=hl dg ah tg G) (by trivial);obtain⟨X,a4,hk⟩:=Sg.env;obtain⟨kt,cd,be⟩:=Sg.told;obtain⟨J,aw,ch⟩:∃J:Option V,mF (upd (upd He pg<|.lst [V.non,V.str M,V.str x2]) hd<|hl dg ah tg G) en gv J/\(J.getD .non=.non\/∃n∈D.names,J.getD .non=.str n):=by
  simp only[wr5,aZ,cY]at ag;rcases ag with rfl | rfl | rfl
  .exact⟨none,⟨X,.inl a4,.inl ⟨rfl,rfl⟩⟩,.inl rfl⟩
  .exact⟨_,⟨X,.inl a4,.inr ⟨Sum.inr M,rfl,rfl⟩⟩,hk.get _⟩
  .exact⟨_,⟨X,.inl a4,.inr ⟨Sum.inr x2,rfl,rfl⟩⟩,hk.get _⟩
 exists _,rfl,en,rfl,.inl ⟨_,.inl a4⟩,_,rfl,J,aw,_,rfl,wd,_,rfl,Sg.w.g.2.2.2.2.2.2.2.2.1,_,rfl,WA.told,_,rfl,DPut.k (k:=(Sum.inr dn:aJ)) cd<|bO (by have:=be.len;lia);have Sh:=Sg.setTold<|be.put ax ch;have fh:=fg.put' (a:=WA.told) (o:=.dK<|aO kt (Sum.inr dn)<|J.getD .non) (by trivial);have ca:=b1.keep fh;refine⟨_,rfl,_,rfl,C,_,rfl,.inl ⟨SqL.of ca.2,λW ar=>?_⟩⟩;refine⟨_,rfl,_,rfl,dJ rfl,λpr a8=>?_⟩;have fk:FrS (Ms hd en WA) Hc (upd (upd (upd He pg<|.lst [V.non,V.str M,V.str x2]) hd<|hl dg ah tg G) WA.told<|.dK<|aO kt (Sum.inr dn)<|J.getD .non):=(((b2.trans fe).trans<|FrS.new af).put'<|.head _).put'<|.tail _<|.tail _<|.head _;have b4:=(Sc.tup fk).trans<|(Tup.new ar).trans<|Tup.new (o:=.tup [V.str dn,V.ref W,V.ref rv,gv]) a8;have bz:DpG (upd (upd (upd (upd (upd He pg<|.lst [V.non,V.str M,V.str x2]) hd<|hl dg ah tg G) WA.told<|.dK<|aO kt (Sum.inr dn)<|J.getD .non) W<|.tup<|qs.map V.str) pr<|.tup [V.str dn,V.ref W,V.ref rv,gv]) (.ref W) gv:=by
  simp only[wr5,aZ,cY]at ag;rcases ag with rfl | rfl | rfl
  .exact⟨W,_,none,rfl,(Tup.new a8) _ _ zb1,rfl,by lia⟩
  .exact⟨W,_,some M,rfl,(Tup.new a8) _ _ zb1,rfl,by lia⟩
  .exact⟨W,_,some x2,rfl,(Tup.new a8) _ _ zb1,rfl,by lia⟩
 exact q pr dn _ gv rv bi c4 _ tg G b3 zb1 bz (b4 _ _ cf) (bu.keep b4) aa ((Sh.fr0<|FrS.new ar).fr0<|FrS.new a8).close (b7 _<|(fh.trans<|FrS.new ar).trans<|FrS.new a8) c8 bn (by lia)
def WK{K:Fq}{a:Addr}{xs:List V}{g:TG}{tb:TS}{D:cU}{σ:St}{H:Hp}(b:Nat->St->Hp->Prop)(h0:b 0 σ H)(hl:∀i σ H,i<=↑xs->b i σ H->SqL K H a xs)
  (hs:∀i x p σ H,xs[i]?=some x->b i σ H->H p=none->g (.ref p) σ (upd H p<|.tup [.int (i:Nat),x]) λσ2 H2=>tb {D with nx:=b<|i+1,ct:=b<|i+1,bk:=D.nx} σ2 H2) (hd:∀σ H,b ↑xs σ H->D.nx σ H):
  ∃W:Nat->Nat->St->Hp->Prop,(∃m,W 0 m σ H)/\∀i m σ H,W i m σ H->
   ((yX K a).stop i H/\D.nx σ H)\/((yX K a).go i H/\∃N:St->Hp->Prop,(∀σ' H',N σ' H'->∃m',m'<m/\W (i+1) m' σ' H')/\∀x H',(yX K a).yld i H x H'->g x σ H' λσ2 H2=>tb {D with nx:=N,ct:=N,bk:=D.nx} σ2 H2):=by
 exists λi m σ H=>m=↑xs-i/\i<=↑xs/\b i σ H,⟨↑xs,by simp,bT _,h0⟩;rintro i m σ H ⟨rfl,hi,p⟩;have q:=hl i σ H hi p
 by_cases d:i<↑xs
 .refine .inr ⟨⟨xs,xs[i],q,by simp[d]⟩,b<|i+1,λσ' H' l=>⟨↑xs-(i+1),by lia,rfl,d,l⟩,λx H' y=>?_⟩;obtain⟨p2,h,f,rfl,rfl,j⟩:=y;exact hs i h p2 σ _ (j xs q) p f
 .have e:i=↑xs:=by lia
  subst e;exact .inl ⟨⟨xs,q,aY _⟩,hd σ H p⟩
inductive uC(H:Hp)(hd pn pt pl:Addr)(n:Nat)(way t r:Int)(ws:List Str)(i:Nat)(σ:St)(Hx:Hp):Prop
 | mk(kx nx ex:Option V)(dx mx tx:Int)(tr:Tr)(ts:List Addr)(late:List Str)(h1:σ=[some<|.ref hd,some<|.int (n:Int),some<|.ref pn,some<|.int way,some<|.ref pt,some<|.ref pl,kx,nx,ex])
   (h2:FrS [hd] H Hx) (h3:Hand Hx hd dx mx tx r) (h4:tx<=t+12+3*(i:Int)) (h5:Hx pn=some (.lst<|ws.map V.str)) (h6:Hx pt=some (.lst<|ts.map V.ref)) (h7:Hx pl=some (.lst<|late.map V.str)) (h8:↑ts=i) (h9:tr.map (·.1)=ws.take i) (h10:TrOk tr)
   (h11:∀(j:Nat) t x,ts[j]?=some t->tr[j]?=some x->Hx t=some (.tup [.str x.1,aS x.2])) (h12:↑late<=i) (h13:∀x∈late,∃j,1<=j/\j<i/\ws[j]?=some x) (h14:yT tr late):uC H hd pn pt pl n way t r ws i σ Hx
abbrev HF:Stmt:=top 53
inductive LN(vs:List V)(H:Hp)(Q:VK):Prop
 | mk(hd:Addr)(d m t r:Int)(h1:vs=[.ref hd])(h2:Hand H hd d m t r)(h3:t+100<1000000)(h4:∀(a tp lp:Addr)(ts:List Addr)(tr:Tr)(late:List Str)(d' m' t':Int)(H':Hp),FrS [hd] H H'->Hand H' hd d' m' t' r->t'<=t+60->H' a=some (.tup [.ref tp,.ref lp])->H tp=none->H lp=none->H' tp=some (.lst<|ts.map V.ref)->↑ts=↑tr->(∀(j:Nat) t x,ts[j]?=some t->tr[j]?=some x->H' t=some (.tup [.str x.1,aS x.2]))->TrOk tr->tr≠[]->↑tr<=12->H' lp=some (.lst<|late.map V.str)->yT tr late->↑late<=12->(∃x∈tr.map (·.1),x∉late)->(∀x∈late,x∈tr.map (·.1))->Q (.ref a) H'):LN  vs H Q
def GX:Sp:=λvs H Q _=>LN  vs H Q
abbrev wE:List Str:=[qH,"_law_many","_law_names","_law_way","_law_tree_here","_law_late","_law_k","_law_name","_law_elder"]
def zp6:bY wE [qH] (bP HF):=cE
def Ao(F:Fun K "_law_tree" "_law_tree" HF f fd)(T:aR P w K mg base k "_law_take" qB fZ)(O:aR P w K mg base k "_law_of" qC (cR K))(W:aR P w K mg base k "_law_words" qB DI)(ml:mg "len"=none)(me:mg "enumerate"=none):aQ P w K mg base bQ (k+1) f fd [qH] GX:=by
 refine F.ok zp6 (λvs H Q E h=>?_) λcz A outer s H vs Q E hr h=>?_
 .obtain⟨hd,d,m,t,r,rfl,_⟩:=h;rfl
 obtain⟨hd,d,m,t,r,rfl,hh,ht,q⟩:=h;have hu:=eU hr;exists _,aG (sL 1 zp6.nd<|bC O hr rfl<|aA (pv 0)<|aA (cW<|dL<|dL<|dL<|dL<|dL<|dL<|dL<|dL aE) aE)
  (aG (sL 2 zp6.nd<|bC W hr rfl<|aA (pv 0)<|aA (pv 1) aE)<|aG (sL 3 zp6.nd<|bC T hr rfl<|aA (pv 0)<|aA aN aE)<|aG (sL 4 zp6.nd<|cW aE)<|aG (sL 5 zp6.nd<|cW aE)<|aG (eC dW rfl (TV rfl me<|aA (pv 2) aE) (dS (n:=2) rfl<|bI (gL 6 zp6.nd)<|bI (gL 7 zp6.nd) dV)<|aG (sL 8 zp6.nd gH)<|aG (cK (PW.pt<|jD (cA kE (pv 6) aN<|cF _)<|kR<|cA kE (bC T hr rfl<|aA (pv 0)<|aA aN aE) aN<|cF _) (aV<|sL 8 zp6.nd<|eI (pv 2)<|eI (cW<|aA (cB lO (pv 6) aN)<|aA aN<|aA (cB yO (cB lO (pv 6) aN) aN)<|aA (bC T hr rfl<|aA (pv 0)<|aA (pv 6) aE) aE)<|pv 3) cO)<|aG (cK (PW.pt<|jD (cA sD (pv 8) (pv 5) rfl)<|kR<|cA fK (eR gK rfl ml gB<|aA (pv 5) aE) aN<|cF _) (aV<|sL 8 zp6.nd gH) cO)<|aG (cK (PW.pt<|CV (cA sD (pv 8) (pv 5) rfl)<|GQ<|PW.pt<|jD (cA uG (eR gK rfl ml gB<|aA (pv 5) aE) aN<|cF _)<|jD (cA kE (pv 6) aN<|cF _)<|kR<|cA fK (bC T hr rfl<|aA (pv 0)<|aA aN aE) aN<|cF _) (aV<|dZ<|fI eX fQ fV fL (pv 5)<|aA (pv 7) aE) cO)<|aV<|dZ<|fI eX fQ fV fL (pv 4)<|aA (cX<|aA (pv 7)<|aA (pv 8) aE) aE)<|aV<|bL<|cX<|aA (pv 4)<|aA (pv 5) aE)
 ac_rfl
 refine⟨_,rfl,dJ rfl,λp0 bh=>?_⟩;have cl:p0≠hd:=λz=>by rw[z,hh.1]at bh;cases bh
 have cf:Hand (upd H p0<|.lst [V.int 1,V.int 2,V.int 3,V.int 4,V.int 5,V.int 6,V.int 8,V.int 12]) hd d m t r:=hh.new bh;have f0:FrS [hd] H (upd H p0<|.lst [V.int 1,V.int 2,V.int 3,V.int 4,V.int 5,V.int 6,V.int 8,V.int 12]):=FrS.new bh;have cc:upd H p0 (.lst [V.int 1,V.int 2,V.int 3,V.int 4,V.int 5,V.int 6,V.int 8,V.int 12]) p0=some (.lst [V.int 1,V.int 2,V.int 3,V.int 4,V.int 5,V.int 6,V.int 8,V.int 12]):=zb1;generalize upd H p0 (.lst [V.int 1,V.int 2,V.int 3,V.int 4,V.int 5,V.int 6,V.int 8,V.int 12])=H0 at cf f0 cc;refine⟨hd,p0,d,m,t,r,_,rfl,cf,by lia,cl,SqL.of cc,by simp,by show 8<1000;decide,λx d1 m1 t1 u c1 e1=>?_⟩;obtain⟨n,rfl,n1,co⟩:∃n:Nat,x=.int (n:Int)/\1<=n/\n<=12:=by
  simp only[wr5,aZ,cY]at u;rcases u with rfl | rfl | rfl | rfl | rfl | rfl | rfl | rfl
  .exact⟨1,rfl,by decide,by decide⟩
  .exact⟨2,rfl,by decide,by decide⟩
  .exact⟨3,rfl,by decide,by decide⟩
  .exact⟨4,rfl,by decide,by decide⟩
  .exact⟨5,rfl,by decide,by decide⟩
  .exact⟨6,rfl,by decide,by decide⟩
  .exact⟨8,rfl,by decide,by decide⟩
  .exact⟨12,rfl,by decide,by decide⟩
 have f1:FrS [hd] H (upd H0 hd<|hl d1 m1 t1 r):=f0.put' (by trivial);have ch:Hand (upd H0 hd<|hl d1 m1 t1 r) hd d1 m1 t1 r:=Hand.at c1;generalize upd H0 hd (hl d1 m1 t1 r)=H1 at f1 ch;refine⟨_,rfl,_,rfl,hd,d1,m1,t1,r,n,rfl,ch,by lia,co,λpn ws d2 m2 t2 H2 f2 ci cy d0 be d4 cd=>?_⟩;have cs:=f1.trans f2;refine⟨_,rfl,hd,d2,m2,t2,r,4,rfl,ci,by lia,by decide,by decide,λN d3 m3 t3 w0 w1 c3 e3=>?_⟩;have c8:FrS [hd] H (upd H2 hd<|hl d3 m3 t3 r):=cs.put' (by trivial);have bj:Hand (upd H2 hd<|hl d3 m3 t3 r) hd d3 m3 t3 r:=Hand.at c3;have ar:upd H2 hd (hl d3 m3 t3 r) pn=some (.lst<|ws.map V.str):=by rw[aC<|hV be ci];exact be
 generalize upd H2 hd (hl d3 m3 t3 r)=H3 at c8 bj ar;refine⟨bT _,λpt b8=>?_⟩;have bv:=bj.new (o:=.lst []) b8;have br:FrS [hd] H (upd H3 pt<|.lst []):=c8.trans<|FrS.new b8;have ai:upd H3 pt (.lst []) pn=some (.lst<|ws.map V.str):=by rw[aC<|bA ar b8];exact ar
 have as:upd H3 pt (.lst []) pt=some (.lst []):=zb1;have ak:H pt=none:=nZ c8 bj b8;have bz:pn≠pt:=bA ar b8;generalize upd H3 pt (.lst [])=H4 at bv br ai as;refine⟨bT _,λC b3=>?_⟩;have bm:=bv.new (o:=.lst []) b3;have ca:FrS [hd] H (upd H4 C<|.lst []):=br.trans<|FrS.new b3;have ao:upd H4 C (.lst []) pn=some (.lst<|ws.map V.str):=by rw[aC<|bA ai b3];exact ai
 have b9:upd H4 C (.lst []) pt=some (.lst []):=by rw[aC<|bA as b3];exact as
 have ba:upd H4 C (.lst []) C=some (.lst []):=zb1;have am:H C=none:=nZ br bv b3;have bu:pn≠C:=bA ai b3;have b7:pt≠C:=bA as b3;generalize upd H4 C (.lst [])=H5 at bm ca ao b9 ba;have az:pn≠hd:=hV ao bm;have ah:pt≠hd:=λz=>by rw[z,hh.1]at ak;cases ak
 have ap:C≠hd:=λz=>by rw[z,hh.1]at am;cases am
 exists _,rfl,pn,_,rfl,SqL.of ao;refine WK (xs:=ws.map V.str) (uC H hd pn pt C n N t r ws)
  ⟨_,_,_,d3,m3,t3,[],[],[],rfl,ca,bm,by lia,ao,b9,ba,rfl,rfl,TrOk.nil,(λj t x h=>by simp at h),by simp,by simp,λ_ h=>nomatch h⟩ ?_ ?_ ?_
 .rintro i σ Hx hi ⟨_,_,_,_,_,_,_,_,_,_,_,_,_,af,_⟩;exact SqL.of af
 .rintro i x p σ Hx u ⟨kx,nx,ex,dx,mx,tx,tr,ts,l,rfl,fx,bn,cb,af,b1,b0,c9,ae,hok,c7,cg,b4,bf⟩ hp;obtain⟨hi,_⟩:=wr1.mp u;rw[aI]at hi;rw[bZ,bH hi]at u;cases u;have ce:ws[i]?=some ws[i]:=bH hi;exists p,_,rfl,SqT.of zb1,rfl,_,_,rfl,_,_,rfl,rfl;have keep:∀b o,Hx b=some o->upd Hx p (.tup [V.int (i:Nat),V.str ws[i]]) b=some o:=λb o e=>by rw[aC<|bA e hp];exact e
  have bg:FrS [hd] H (upd Hx p<|.tup [V.int (i:Nat),V.str ws[i]]):=fx.trans<|FrS.new hp;have ac:Hand (upd Hx p<|.tup [V.int (i:Nat),V.str ws[i]]) hd dx mx tx r:=bn.new hp;have al:∀(j:Nat) t x,ts[j]?=some t->tr[j]?=some x->upd Hx p (.tup [V.int (i:Nat),V.str ws[i]]) t=some (.tup [.str x.1,aS x.2]):=λj t x a b=>keep _ _<|c7 j t x a b;have ag:=keep _ _ af;have aj:=keep _ _ b1;have aq:=keep _ _ b0;generalize upd Hx p (.tup [V.int (i:Nat),V.str ws[i]])=Hy at bg ac al ag aj aq;have bd:ws[i]∉tr.map (·.1):=by
   rw[ae];intro hm;obtain⟨j,hj,ej⟩:=kY hm;rw[eS]at hj;rw[List.getElem_take]at ej;have:=(yI cd).mp ej;lia
  have fin:∀(e:Option Str)(a6:List Str)(B:Hp)(dz Z M:Int),(∀x,e=some x->x∈ws.take i)->FrS [hd] H B->Hand B hd dz Z M r->M<=t+12+3*((i+1:Nat):Int)->B pn=some (.lst<|ws.map V.str)->B pt=some (.lst<|ts.map V.ref)->B C=some (.lst<|a6.map V.str)->
    (∀(j:Nat) t x,ts[j]?=some t->tr[j]?=some x->B t=some (.tup [.str x.1,aS x.2]))->↑a6<=i+1->(∀x∈a6,∃j,1<=j/\j<i+1/\ws[j]?=some x)->yT (tr++[(ws[i],e)]) a6->
    zE (uK K "list" uM (aL 4)<|bG (gR<|bG (aL 7)<|bG (aL 8) bK) bK)
    ⟨uC H hd pn pt C n N t r ws<|i+1,λ_ _=>False,λ_ _=>False,λ_ _=>False⟩
    [some<|.ref hd,some<|.int (n:Int),some<|.ref pn,some<|.int N,some<|.ref pt,some<|.ref C,some<|.int (i:Nat),some<|.str ws[i],some<|aS e] B:=by
   intro e a6 B dz Z M he fz ad c6 a7 a5 X a8 cr c0 bs;refine⟨_,rfl,.inl ⟨rfl,_,SqL.of a5⟩,_,rfl,_,rfl,dJ rfl,λpp au=>?_⟩;have b5:upd B pp (.tup [V.str ws[i],aS e]) pt=some (.lst<|ts.map V.ref):=by rw[aC<|bA a5 au];exact a5
   have bp:pp≠pt:=λz=>by rw[z,a5]at au;cases au
   refine⟨pt,_,_,rfl,rfl,b5,by rw[aI];exact bO (by lia),_,_,_,dz,Z,M,tr++[(ws[i],e)],ts++[pp],a6,rfl,(fz.trans<|FrS.new au).put ak,?_,c6,?_,?_,?_,?_,?_,?_,?_,cr,c0,bs⟩
   .exact⟨by rw[aC ah.symm,aC<|bA ad.1 au];exact ad.1,ad.2⟩
   .rw[aC bz,aC<|bA a7 au];exact a7
   .rw[zb1,bX];rfl
   .rw[aC b7.symm,aC<|bA X au];exact X
   .rw[bJ,c9];rfl
   .rw[bX,ae,fE,ce];rfl
   .exact hok.snoc bd λx u=>by rw[ae];exact he x u
   .intro j t' x av u;have bk:↑tr=↑ts:=by
     have:=cM List.length ae;rw[aI,eS]at this;lia
    by_cases hj:j<↑ts
    .rw[jM hj]at av;rw[jM<|by lia]at u;have L:=a8 j t' x av u;have h4:upd B pp (.tup [V.str ws[i],aS e]) t'=some (.tup [.str x.1,aS x.2]):=by rw[aC<|bA L au];exact L
     rw[aC λz=>by rw[z,b5]at h4;cases h4];exact h4
    .rw[iR<|by lia]at av;rw[iR (by lia),bk]at u;have h0:j-↑ts=0:=by
      cases hz:j-↑ts with
      | zero=>rfl
      | succ k=>rw[hz]at av;simp at av
     rw[h0]at av u;simp only[CN,BF]at av u;subst av u;rw[aC bp];exact zb1
  have bx:∀(e:Option Str)(B:Hp)(dz Z M:Int),(∀x,e=some x->x∈ws.take i)->(i=0->e=none)->FrS [hd] H B->Hand B hd dz Z M r->M<=t+14+3*(i:Int)->B pn=some (.lst<|ws.map V.str)->B pt=some (.lst<|ts.map V.ref)->B C=some (.lst<|l.map V.str)->
    (∀(j:Nat) t x,ts[j]?=some t->tr[j]?=some x->B t=some (.tup [.str x.1,aS x.2]))->
    eZ (hI (KM (hY<|dR (jK K false) (aL 8)<|aL 5)<|iN (hY<|dR (gZ λi j=>.bl<|decide<|i<j) (mJ (λxs H Q=>∃p ys,xs=[.ref p]/\(SqL K H p ys\/SqT K H p ys)/\Q (.int ↑ys) H)<|bG (aL 5) bK)<|tC<|.int 6)<|iN (hY<|dR (gZ λi j=>.bl<|decide<|j<i) (aL 6)<|tC<|.int 0)<|hY<|dR pN (gE fZ [] E0<|bG (aL 0)<|bG (tC<|.int 4) bK)<|tC<|.int 0) (zE<|uK K "list" uM (aL 5)<|bG (aL 7) bK) sQ)
    (zE<|uK K "list" uM (aL 4)<|bG (gR<|bG (aL 7)<|bG (aL 8) bK) bK)
    ⟨uC H hd pn pt C n N t r ws<|i+1,λ_ _=>False,λ_ _=>False,λ_ _=>False⟩
    [some<|.ref hd,some<|.int (n:Int),some<|.ref pn,some<|.int N,some<|.ref pt,some<|.ref C,some<|.int (i:Nat),some<|.str ws[i],some<|aS e] B:=by
   intro e B dz Z M he bi fz ad c6 a7 a5 X a8;have fl:iH (aS e)=true:=by cases e <;> rfl
   have app:1<=i->∀(G:Hp)(I J tv:Int),FrS [hd] H G->Hand G hd I J tv r->tv<=t+15+3*(i:Int)->G pn=some (.lst<|ws.map V.str)->G pt=some (.lst<|ts.map V.ref)->G C=some (.lst<|l.map V.str)->
     (∀(j:Nat) t x,ts[j]?=some t->tr[j]?=some x->G t=some (.tup [.str x.1,aS x.2]))->_:=λh1 G I J tv fv aa ct a4 a3 Y a2=>
    fin e (l++[ws[i]]) (upd G C<|.lst<|l.map V.str++[V.str ws[i]]) I J tv he (fv.put am) ⟨by rw[aC ap.symm];exact aa.1,aa.2⟩ (by lia) (by rw[aC bu];exact a4) (by rw[aC b7];exact a3) (by rw[zb1,bX];rfl)
     (λj t x a b=>by have L:=a2 j t x a b;rw[aC λz=>by rw[z,Y]at L;cases L];exact L) (by rw[bJ,dQ];lia)
     (λx u=>by
      rcases wt2.mp u with h | h
      .obtain⟨j,j1,j2,j3⟩:=b4 x h;exact⟨j,j1,by lia,j3⟩
      .rw[wr8.mp h];exact⟨i,h1,by lia,ce⟩)
     (λx u e0 e1 e2=>by
      rcases wt2.mp u with u | u
      .rcases wt2.mp e2 with e2 | e2
       .exact qQ _<|bf x u e0 e1 e2
       .exact absurd (hok.elder u e1) (by rw[wr8.mp e2];exact bd)
      .rw[wr8.mp u];exact fW _<|.head _)
   have bt:(∀e0,e=some e0->e0∉l)->∀(G:Hp)(I J tv:Int),FrS [hd] H G->Hand G hd I J tv r->tv<=t+15+3*(i:Int)->G pn=some (.lst<|ws.map V.str)->G pt=some (.lst<|ts.map V.ref)->G C=some (.lst<|l.map V.str)->
     (∀(j:Nat) t x,ts[j]?=some t->tr[j]?=some x->G t=some (.tup [.str x.1,aS x.2]))->_:=λb6 G I J tv fv aa ct a4 a3 Y a2=>
    fin e l G I J tv he fv aa (by lia) a4 a3 Y a2 (by lia) (λx u=>by
      obtain⟨j,j1,j2,j3⟩:=b4 x u;exact⟨j,j1,by lia,j3⟩) (λx u e0 e1 e2=>by
      rcases wt2.mp u with u | u
      .exact bf x u e0 e1 e2
      .rw[wr8.mp u]at e1;exact absurd e2<|b6 e0 e1)
   exists _,rfl,_,rfl,C,_,rfl,.inl<|SqL.of X,fl,jS _,_,rfl;refine bB (λc=>?_) λc=>?_
   .have h1:1<=i:=by
     rcases Nat.eq_zero_or_pos i with h | h
     .exfalso;rw[bi h]at c;have:l=[]:=vg5.mp (by lia);rw[this]at c;cases c
     .exact h
    exact⟨_,rfl,.inl ⟨rfl,_,SqL.of X⟩,_,rfl,C,_,_,rfl,rfl,X,by rw[aI];exact bO (by lia),app h1 B dz Z M fz ad (by lia) a7 a5 X a8⟩
   .have b6:∀e0,e=some e0->e0∉l:=λe0 z hm=>c (by
     rw[z];show gU (.str e0) (l.map V.str)=true;rw[kU];exact eE hm)
    exists _,rfl,C,_,rfl,.inl<|SqL.of X,_,_,rfl,rfl,_,rfl;refine bB (λc2=>?_) λc2=>bt b6 B dz Z M fz ad (by lia) a7 a5 X a8;exists _,rfl,_,_,rfl,rfl,_,rfl;refine bB (λc3=>?_) λc3=>bt b6 B dz Z M fz ad (by lia) a7 a5 X a8;have h1:(0:Int)<(i:Int):=cS c3;refine⟨_,rfl,hd,dz,Z,M,r,4,rfl,ad,by lia,by decide,by decide,λy I J tv y0 y1 cv ev=>⟨rfl,_,rfl,?_⟩⟩;have aa:Hand (upd B hd<|hl I J tv r) hd I J tv r:=Hand.at cv;have fv:FrS [hd] H (upd B hd<|hl I J tv r):=fz.put' (by trivial);have a4:upd B hd (hl I J tv r) pn=some (.lst<|ws.map V.str):=by rw[aC az];exact a7
    have a3:upd B hd (hl I J tv r) pt=some (.lst<|ts.map V.ref):=by rw[aC ah];exact a5
    have Y:upd B hd (hl I J tv r) C=some (.lst<|l.map V.str):=by rw[aC ap];exact X
    have a2:∀(j:Nat) t x,ts[j]?=some t->tr[j]?=some x->upd B hd (hl I J tv r) t=some (.tup [.str x.1,aS x.2]):=λj t x a b=>by
     have L:=a8 j t x a b;rw[aC λz=>by rw[z,ad.1]at L;cases L];exact L
    refine bB (λc4=>?_) λc4=>bt b6 _ I J tv fv aa (by lia) a4 a3 Y a2;exact⟨_,rfl,.inl ⟨rfl,_,SqL.of Y⟩,_,rfl,C,_,_,rfl,rfl,Y,by rw[aI];exact bO (by lia),app (by lia) _ I J tv fv aa (by lia) a4 a3 Y a2⟩
  have aw:∀(e:Option Str)(B:Hp)(dz Z M:Int),(∀x,e=some x->x∈ws.take i)->(i=0->e=none)->FrS [hd] H B->Hand B hd dz Z M r->M<=t+14+3*(i:Int)->B pn=some (.lst<|ws.map V.str)->B pt=some (.lst<|ts.map V.ref)->B C=some (.lst<|l.map V.str)->
    (∀(j:Nat) t x,ts[j]?=some t->tr[j]?=some x->B t=some (.tup [.str x.1,aS x.2]))->∀R:TS,(∀e':Option Str,(∀x,e'=some x->x∈ws.take i)->(i=0->e'=none)->R ⟨uC H hd pn pt C n N t r ws<|i+1,λ_ _=>False,λ_ _=>False,λ_ _=>False⟩ [some<|.ref hd,some<|.int (n:Int),some<|.ref pn,some<|.int N,some<|.ref pt,some<|.ref C,some<|.int (i:Nat),some<|.str ws[i],some<|aS e'] B)->
    eZ (hI (iN (hY<|dR (jK K false) (aL 8)<|aL 5)<|hY<|dR pN (mJ (λxs H Q=>∃p ys,xs=[.ref p]/\(SqL K H p ys\/SqT K H p ys)/\Q (.int ↑ys) H)<|bG (aL 5) bK)<|tC<|.int 6) (fN (tC .non)<|cG 8) sQ) R
    ⟨uC H hd pn pt C n N t r ws<|i+1,λ_ _=>False,λ_ _=>False,λ_ _=>False⟩
    [some<|.ref hd,some<|.int (n:Int),some<|.ref pn,some<|.int N,some<|.ref pt,some<|.ref C,some<|.int (i:Nat),some<|.str ws[i],some<|aS e] B:=by
   intro e B dz Z M he bi fz ad c6 a7 a5 X a8 R hR;have fl:iH (aS e)=true:=by cases e <;> rfl
   exists _,rfl,_,rfl,C,_,rfl,.inl<|SqL.of X,fl,jS _,_,rfl;refine bB (λc=>?_) λc=>hR e he bi;exists _,rfl,C,_,rfl,.inl<|SqL.of X,rfl,_,rfl;refine bB (λc=>?_) λc=>hR e he bi;exact hR none (λx u=>nomatch u) λ_=>rfl
  exists _,rfl,_,_,rfl,rfl,_,rfl;refine bB (λc=>?_) λc=>?_
  rotate_left
  .exact aw none Hy dx mx tx (λx u=>nomatch u) (λ_=>rfl) bg ac (by lia) ag aj aq al _ λe' bb ab=>bx e' Hy dx mx tx bb ab bg ac (by lia) ag aj aq al
  have cw:(0:Int)<(i:Int):=cS c;refine⟨_,rfl,hd,dx,mx,tx,r,6,rfl,ac,by lia,by decide,by decide,λy I J tv y0 y1 cv ev=>⟨_,_,rfl,rfl,_,rfl,?_⟩⟩;have aa:Hand (upd Hy hd<|hl I J tv r) hd I J tv r:=Hand.at cv;have fv:FrS [hd] H (upd Hy hd<|hl I J tv r):=bg.put' (by trivial);have a4:upd Hy hd (hl I J tv r) pn=some (.lst<|ws.map V.str):=by rw[aC az];exact ag
  have a3:upd Hy hd (hl I J tv r) pt=some (.lst<|ts.map V.ref):=by rw[aC ah];exact aj
  have Y:upd Hy hd (hl I J tv r) C=some (.lst<|l.map V.str):=by rw[aC ap];exact aq
  have a2:∀(j:Nat) t x,ts[j]?=some t->tr[j]?=some x->upd Hy hd (hl I J tv r) t=some (.tup [.str x.1,aS x.2]):=λj t x a b=>by
   have L:=al j t x a b;rw[aC λz=>by rw[z,ac.1]at L;cases L];exact L
  generalize upd Hy hd (hl I J tv r)=G at aa fv a4 a3 Y a2;refine bB (λc=>?_) λc=>?_
  rotate_left
  .exact aw none G I J tv (λx u=>nomatch u) (λ_=>rfl) fv aa (by lia) a4 a3 Y a2 _ λe' bb ab=>bx e' G I J tv bb ab fv aa (by lia) a4 a3 Y a2
  refine⟨_,rfl,_,rfl,_,_,rfl,rfl,_,rfl,_,_,rfl,rfl,_,_,rfl,rfl,⟨by decide,by decide⟩,_,rfl,_,rfl,hd,I,J,tv,r,_,rfl,aa,by lia,by lia,by lia,λz du mu tu z0 z1 cu eu=>⟨dJ rfl,λp4 bq=>?_⟩⟩;have c5:Hand (upd G hd<|hl du mu tu r) hd du mu tu r:=Hand.at cu;have cp:FrS [hd] H (upd G hd<|hl du mu tu r):=fv.put' (by trivial);have kp:∀b o,b≠hd->G b=some o->upd (upd G hd<|hl du mu tu r) p4 (.lst [V.int<|(i:Int)-1,V.int 0,V.int<|((i:Int)-1) / 2,V.int z]) b=some o:=λb o n e=>by
   have h1:upd G hd (hl du mu tu r) b=some o:=by rw[aC n];exact e
   rw[aC<|bA h1 bq];exact h1
  have bw:=c5.new (o:=.lst [V.int<|(i:Int)-1,V.int 0,V.int<|((i:Int)-1) / 2,V.int z]) bq;have fu:FrS [hd] H (upd (upd G hd<|hl du mu tu r) p4<|.lst [V.int<|(i:Int)-1,V.int 0,V.int<|((i:Int)-1) / 2,V.int z]):=cp.trans<|FrS.new bq;have cj:upd (upd G hd<|hl du mu tu r) p4 (.lst [V.int<|(i:Int)-1,V.int 0,V.int<|((i:Int)-1) / 2,V.int z]) p4=some (.lst [V.int<|(i:Int)-1,V.int 0,V.int<|((i:Int)-1) / 2,V.int z]):=zb1;have an:=kp _ _ az a4;have ay:=kp _ _ ah a3;have ax:=kp _ _ ap Y;have b2:∀(j:Nat) t x,ts[j]?=some t->tr[j]?=some x->upd (upd G hd<|hl du mu tu r) p4 (.lst [V.int<|(i:Int)-1,V.int 0,V.int<|((i:Int)-1) / 2,V.int z]) t=some (.tup [.str x.1,aS x.2]):=λj t x a b=>by
   have L:=a2 j t x a b;exact kp _ _ (λw=>by rw[w,aa.1]at L;cases L) L
  generalize upd (upd G hd<|hl du mu tu r) p4 (.lst [V.int<|(i:Int)-1,V.int 0,V.int<|((i:Int)-1) / 2,V.int z])=Hu at bw fu cj an ay ax b2;obtain⟨ix,cm,cx,cq⟩:∃ix:Nat,dY [V.int<|(i:Int)-1,V.int 0,V.int<|((i:Int)-1) / 2,V.int z] N=some (.int (ix:Int))/\0<=ix/\ix<i:=by
   have hc:N=0\/N=1\/N=2\/N=3:=by lia
   rcases hc with rfl | rfl | rfl | rfl
   .exact⟨i-1,by rw[BH];congr 2;lia,by lia,by lia⟩
   .exact⟨0,by rw[wI];rfl,by lia,by lia⟩
   .exact⟨(((i:Int)-1) / 2).toNat,by rw[HX];congr 2;lia,by lia,by lia⟩
   .exact⟨z.toNat,by rw[yV];congr 2;lia,by lia,by lia⟩
  have cn:dY (ws.map V.str) (ix:Int)=some (.str<|ws[ix]'(by lia)):=mQ (by rw[bZ,bH<|by lia];rfl);exists _,rfl,p4,_,_,_,rfl,rfl,SqL.of cj,cm,pn,_,_,_,rfl,rfl,SqL.of an,cn;have ck:∀x,some (ws[ix]'(by lia))=some x->x∈ws.take i:=λx u=>by
   cases u;have:(ws.take i)[ix]?=some (ws[ix]'(by lia)):=by rw[List.getElem?_take_of_lt cq];exact bH (by lia)
   exact dC this
  exact aw (some<|ws[ix]'(by lia)) Hu du mu tu ck (λh=>by lia) fu bw (by lia) an ay ax b2 _ λe' bb ab=>bx e' Hu du mu tu bb ab fu bw (by lia) an ay ax b2
 .rintro σ Hx ⟨kx,nx,ex,dx,mx,tx,tr,ts,l,rfl,fx,bn,cb,af,b1,b0,c9,ae,hok,c7,cg,b4,bf⟩;rw[aI]at cb c9 ae cg b4;rw[eM<|aY _]at ae;have bc:↑tr=↑ws:=by rw[<-ae,aI]
  refine⟨_,rfl,_,rfl,dJ rfl,λpa bo=>?_⟩;have kp:∀b o,Hx b=some o->upd Hx pa (.tup [V.ref pt,V.ref C]) b=some o:=λb o e=>by rw[aC<|bA e bo];exact e
  refine q pa pt C ts tr l dx mx tx _ (fx.trans<|FrS.new bo) (bn.new bo) (by lia) zb1 ak am (kp _ _ b1) (by lia) (λj t x a b=>kp _ _<|c7 j t x a b) hok ?_ (by lia) (kp _ _ b0) ?_ (by lia) ?_ λx u=>by obtain⟨j,_,_,e⟩:=b4 x u;rw[ae];exact dC e
  .intro z;rw[z]at bc;simp at bc;lia
  .exact bf
  .have h0:0<↑ws:=by lia
   refine⟨ws[0],by rw[ae];exact gW h0,λhm=>?_⟩;obtain⟨j,j1,j2,j3⟩:=b4 _ hm;obtain⟨j4,j5⟩:=wr1.mp j3;have:=(yI cd).mp j5;lia
inductive VF where
 | var (x:Str)
 | cut (x:Str) (lo hi:Option Int)
 | dict0
deriving DecidableEq
def sP:Option Expr->Option (Option Int)
 | none=>some none
 | some (.Constant (.int i) _ _)=>some<|some i
 | _=>none
def BP:Expr->Option VF
 | .Name x _=>some<|.var x
 | .Subscript (.Name x _) (.Slice lo hi none _) _=>match sP lo,sP hi with
  | some a,some b=>some<|.cut x a b
  | _,_=>none
 | .Dict [] [] _=>some .dict0
 | _=>none
def xR:List (Option Expr)->List Expr->Option (List<|Str×VF)
 | [],[]=>some []
 | some (.Constant (.str x) _ _)::ks,v::vs=>match BP v,xR ks vs with
  | some f,some r=>some<|(x,f)::r
  | _,_=>none
 | _,_=>none
def RW:Expr->Option (List<|Str×VF)
 | .Dict ks vs _=>xR ks vs
 | _=>none
def BZ:List Stmt->Expr
 | [.Return (some v) _]=>v
 | _::r=>BZ r
 | []=>.Constant .none 0 ⟨0,0,0,0⟩
def NB:List Stmt->Expr->List Stmt
 | [.Return (some _) p],v=>[.Return (some v) p]
 | a::r,v=>a::NB r v
 | [],_=>[]
section
variable{X:Cx}
structure mS(X:Cx)(i:Nat)(x:Str):Prop where
 n:X.N[i]?=some x
 v:xX X.env.scope x
 d:(x == ("__debug__":Str))=false
 c:(x == ("__classdict__":Str))=false
def qR:Option Int->TO
 | none=>PB
 | some i=>oC<|tC<|.int i
def PF(h:sP e=some o):PO X e (qR o):=by
 cases e with
 | none=>cases h;exact jA
 | some e=>
  cases e with
  | Constant c j pos=>
   cases c with
   | int i=>cases h;exact jH aN
   | _=>cases h
  | _=>cases h
inductive wO(X:Cx):VF->TE->Prop
 | var {i:Nat} {x:Str} (h:mS X i x):wO X (.var x) (aL i)
 | cut {i:Nat} {x:Str} {lo hi:Option Int} (h:mS X i x):wO X (.cut x lo hi) (LK (xB X.K) (aL i) (qR lo)<|qR hi)
 | dict0:wO X .dict0 SK
def YT{f:VF}(h:BP e=some f)(i:wO X f t):PE X e t:=by
 cases e with
 | Name x p=>
  cases h;cases i with
  | var h=>exact IW h.n h.v h.d h.c
 | Subscript a b pos=>
  cases a with
  | Name x p=>
   cases b with
   | Slice lo hi st p2=>
    cases st with
    | some z=>cases h
    | none=>
     have h:(match sP lo,sP hi with | some a,some b=>some (VF.cut x a b) | _,_=>none)=some f:=h;cases h1:sP lo with
     | none=>rw[h1]at h;cases h
     | some a=>
      cases h2:sP hi with
      | none=>rw[h1,h2]at h;cases h
      | some b=>
       rw[h1,h2]at h;cases h;cases i with
       | cut q=>exact jE rZ (IW q.n q.v q.d q.c) (PF h1)<|PF h2
   | _=>cases h
  | _=>cases h
 | Dict ks vs pos=>
  cases ks with
  | nil=>
   cases vs with
   | nil=>
    cases h;cases i;exact tJ
   | cons _ _=>cases h
  | cons _ _=>cases h
 | _=>cases h
inductive xU(X:Cx):List (Str×VF)->List (TE×TE)->Prop
 | nil:xU X [] []
 | cons {x:Str} {f:VF} {t:TE} {fs:List (Str×VF)} {ts:List (TE×TE)} (h:wO X f t) (r:xU X fs ts):xU X ((x,f)::fs) ((tC<|.str x,t)::ts)
theorem MC:∀(ks:List (Option Expr))(vs:List Expr)(fs:List (Str×VF))(ts:List (TE×TE)),xR ks vs=some fs->xU X fs ts->wK X pos ks vs ts/\ks.all (·.isSome)=true/\↑ks=↑vs/\↑ks=↑fs
 | [],[],fs,ts,h,q=>by
  cases h;cases q;exact⟨Cg,rfl,rfl,rfl⟩
 | [],_::_,fs,ts,h,q=>by cases h
 | none::_,_,fs,ts,h,q=>by
  cases h
 | some k::ks,[],fs,ts,h,q=>by
  cases k with
  | Constant c j p=>cases c <;> cases h
  | _=>cases h
 | some k::ks,v::vs,fs,ts,h,q=>by
  cases k with
  | Constant c j p=>
   cases c with
   | str x=>
    have h:(match BP v,xR ks vs with | some f,some r=>some ((x,f)::r) | _,_=>none)=some fs:=h;cases h1:BP v with
    | none=>rw[h1]at h;cases h
    | some f=>
     cases h2:xR ks vs with
     | none=>rw[h1,h2]at h;cases h
     | some r=>
      rw[h1,h2]at h;cases h;cases q with
      | cons ht hr=>
       obtain⟨a,b,c,d⟩:=MC ks vs r _ h2 hr;exact⟨WC bR (YT h1 ht) a,by rw[List.all_cons,b];rfl,by rw[cL,cL,c],by rw[cL,cL,d]⟩
   | _=>cases h
  | _=>cases h
def VM(h:RW e=some fs)(q:xU X fs ts)(h0:fs≠[])(f:↑fs<=15):PE X e (nX ts):=by
 cases e with
 | Dict ks vs pos=>
  obtain⟨a,b,c,d⟩:=MC (pos:=pos) ks vs fs ts h q;refine ZG a b c (λz=>h0 ?_) (by lia);rw[z]at d;exact vg5.mp d.symm
 | _=>cases h
end
def VJ{κ:Type}[DecidableEq κ]{kvs:List (κ×V)}{k:κ}{v:V}(h:aK kvs k=some v):(k,v)∈kvs:=by
 unfold aK at h;obtain⟨p,hp,e⟩:=wt0.mp h;have h1:=qM hp;have a:=vT hp;have h2:p.1=k:=cS a;rw[<-h2,<-e];exact h1
theorem NE{κ:Type}[DecidableEq κ]:∀{kvs:List (κ×V)}{i:Nat}{k:κ}{v:V},(kvs.map (·.1)).Nodup->kvs[i]?=some (k,v)->aK kvs k=some v
 | [],i,k,v,_,h=>by simp at h
 | a::l,0,k,v,_,h=>by
  have:a=(k,v):=by simpa using h
  rw[this];exact iX rfl
 | a::l,i+1,k,v,nd,h=>by
  have h':l[i]?=some (k,v):=by simpa using h
  rw[dB,wv3]at nd;rw[jC λe=>nd.1<|by rw[e];exact ws9.mpr ⟨_,dC h',rfl⟩];exact NE nd.2 h'
theorem RQ:∀(more kvs:List (aJ×V)),((kvs++more).map (·.1)).Nodup->dU kvs more=kvs++more
 | [],kvs,_=>by rw[fO];rfl
 | a::l,kvs,nd=>by
  have b:aK kvs a.1=none:=by
   cases e:aK kvs a.1 with
   | none=>rfl
   | some v=>
    have h1:=BC e;rw[bX,dB]at nd;have:=(List.nodup_append.mp nd).2.2 a.1 h1 a.1<|sJ ..;exact absurd rfl this
  show dU (aO kvs a.1 a.2) l=_;rw[CD _ b,RQ l (kvs++[(a.1,a.2)]) (by rw[jG];exact nd),jG];rfl
theorem OX:∀(more kvs:List (aJ×V)),(∀k,k∈(dU kvs more).map (·.1)↔k∈kvs.map (·.1)\/k∈more.map (·.1))
 | [],kvs,k=>by simp[dU]
 | a::l,kvs,k=>by
  show k∈(dU (aO kvs a.1 a.2) l).map (·.1)↔_;rw[OX l (aO kvs a.1 a.2) k,dB,wr5];rcases GG kvs a.1 a.2 with ⟨e,h⟩ | ⟨e,h⟩
  .rw[e]
   constructor
   .rintro(h1 | h1)
    .exact .inl h1
    .exact .inr<|.inr h1
   .rintro(h1 | h1 | h1)
    .exact .inl h1
    .rw[h1];exact .inl h
    .exact .inr h1
  .rw[e,wt2,wr8]
   constructor
   .rintro((h1 | h1) | h1)
    .exact .inl h1
    .exact .inr<|.inl h1
    .exact .inr<|.inr h1
   .rintro(h1 | h1 | h1)
    .exact .inl<|.inl h1
    .exact .inl<|.inr h1
    .exact .inr h1
def XA(rs:List Str)(v:V):∃qs:List Str,(dU []<|rs.map λr=>((Sum.inr r:aJ),v)).map (λi=>kV i.1)=qs.map V.str/\↑qs<=↑rs/\∀r∈rs,r∈qs:=by
 have d:=OX (rs.map λr=>((Sum.inr r:aJ),v)) [];have f:∀l:List (aJ×V),(∀k∈l.map (·.1),∃x,k=Sum.inr x)->∃qs:List Str,l.map (λi=>kV i.1)=qs.map V.str/\↑qs=↑l/\∀x,(Sum.inr x:aJ)∈l.map (·.1)->x∈qs:=by
  intro l
  induction l with
  | nil=>intro _;exact⟨[],rfl,rfl,by simp⟩
  | cons a l ih=>
   intro h;obtain⟨qs,e,m,j⟩:=ih λk d=>h k<|gX _ d;obtain⟨x,ex⟩:=h a.1 (by simp);refine⟨x::qs,by rw[dB,dB,e,ex];rfl,by simp[m],λy b=>?_⟩;rw[dB,wr5]at b;rcases b with b | b
   .rw[ex]at b;rw[sZ b];exact sJ ..
   .exact gX _<|j y b
 obtain⟨qs,e,m,j⟩:=f (dU []<|rs.map λr=>((Sum.inr r:aJ),v)) λk h=>by
  rcases(d k).mp h with h | h
  .simp at h
  .rw[lJ]at h;obtain⟨x,_,ex⟩:=ws9.mp h;exact⟨x,ex.symm⟩
 refine⟨qs,e,?_,λr hr=>j r<|(d _).mpr<|.inr ?_⟩
 .have:=zL (rs.map λr=>((Sum.inr r:aJ),v)) [];rw[aI,iD]at this;lia
 .rw[lJ];exact ws9.mpr ⟨r,hr,rfl⟩
def WantsOk(M:List Addr)(H:Hp)(N:List Str)(wk:List (List aJ×V))(dn:Str->Str->Prop):Prop:=∀r d,dn r d->∃(p:Addr)(ws:List Str),aK wk [Sum.inr r,Sum.inr d]=some (.ref p)/\Stt M H p (.lst<|ws.map V.str)/\↑ws<=4/\∀x∈ws,x∈N
theorem WantsOk.keep(h:WantsOk M H N wk dn)(f:FrS M H H'):WantsOk M H' N wk dn:=λr d q=>by
 obtain⟨p,ws,a,b,c⟩:=h r d q;exact⟨p,ws,a,b.keep f,c⟩
def WantsOk.put{M:List Addr}{H:Hp}{N:List Str}{f:List (List aJ×V)}{dn:Str->Str->Prop}{r d:Str}{p:Addr}{ws:List Str}(h:WantsOk M H N f dn)(hp:Stt M H p (.lst<|ws.map V.str))(hl:↑ws<=4)(m:∀x∈ws,x∈N):
  WantsOk M H N (aO f [Sum.inr r,Sum.inr d]<|.ref p) (λa b=>dn a b\/(a=r/\b=d)):=λa b q=>by
 by_cases e:([Sum.inr a,Sum.inr b]:List aJ)=[Sum.inr r,Sum.inr d]
 .exact⟨p,ws,by rw[nQ,bE e],hp,hl,m⟩
 .rcases q with q | ⟨rfl,rfl⟩
  .obtain⟨o,n,i,l,j⟩:=h a b q;exact⟨o,n,by rw[nQ,bD e];exact i,l,j⟩
  .exact absurd rfl e
def WantsOk.mono(h:WantsOk M H N wk dn)(f:∀r d,dn' r d->dn r d):WantsOk M H N wk dn':=λr d q=>h r d<|f r d q
def OwnOk(M:List Addr)(H:Hp)(N:List Str)(ok:List (aJ×V))(dn:Str->Prop):Prop:=∀d,dn d->∃(p:Addr)(os:List Str),aK ok (Sum.inr d)=some (.ref p)/\Stt M H p (.lst<|os.map V.str)/\(∀x∈os,x∈N)/\↑os<=13
theorem OwnOk.keep(h:OwnOk M H N ok dn)(f:FrS M H H'):OwnOk M H' N ok dn:=λd q=>by
 obtain⟨p,os,a,b,c⟩:=h d q;exact⟨p,os,a,b.keep f,c⟩
def OwnOk.put{M:List Addr}{H:Hp}{N:List Str}{ok:List (aJ×V)}{dn:Str->Prop}{d:Str}{p:Addr}{os:List Str}(h:OwnOk M H N ok dn)(hp:Stt M H p (.lst<|os.map V.str))(j:∀x∈os,x∈N)(hl:↑os<=13):
  OwnOk M H N (aO ok (Sum.inr d)<|.ref p) (λa=>dn a\/a=d):=λa q=>by
 by_cases e:(Sum.inr a:aJ)=Sum.inr d
 .exact⟨p,os,by rw[nQ,bE e],hp,j,hl⟩
 .rcases q with q | rfl
  .obtain⟨m,l,b,i,f⟩:=h a q;exact⟨m,l,by rw[nQ,bD e];exact b,i,f⟩
  .exact absurd rfl e
def OwnOk.mono'(h:OwnOk M H N ok dn)(f:∀d,dn' d->dn d):OwnOk M H N ok dn':=λd q=>h d<|f d q
def RootsOk(tr:Tr)(i:Nat)(rk:List (aJ×V)):Prop:=rk.map (·.1)=(tr.take i).map (λz=>(Sum.inr z.1:aJ))/\∃rs:List Str,rk.map (·.2)=rs.map V.str
def RootsOk.step(ok:TrOk tr)(h:RootsOk tr i rk)(hi:tr[i]?=some (n,e)):RootsOk tr (i+1) (aO rk (Sum.inr n)<|.str r)/\↑(aO rk (Sum.inr n)<|.str r)=i+1\/i > ↑tr:=by
 left
 have m:n∉(tr.take i).map (·.1):=λo=>by
  obtain⟨z,hz,a⟩:=ws9.mp o;obtain⟨j,l,f⟩:=kY hz;rw[eS]at l;have b:tr[j]?=some (n,z.2):=by rw[bH (by lia),<-a,<-f,List.getElem_take]
  have:=ok.one hi b;lia
 have s:aK rk (Sum.inr n)=none:=by
  cases q:aK rk (Sum.inr n)with
  | none=>rfl
  | some v=>
   have:=BC q;rw[h.1]at this;obtain⟨z,hz,a⟩:=ws9.mp this;exact absurd (ws9.mpr ⟨z,hz,sZ a⟩) m
 obtain⟨rs,d⟩:=h.2;have u:i<↑tr:=(wr1.mp hi).1;rw[CD _ s];exists ⟨?_,rs++[r],?_⟩
 .rw[bX,h.1,fE,hi,bX];rfl
 .rw[bX,d,bX];rfl
 .have:=cM List.length h.1;rw[aI,aI,eS]at this;rw[bJ,dQ];lia
def RootsOk.val{tr:Tr}{i:Nat}{a:List (aJ×V)}(h:RootsOk tr i a){k:aJ}{v:V}(f:aK a k=some v):∃r,v=.str r/\V.str r∈a.map (·.2):=by
 have d:=VJ f;obtain⟨rs,e⟩:=h.2;have:v∈a.map (·.2):=ws9.mpr ⟨_,d,rfl⟩;have h2:=this;rw[e]at this;obtain⟨r,_,b⟩:=ws9.mp this;exact⟨r,b.symm,by rw[b];exact h2⟩
def Ai(xs:List V)(h:b<=↑xs)(d:a<=b):cH xs (some (a:Int)) (some (b:Int))=(xs.drop a).take (b-a):=by
 unfold cH;rw[HT.DX,HT.DX,Nat.min_eq_left h,Nat.min_eq_left<|by lia]
inductive wT(Hb:Hp)(hd tp lp pn pd px pw po pr:Addr)(r t6:Int)(rk:List (aJ×V))(rs ds:List Str)(tr:Tr)(i:Nat)(σ:St)(Hx:Hp):Prop
 | mk(nx ex dx sx:Option V)(da ma ta:Int)(wk:List (List aJ×V))(ok:List (aJ×V))(h1:σ=[some<|.ref hd,some<|.ref tp,some<|.ref lp,some<|.ref pn,some<|.ref pd,some<|.ref px,some<|.ref pw,some<|.ref po,some<|.ref pr,nx,ex,dx,sx])
   (h2:FrS [hd,pw,po,pr] Hb Hx) (h3:Hand Hx hd da ma ta r) (h4:ta<=t6+80*(i:Int)) (h5:Hx pr=some (.dK rk)) (h6:Hx pw=some (.dT wk)) (h7:↑wk<=12*i) (h8:WantsOk [hd,pw,po,pr] Hx (tr.map (·.1)) wk (λa b=>a∈rs/\b∈ds.take i)) (h9:Hx po=some (.dK ok)) (h10:↑ok<=i) (h11:OwnOk [hd,pw,po,pr] Hx (tr.map (·.1)) ok (λb=>b∈ds.take i)):wT Hb hd tp lp pn pd px pw po pr r t6 rk rs ds tr i σ Hx
inductive yH(H9:Hp)(hd tp lp pn pd px pw po pr:Addr)(r ta:Int)(rk ok:List (aJ×V))(rs qs:List Str)(tr:Tr)(dsi:List Str)(di:Str)(ex sx:Option V)(i j:Nat)(σ:St)(Hz:Hp):Prop
 | mk(nx:Option V)(dz mz tz:Int)(wz:List (List aJ×V))(h1:σ=[some<|.ref hd,some<|.ref tp,some<|.ref lp,some<|.ref pn,some<|.ref pd,some<|.ref px,some<|.ref pw,some<|.ref po,some<|.ref pr,nx,ex,some<|.str di,sx])
   (h2:FrS [hd,pw,po,pr] H9 Hz) (h3:Hand Hz hd dz mz tz r) (h4:tz<=ta+5*(j:Int)) (h5:Hz pr=some (.dK rk)) (h6:Hz pw=some (.dT wz)) (h7:↑wz<=12*i+j) (h8:WantsOk [hd,pw,po,pr] Hz (tr.map (·.1)) wz (λa b=>(a∈rs/\b∈dsi)\/(a∈qs.take j/\b=di))) (h9:Hz po=some (.dK ok)):yH H9 hd tp lp pn pd px pw po pr r ta rk ok rs qs tr dsi di ex sx i j σ Hz
inductive zU(H10:Hp)(hd tp lp pn pd px pw po pr ps:Addr)(r tA:Int)(tr:Tr)(di:Str)(j:Nat)(σ:St)(Hz:Hp):Prop
 | mk(nz ez:Option V)(dz mz tz:Int)(ss:List Str)(h1:σ=[some<|.ref hd,some<|.ref tp,some<|.ref lp,some<|.ref pn,some<|.ref pd,some<|.ref px,some<|.ref pw,some<|.ref po,some<|.ref pr,nz,ez,some<|.str di,some<|.ref ps])(h2:FrS [hd] H10 Hz)(h3:Hand Hz hd dz mz tz r)(h4:tz<=tA+(j:Int))(h5:Hz ps=some (.lst<|ss.map V.str))(h6:↑ss<=j)(h7:∀x∈ss,x∈tr.map (·.1)):zU H10 hd tp lp pn pd px pw po pr ps r tA tr di j σ Hz
abbrev nY:Stmt:=top 54
def IV:fU nY=NB (fU nY) (BZ<|fU nY):=rfl
def MF:List (Str×VF):=[("tree",.var "_law_tree_here"),("late",.var "_law_late"),("deeds",.var "_law_deeds"),("wants",.var "_law_wants"),("owners",.var "_law_owners"),("vars",.cut "_law_words_here" none<|some 4),("params",.cut "_law_words_here" (some 4)<|some 8),("fields",.cut "_law_words_here" (some 6) none),("told",.dict0),("held",.dict0),("roots",.var "_law_roots")]
def wR:RW (BZ<|fU nY)=some MF:=by rfl'
inductive MM(vs:List V)(H:Hp)(Q:VK):Prop
 | mk(hd:Addr)(d m t r:Int)(h1:vs=[.ref hd])(h2:Hand H hd d m t r)(h3:t+1000<1000000)(h4:∀(wd:Addr)(A:WA)(D:WD)(H':Hp)(t':Int),Sit0 H' hd wd A D t' r->FrS [hd] H H'->H A.told=none->H A.held=none->t'<=t+900->Q (.ref wd) H'):MM  vs H Q
def GO:Sp:=λvs H Q _=>MM  vs H Q
def jO(h:N σ H):({nx:=N,rt:=r,bk:=b,ct:=c}:cU).nx σ H:=h
def gN(h:Q (σ.set i<|some v) H):cG i v σ H Q:=h
def eQ(h:∀N:St->Hp->Prop,u D=N->t {D with nx:=N} σ H):eZ t u D σ H:=h _ rfl
abbrev pQ:List Str:=[qH,"_law_tree_here","_law_late","_law_names","_law_deeds","_law_words_here","_law_wants","_law_owners","_law_roots","_law_name","_law_elder","_law_deed_here","_law_some"]
def zg8:bY pQ [qH] (bP nY):=cE
def VI(F:Fun K "_law_world" "_law_world" nY f fd)(T:aR P w K mg base k "_law_take" qB fZ)(O:aR P w K mg base k "_law_of" qC (cR K))(W:aR P w K mg base k "_law_words" qB DI)(TR:aR P w K mg base k "_law_tree" [qH] GX)(gu:mg "dict"=none)(mr:mg "range"=none)(mi:mg "int"=none):aQ P w K mg base bQ (k+1) f fd [qH] GO:=by
 refine F.ok zg8 (λvs H Q E h=>?_) λj3 A outer s H vs Q E hr h=>?_
 .obtain⟨hd,d,m,t,r,rfl,_⟩:=h;rfl
 obtain⟨hd,d,m,t,r,rfl,hh,ht,q⟩:=h;have hu:=eU hr;have gi:(["_law_name","_law_elder"]:List Str).Nodup:=by rfl'
 have gj:(["_law_root"]:List Str).Nodup:=by rfl'
 have i9:(["_law_k",qH,"_law_names"]:List Str).Nodup:=by rfl'
 have hO:=wR;rw[IV];generalize BZ (fU nY)=L at hO;exists _,aG (gP (bC TR hr rfl<|aA (pv 0) aE)<|dS (n:=2) rfl<|bI (gL 1 zg8.nd)<|bI (gL 2 zg8.nd) dV)
  (aG (hW (i:=3) zg8.nd rfl (Or.inr rfl)<|jZ (N':=["_law_name","_law_elder"]) (src:=[none,none]) rfl fH (iF<|pv 1) (g:=eN K 2<|eJ (cG 0)<|eJ (cG 1) eK) (λ_ _ _ _=>dS (n:=2) rfl<|bI (gL 0 gi)<|bI (gL 1 gi) dV) (λ_ _ _ _=>gT) λ_ _ _ _=>pv 0) (aG (sL 4 zg8.nd<|bC W hr rfl<|aA (pv 0)<|aA (bC O hr rfl<|aA (pv 0)<|aA (cW<|dL<|dL<|dL<|dL<|dL<|dL<|dL<|dL aE) aE) aE) (aG (sL 5 zg8.nd<|bC W hr rfl<|aA (pv 0)<|aA aN aE) (aG (sL 6 zg8.nd Bu) (aG (sL 7 zg8.nd tJ) (aG (sL 8 zg8.nd tJ) (aG (eC dW rfl (iF<|pv 1) (dS (n:=2) rfl<|bI (gL 9 zg8.nd)<|bI (gL 10 zg8.nd) dV)<|aV<|hB hu (pv 8) (pv 9) (Bm hu (pv 8) (pv 10) (pv 9) ⟨rfl,rfl,rfl,rfl⟩) rfl) (aG (eC dW rfl (iF<|pv 4) (gL 11 zg8.nd) (aG (eC dW rfl (BB (fG (KA rfl) rfl gu (by rfl') (aA (PH (jZ (N':=["_law_root"]) (src:=[none]) rfl fH
     (Bw<|pv 8) (g:=cG 0) (λ_ _ _ _=>gL 0 gj) (λ_ _ _ _=>gT) (λ_ _ _ _=>cX<|aA (pv 0)<|aA vO aE))) aE))) (gL 9 zg8.nd)
    (aV<|hB hu (pv 6) (cX<|aA (pv 9)<|aA (pv 11) aE) (jZ (N':=["_law_k",qH,"_law_names"]) (src:=[none,some 0,some 3]) rfl fH (lN rfl mr<|aA (bC O hr rfl<|aA (pv 0)<|aA (cW<|dL<|dL<|dL<|dL<|dL aE) aE) aE) (g:=cG 0) (λ_ _ _ _=>gL 0 i9) (λ_ _ _ _=>gT) λ_ _ _ _=>bC O hr rfl<|aA (pv 1)<|aA (pv 2) aE) rfl))
   (aG (sL 12 zg8.nd<|cW aE) (aG (eC dW rfl (iF<|pv 1) (dS (n:=2) rfl<|bI (gL 9 zg8.nd)<|bI (gL 10 zg8.nd) dV) (aV (cK (cA fK (bC T hr rfl<|aA (pv 0)<|aA (eI (cW<|dL<|dL aE)<|fG BV rfl mi (by rfl')<|aA (sF<|pY<|pv 10) aE) aE) aN<|cF _)
     (aV<|dZ<|fI eX fQ fV fL (pv 12)<|aA (pv 9) aE) cO)))
   (aV<|hB hu (pv 7) (pv 11) (cB vC (pv 12)<|cB pT (cW<|aA (eI (pv 3) aN) aE)<|fG BV rfl mi (by rfl')<|aA (vK (NN<|vG hu) (pv 12) (cW aE)<|cF _) aE) rfl)))))
  (aV (bL (VM hO (.cons (.var (i:=1) ⟨rfl,eP rfl,by decide,by decide⟩) (.cons (.var (i:=2) ⟨rfl,eP rfl,by decide,by decide⟩) (.cons (.var (i:=4) ⟨rfl,eP rfl,by decide,by decide⟩) (.cons (.var (i:=6) ⟨rfl,eP rfl,by decide,by decide⟩) (.cons (.var (i:=7) ⟨rfl,eP rfl,by decide,by decide⟩)
   (.cons (.cut (i:=5) ⟨rfl,eP rfl,by decide,by decide⟩)<|.cons (.cut (i:=5) ⟨rfl,eP rfl,by decide,by decide⟩)<|.cons (.cut (i:=5) ⟨rfl,eP rfl,by decide,by decide⟩)<|.cons .dict0<|.cons .dict0<|.cons (.var (i:=8) ⟨rfl,eP rfl,by decide,by decide⟩) .nil)))))) (by simp[MF]) (by decide))))))))))))
 ac_rfl
 refine eQ λN X=>?_;refine⟨_,rfl,hd,d,m,t,r,rfl,hh,by lia,λa tp lp ts tr late d1 m1 t1 H1 f1 gd iw ha bj bt ay gh ge hok fc fe ct hq i8 i2 i4=>?_⟩;exists a,_,rfl,SqT.of ha,rfl,_,_,rfl,_,_,rfl,rfl;subst X
 first | refine jO ?_ | skip
 refine eQ λN X=>?_;refine⟨_,rfl,tp,rfl,⟨_,SqL.of ay⟩,λpn hn=>?_⟩;refine IO (tr:=tr) ay gh ge hn (by lia) λH2 f2 ca=>?_
 subst X
 first | refine jO ?_ | skip
 refine eQ λN X=>?_;have cp:Hand H2 hd d1 m1 t1 r:=⟨f2 _ _ (by trivial) gd.1,gd.2⟩;have id:FrS [hd] H H2:=f1.trans (f2.mono<|by trivial);have eg:=f2 _ _ (by trivial) ay;have cz:=f2 _ _ (by trivial) ct;have c2:∀(j:Nat) t x,ts[j]?=some t->tr[j]?=some x->H2 t=some (.tup [.str x.1,aS x.2]):=λj t x a b=>f2 _ _ (by trivial)<|ge j t x a b
 have b2:tp≠hd:=λz=>by rw[z,hh.1]at bj;cases bj
 have ao:lp≠hd:=λz=>by rw[z,hh.1]at bt;cases bt
 refine⟨_,rfl,_,rfl,dJ rfl,λp0 ch=>?_⟩;have i3:p0≠hd:=λz=>by rw[z,cp.1]at ch;cases ch
 have ew:=cp.new (o:=.lst [V.int 1,V.int 2,V.int 2,V.int 3,V.int 3,V.int 4,V.int 4,V.int 6]) ch;have f3:FrS [] H2 (upd H2 p0<|.lst [V.int 1,V.int 2,V.int 2,V.int 3,V.int 3,V.int 4,V.int 4,V.int 6]):=FrS.new ch;have fa:upd H2 p0 (.lst [V.int 1,V.int 2,V.int 2,V.int 3,V.int 3,V.int 4,V.int 4,V.int 6]) p0=some (.lst [V.int 1,V.int 2,V.int 2,V.int 3,V.int 3,V.int 4,V.int 4,V.int 6]):=zb1;generalize upd H2 p0 (.lst [V.int 1,V.int 2,V.int 2,V.int 3,V.int 3,V.int 4,V.int 4,V.int 6])=H3 at ew f3 fa;refine⟨hd,p0,d1,m1,t1,r,_,rfl,ew,by lia,i3,SqL.of fa,by simp,by show 8<1000;decide,λx d4 m4 t4 I c4 e4=>?_⟩;obtain⟨n,rfl,n1,n6⟩:∃n:Nat,x=.int (n:Int)/\1<=n/\n<=6:=by
  simp only[wr5,aZ,cY]at I;rcases I with rfl | rfl | rfl | rfl | rfl | rfl | rfl | rfl
  .exact⟨1,rfl,by decide,by decide⟩
  .exact⟨2,rfl,by decide,by decide⟩
  .exact⟨2,rfl,by decide,by decide⟩
  .exact⟨3,rfl,by decide,by decide⟩
  .exact⟨3,rfl,by decide,by decide⟩
  .exact⟨4,rfl,by decide,by decide⟩
  .exact⟨4,rfl,by decide,by decide⟩
  .exact⟨6,rfl,by decide,by decide⟩
 have f4:FrS [hd] H2 (upd H3 hd<|hl d4 m4 t4 r):=(f3.mono<|by trivial).put' (by trivial);have fi:Hand (upd H3 hd<|hl d4 m4 t4 r) hd d4 m4 t4 r:=Hand.at c4;generalize upd H3 hd (hl d4 m4 t4 r)=H4 at f4 fi;refine⟨hd,d4,m4,t4,r,n,rfl,fi,by lia,by lia,λpd ds d5 m5 t5 H5 f5 g7 ip iz bp fs j5=>?_⟩;subst X
 first | refine jO ?_ | skip
 refine eQ λN X=>?_;refine⟨_,rfl,hd,d5,m5,t5,r,9,rfl,g7,by lia,by decide,λpx xs d6 m6 t6 H6 f6 ad j1 iq bg ir iv=>?_⟩;subst X
 first | refine jO ?_ | skip
 refine eQ λN X=>?_;have c1:FrS [hd] H2 H6:=(f4.trans f5).trans f6;have cj:FrS [hd] H H6:=id.trans c1;have av:pd≠hd:=hV bp g7;have e9:px≠hd:=hV bg ad;have a9:pn≠hd:=hV ca cp;have dw:∀(j:Nat) t x,ts[j]?=some t->tr[j]?=some x->t≠hd:=λj t x a b z=>by have h3:=c2 j t x a b;rw[z,cp.1]at h3;cases h3
 have dj:=c1 _ _ (by simpa using b2) eg;have dg:=c1 _ _ (by simpa using ao) cz;have dm:=c1 _ _ (by simpa using a9) ca;have d3:=f6 _ _ (by simpa using av) bp;have dp:∀(j:Nat) t x,ts[j]?=some t->tr[j]?=some x->H6 t=some (.tup [.str x.1,aS x.2]):=λj t x a b=>c1 _ _ (by simpa using dw j t x a b)<|c2 j t x a b
 intro G cd;subst X
 first | refine jO ?_ | skip
 refine eQ λN X=>?_;intro C bf;subst X
 first | refine jO ?_ | skip
 refine eQ λN X=>?_;intro u az;subst X
 first | refine jO ?_ | skip
 refine eQ λN X=>?_;have ar:H6 C=none:=by rw[<-aC (H:=H6) (a:=G) (b:=C) (o:=.dT []) (λz=>by rw[z,zb1]at bf;cases bf)];exact bf
 have ah:C≠G:=λz=>by rw[z,zb1]at bf;cases bf
 have ac:u≠G:=λz=>by rw[z,aC ah.symm,zb1]at az;cases az
 have ai:u≠C:=λz=>by rw[z,zb1]at az;cases az
 have au:H6 u=none:=by rw[aC ai,aC ac]at az;exact az
 have gf:upd (upd (upd H6 G<|.dT []) C<|.dK []) u (.dK []) G=some (.dT []):=by rw[aC ac.symm,aC ah.symm];exact zb1
 have fh:upd (upd (upd H6 G<|.dT []) C<|.dK []) u (.dK []) C=some (.dK []):=by rw[aC ai.symm];exact zb1
 have g8:upd (upd (upd H6 G<|.dT []) C<|.dK []) u (.dK []) u=some (.dK []):=zb1;have fb:FrS [] H6 (upd (upd (upd H6 G<|.dT []) C<|.dK []) u<|.dK []):=((FrS.new cd).trans<|FrS.new bf).trans<|FrS.new az;generalize upd (upd (upd H6 G<|.dT []) C<|.dK []) u (.dK [])=Hb at gf fh g8 fb;have fl:Hand Hb hd d6 m6 t6 r:=⟨fb _ _ (by trivial) ad.1,ad.2⟩;have cg:hd≠G:=bA ad.1 cd;have co:hd≠C:=bA ad.1 ar;have cf:hd≠u:=bA ad.1 au;have a6:∀b o,b≠hd->H6 b=some o->Stt [hd,G,C,u] Hb b o:=λb o n e=>⟨by simp only[wr5,aZ,cY,eY];exact⟨n,bA e cd,bA e ar,bA e au⟩,fb _ _ (by trivial) e⟩
 have b9:=a6 _ _ b2 dj;have gw:=a6 _ _ ao dg;have i0:=a6 _ _ a9 dm;have ef:=a6 _ _ av d3;have i5:=a6 _ _ e9 bg;have b3:∀(j:Nat) t x,ts[j]?=some t->tr[j]?=some x->Stt [hd,G,C,u] Hb t (.tup [.str x.1,aS x.2]):=λj t x a b=>a6 _ _ (dw j t x a b)<|dp j t x a b;have hg:FrS [hd] H Hb:=cj.trans (fb.mono<|by trivial);have dc:H G=none:=nZ cj ad cd;have e6:H C=none:=nZ cj ad ar;have ei:H u=none:=nZ cj ad au;have dd:∀B:Hp,FrS [hd,G,C,u] Hb B->FrS [hd] H B:=λB M b o n e=>M b o (by
  simp only[wr5,aZ,cY,eY]at n ⊢;exact⟨n,bA e dc,bA e e6,bA e ei⟩) (hg b o n e)
 have cr:∀B:Hp,(∃o,B hd=some o)->(∃o,B G=some o)->(∃o,B C=some o)->(∃o,B u=some o)->∀p,B p=none->p∉[hd,G,C,u]:=λB a b c e p hp z=>by
  simp only[wr5,aZ,cY]at z;rcases z with z | z | z | z
  .obtain⟨o,ho⟩:=a;rw[<-z,hp]at ho;cases ho
  .obtain⟨o,ho⟩:=b;rw[<-z,hp]at ho;cases ho
  .obtain⟨o,ho⟩:=c;rw[<-z,hp]at ho;cases ho
  .obtain⟨o,ho⟩:=e;rw[<-z,hp]at ho;cases ho
 exists _,rfl,tp,rfl,⟨_,SqL.of b9.2⟩;refine tU (xs:=ts.map V.ref) (λi σ B=>∃(nx ex:Option V)(J:List (aJ×V)),σ=[some<|.ref hd,some<|.ref tp,some<|.ref lp,some<|.ref pn,some<|.ref pd,some<|.ref px,some<|.ref G,some<|.ref C,some<|.ref u,nx,ex,none,none]/\FrS [u] Hb B/\B u=some (.dK J)/\RootsOk tr i J) ⟨_,_,[],rfl,FrS.refl,g8,rfl,[],rfl⟩ ?_ ?_ ?_
 .rintro i σ B hi ⟨_,_,_,_,M,_⟩;exact SqL.of (b9.keep<|M.mono<|by trivial).2
 .rintro i x σ B I ⟨nx,ex,J,rfl,M,a7,b1⟩;rw[bZ]at I;obtain⟨tt,aa,rfl⟩:=wt0.mp I;obtain⟨hi,_⟩:=wr1.mp aa;have bv:tr[i]?=some tr[i]:=bH (by lia);have e3:=(b3 i tt _ aa bv).keep (M.mono<|by trivial);exists tt,_,rfl,SqT.of e3.2,rfl,_,_,rfl,_,_,rfl,rfl;have il:J.length<=12:=by
   have:=cM List.length b1.1;rw[aI,aI,eS]at this;lia
  obtain⟨ov,e5,r',gv⟩:∃ov:Option V,mF B u (aS tr[i].2) ov/\∃r',ov.getD (.str tr[i].1)=.str r':=by
   cases he:tr[i].2 with
   | none=>exact⟨none,⟨J,.inl a7,.inl ⟨rfl,rfl⟩⟩,_,rfl⟩
   | some e=>
    exists _,⟨J,.inl a7,.inr ⟨Sum.inr e,rfl,rfl⟩⟩;cases hv:aK J (Sum.inr e)with
    | none=>exact⟨_,rfl⟩
    | some v=>
     obtain⟨r',rfl,_⟩:=b1.val hv;exact⟨r',rfl⟩
  exists _,rfl,u,rfl,.inl ⟨_,.inl a7⟩,_,rfl,_,rfl,ov,e5,_,rfl,_,rfl,u,_,rfl,DPut.k (k:=(Sum.inr tr[i].1:aJ)) a7 (bO<|by lia),_,_,_,rfl,M.put' (by trivial),zb1;rw[gv];rcases RootsOk.step (r:=r') (n:=tr[i].1) (e:=tr[i].2) hok b1 bv with h | h
  .exact h.1
  .lia
 rintro σ H7 ⟨iu,j4,J,rfl,f7,gn,b1⟩;subst X
 first | refine jO ?_ | skip
 refine eQ λN X=>?_;rw[aI]at b1;have a8:=b1;unfold RootsOk at a8;rw[eM<|by lia]at a8;obtain⟨rs,cc⟩:=a8.2;have hf:↑rs=↑tr:=by
  have h1:=cM List.length a8.1;have h2:=cM List.length cc;rw[aI,aI]at h1 h2;lia
 have g9:FrS [hd,G,C,u] Hb H7:=f7.mono (by trivial);have h6:Hand H7 hd d6 m6 t6 r:=⟨f7 _ _ (by simpa using cf) fl.1,fl.2⟩;have hm:=f7 _ _ (by simpa using ac.symm) gf;have gq:=f7 _ _ (by simpa using ai.symm) fh;exists _,rfl,pd,rfl,⟨_,SqL.of (ef.keep g9).2⟩;refine tU (xs:=ds.map V.str) (wT Hb hd tp lp pn pd px G C u r t6 J rs ds tr)
  ⟨_,_,_,_,d6,m6,t6,[],[],rfl,g9,h6,by lia,gn,hm,by simp,(λr d h=>by simp at h),gq,by simp,(λd h=>by simp at h)⟩ ?_ ?_ ?_
 .rintro i σ B hi ⟨_,_,_,_,_,_,_,_,_,_,M,_⟩;exact SqL.of (ef.keep M).2
 .rintro i x σ B I ⟨nx,ex,dx,sx,da,ma,ta,wk,ok,rfl,M,an,fm,a7,cl,ik,c3,cn,ig,a5⟩;obtain⟨hi,_⟩:=wr1.mp I;rw[aI]at hi;rw[bZ,bH hi]at I;cases I;have a0:∀Y:Hp,FrS [hd,G,C,u] Hb Y->Y pn=some (.lst<|(tr.map (·.1)).map V.str):=λY fy=>(i0.keep fy).2;have bs:(tr.map (·.1))≠[]:=by simpa using fc
  have hs:↑(tr.map (·.1))<=12:=by rw[aI];exact fe
  refine gN ?_;refine eQ λN2 bz=>?_;exists u,J,a7;refine⟨_,rfl,u,J,rfl,a7,λo Dl be=>?_⟩;have f9:Dl≠u:=λz=>by rw[z,zb1]at be;cases be
  have j2:B Dl=none:=by rw[aC f9]at be;exact be
  refine BG (xs:=J.map λkv=>kv.2) (λi' σ Y=>(∃x,σ=[x])/\FrS [] (upd B u<|.frz o<|.dK J) Y/\∃as:List Addr,↑as=i'/\Y Dl=some (.lst<|as.map V.ref)/\∀(j:Nat) a,as[j]?=some a->∃rt,rs[j]?=some rt/\Y a=some (.tup [.str rt,.bl true])) ⟨⟨_,rfl⟩,(FrS.refl).put be,[],rfl,zb1,(λj a h=>by simp at h)⟩ ?_ ?_ ?_
  .rintro i' σ Y hi ⟨_,fy,_⟩;exact fy _ _ (by trivial) zb1
  .rintro i' x σ Y I ⟨⟨x0,rfl⟩,fy,as,es,ci,has⟩;rw[cc]at I;obtain⟨ec,_⟩:=wr1.mp I;rw[aI]at ec;rw[bZ,bH ec]at I;cases I;refine⟨_,rfl,dJ rfl,λtq ep=>?_⟩;have i7:Dl≠tq:=bA ci ep;have de:upd Y tq (.tup [V.str rs[i'],V.bl true]) Dl=some (.lst<|as.map V.ref):=by rw[aC i7];exact ci
   refine⟨_,de,by rw[aI];exact bO (by lia),⟨_,rfl⟩,(fy.trans<|FrS.new ep).put be,as++[tq],by rw[bJ,es];rfl,by rw[zb1,bX];rfl,λj a' e=>?_⟩
   by_cases hj:j<↑as
   .rw[jM hj]at e;obtain⟨rt,e1,e2⟩:=has j a' e;have e3:upd Y tq (.tup [V.str rs[i'],V.bl true]) a'=some (.tup [.str rt,.bl true]):=by rw[aC<|bA e2 ep];exact e2
    exact⟨rt,e1,EH de _ _ e3⟩
   .rw[iR<|by lia]at e;have h0:j-↑as=0:=by
     cases hz:j-↑as with
     | zero=>rfl
     | succ k=>rw[hz]at e;simp at e
    rw[h0]at e;simp only[CN,BF]at e;subst e;have:j=i':=by lia
    subst this;exact⟨_,bH ec,EH de _ _ zb1⟩
  rintro σ Y ⟨_,fy,as,es,ci,has⟩;rw[aI]at es;have hk:J.length=↑rs:=by
   have h2:=cM List.length cc;rw[aI,aI]at h2;exact h2
  exists o,fy _ _ (by trivial) zb1;have f8:FrS [] B (upd Y u<|.dK J):=FrS.thaw a7 fy;have fw:upd Y u (.dK J) Dl=some (.lst<|as.map V.ref):=by rw[aC f9];exact ci
  have c9:∀(j:Nat) a,as[j]?=some a->∃rt,rs[j]?=some rt/\upd Y u (.dK J) a=some (.tup [.str rt,.bl true]):=λj a e=>by
   obtain⟨rt,e1,e2⟩:=has j a e;exact⟨rt,e1,by rw[aC λz=>by rw[z,fy _ _ (by trivial) zb1]at e2;cases e2];exact e2⟩
  generalize upd Y u (.dK J)=H8 at f8 fw c9;refine⟨Dl,as,rs.map λr=>((Sum.inr r:aJ),V.bl true),rfl,SqL.of fw,by rw[aI];lia,by rw[aI];exact bO (by lia),λj t' kv h7 g6=>?_,λl fr=>?_⟩
  .obtain⟨rt,e1,e2⟩:=c9 j t' h7;rw[bZ,e1]at g6;cases g6;exact SqT.of e2
  refine⟨l,_,rfl,zb1,λo2=>?_⟩;obtain⟨qs,eq,j6,i1⟩:=XA rs<|.bl true;generalize dU [] (rs.map λr=>((Sum.inr r:aJ),V.bl true))=bd at eq;rw[gS];have aj:FrS [] B (upd H8 l<|.frz o2<|.dK bd):=f8.trans<|FrS.new fr;have fg:upd H8 l (.frz o2<|.dK bd) l=some (.frz o2<|.dK bd):=zb1;generalize upd H8 l (.frz o2<|.dK bd)=H9 at aj fg;have gl:B l=none:=f8.old (by trivial) fr;have gk:l∉[hd,G,C,u]:=cr B ⟨_,an.1⟩ ⟨_,cl⟩ ⟨_,cn⟩ ⟨_,a7⟩ l gl;refine zG (xs:=bd.map λkv=>kV kv.1) (yH H9 hd tp lp pn pd px G C u r ta J ok rs qs tr (ds.take i) ds[i] ex sx i)
   ⟨_,da,ma,ta,wk,rfl,FrS.refl,⟨aj _ _ (by trivial) an.1,an.2⟩,by lia,aj _ _ (by trivial) a7,aj _ _ (by trivial) cl,by lia,(c3.keep<|aj.mono<|by trivial).mono (λa b h=>by rcases h with h | h;exact h;simp at h),aj _ _ (by trivial) cn⟩ ?_ ?_ ?_
  .rintro j σ Z hj ⟨_,_,_,_,_,_,fz,_⟩;exact fz _ _ gk fg
  .rintro j x σ Z I ⟨im,dz,mz,tz,wz,rfl,fz,ae,eo,fo,fp,ia,eh,gg⟩;rw[eq]at I;obtain⟨hj,_⟩:=wr1.mp I;rw[aI]at hj;rw[bZ,bH hj]at I;cases I;have gx:FrS [hd,G,C,u] Hb Z:=(M.trans<|aj.mono<|by trivial).trans fz;refine⟨_,rfl,dJ rfl,λp5 bb=>?_⟩;have ib:p5≠hd:=λz=>by rw[z,ae.1]at bb;cases bb
   refine⟨hd,p5,dz,mz,tz,r,_,rfl,ae.new bb,by lia,ib,SqL.of zb1,by simp,by show 5<1000;decide,λy dq mq tq hy cq j0=>?_⟩;obtain⟨jn,rfl,io⟩:∃jn:Nat,y=.int (jn:Int)/\jn<=4:=by
    simp only[wr5,aZ,cY]at hy;rcases hy with rfl | rfl | rfl | rfl | rfl
    .exact⟨0,rfl,by decide⟩
    .exact⟨1,rfl,by decide⟩
    .exact⟨1,rfl,by decide⟩
    .exact⟨2,rfl,by decide⟩
    .exact⟨4,rfl,by decide⟩
   have fq:FrS [hd] Z (upd (upd Z p5<|.lst [V.int 0,V.int 1,V.int 1,V.int 2,V.int 4]) hd<|hl dq mq tq r):=(FrS.new bb).put' (by trivial);have cb:Hand (upd (upd Z p5<|.lst [V.int 0,V.int 1,V.int 1,V.int 2,V.int 4]) hd<|hl dq mq tq r) hd dq mq tq r:=Hand.at cq;generalize upd (upd Z p5<|.lst [V.int 0,V.int 1,V.int 1,V.int 2,V.int 4]) hd (hl dq mq tq r)=Hq at fq cb;refine⟨(jn:Int),rfl,by lia,by lia,λDw b6=>?_⟩;have c5:Dw≠hd:=λz=>by rw[z,cb.1]at b6;cases b6
   have cy:Z Dw=none:=nZ fq cb b6;have c8:Dw∉[hd,G,C,u]:=cr Z ⟨_,ae.1⟩ ⟨_,fp⟩ ⟨_,gg⟩ ⟨_,fo⟩ Dw cy;refine KR (lo:=0) (n:=(jn:Int).toNat) (λd7 σ Hu=>(∃kx,σ=[kx,some<|.ref hd,some<|.ref pn])/\FrS [hd] Hq Hu/\∃(du mu tu:Int)(ws:List Str),Hand Hu hd du mu tu r/\tu<=tq+d7/\Hu Dw=some (.lst<|ws.map V.str)/\↑ws=d7/\∀x∈ws,x∈tr.map (·.1))
    ⟨⟨_,rfl⟩,FrS.new b6,dq,mq,tq,[],cb.new b6,by lia,zb1,rfl,by simp⟩ ?_ ?_
   .rintro d7 σ Hu gm ⟨⟨kx,rfl⟩,fu,du,mu,tu,ws,dr,ih,cm,bi,aw⟩;have el:Hu pn=some (.lst<|(tr.map (·.1)).map V.str):=fu _ _ (by simpa using a9)<|fq _ _ (by simpa using a9)<|a0 Z gx;refine⟨_,rfl,_,rfl,hd,pn,du,mu,tu,r,_,rfl,dr,by lia,a9,SqL.of el,by simpa using bs,by rw[aI];lia,λv dv mv tv hv cv ev=>?_⟩;obtain⟨nm,gr,rfl⟩:=ws9.mp hv;refine⟨_,by rw[aC c5];exact cm,by rw[aI];exact bO (by lia),⟨_,rfl⟩,(fu.put'<|by trivial).put b6,dv,mv,tv,ws++[nm],⟨by rw[aC c5.symm];exact zb1,cv⟩,by lia,by rw[zb1,bX];rfl,by rw[bJ,bi];rfl,λx I=>?_⟩;rcases wt2.mp I with h | h
    .exact aw x h
    .rw[wr8.mp h];exact gr
   rintro σ Hu ⟨_,fu,du,mu,tu,ws,dr,ih,cm,bi,aw⟩;have h8:FrS [hd] Z Hu:=fq.trans fu;refine⟨_,rfl,_,rfl,_,rfl,dJ rfl,λpk ea=>?_⟩;have b8:FrS [hd] Z (upd Hu pk<|.tup [V.str qs[j],V.str ds[i]]):=h8.trans<|FrS.new ea;have fk:upd Hu pk (.tup [V.str qs[j],V.str ds[i]]) Dw=some (.lst<|ws.map V.str):=by rw[aC<|bA cm ea];exact cm
   have eu:=dr.new (o:=.tup [V.str qs[j],V.str ds[i]]) ea;have ap:upd Hu pk (.tup [V.str qs[j],V.str ds[i]]) pk=some (.tup [V.str qs[j],V.str ds[i]]):=zb1;generalize upd Hu pk (.tup [V.str qs[j],V.str ds[i]])=Hk at b8 fk eu ap;have df:=b8 _ _ (by simpa using cg.symm) fp;have dl:Dw≠G:=λz=>c8 (by rw[z];simp)
   refine⟨G,_,rfl,DPut.t (k:=[Sum.inr qs[j],Sum.inr ds[i]]) df ap (bO<|by lia),_,du,mu,tu,_,rfl,fz.trans ((b8.mono<|by trivial).put'<|by trivial),⟨by rw[aC cg];exact eu.1,eu.2⟩,by lia,by rw[aC ac];exact b8 _ _ (by simpa using cf.symm) fo,zb1,?_,?_,by rw[aC ah];exact b8 _ _ (by simpa using co.symm) gg⟩
   .have:=jF wz [Sum.inr qs[j],Sum.inr ds[i]]<|V.ref Dw;lia
   .have W1:=eh.keep ((b8.mono (T:=[hd,G,C,u])<|by trivial).put' (a:=G) (o:=.dT<|aO wz [Sum.inr qs[j],Sum.inr ds[i]]<|.ref Dw)<|by trivial);refine(W1.put (r:=qs[j]) (d:=ds[i]) (p:=Dw) (ws:=ws) ⟨c8,by rw[aC dl];exact fk⟩ (by lia) aw).mono λa b h=>?_
    rcases h with h | ⟨h1,h2⟩
    .exact .inl<|.inl h
    .rw[fE,bH hj]at h1;rcases wt2.mp h1 with h1 | h1
     .exact .inl<|.inr ⟨h1,h2⟩
     .have:a=qs[j]:=by simpa using h1
      exact .inr ⟨this,h2⟩
  rintro σ ak ⟨it,dA,mA,tA,wA,rfl,fA,ft,gz,g0,ff,cx,b5,ga⟩;subst bz
  first | refine jO ?_ | skip
  refine eQ λN2 bz=>?_;have ie:↑(bd.map λkv=>kV kv.1)=↑qs:=by rw[eq,aI]
  rw[ie]at gz cx b5;rw[eM<|aY _]at b5;have ax:FrS [hd,G,C,u] Hb ak:=(M.trans<|aj.mono<|by trivial).trans fA;have et:OwnOk [hd,G,C,u] ak (tr.map (·.1)) ok (λb=>b∈ds.take i):=a5.keep<|(aj.mono<|by trivial).trans fA;refine⟨bT _,λps b4=>?_⟩;subst bz
  first | refine jO ?_ | skip
  refine eQ λN2 bz=>?_;have db:ps∉[hd,G,C,u]:=cr ak ⟨_,ft.1⟩ ⟨_,ff⟩ ⟨_,ga⟩ ⟨_,g0⟩ ps b4;have c0:ps≠hd:=λz=>db (by rw[z];simp)
  have i6:ps≠pn:=λz=>by rw[z,a0 ak ax]at b4;cases b4
  exists _,rfl,tp,rfl,⟨_,SqL.of<|by rw[aC<|bA (b9.keep ax).2 b4];exact(b9.keep ax).2⟩;refine tU (xs:=ts.map V.ref) (zU ak hd tp lp pn pd px G C u ps r tA tr ds[i])
   ⟨_,_,dA,mA,tA,[],rfl,FrS.new b4,ft.new b4,by lia,zb1,by simp,by simp⟩ ?_ ?_ ?_
  .rintro j σ Z hj ⟨_,_,_,_,_,_,_,fz,_⟩;exact SqL.of ((b9.keep ax).keep<|fz.mono<|by trivial).2
  .rintro j x σ Z I ⟨nz,ez,dz,mz,tz,ss,rfl,fz,ae,eo,bq,bx,af⟩;rw[bZ]at I;obtain⟨tt,aa,rfl⟩:=wt0.mp I;obtain⟨hj,_⟩:=wr1.mp aa;have bv:tr[j]?=some tr[j]:=bH (by lia);have e3:=((b3 j tt _ aa bv).keep ax).keep (fz.mono<|by trivial);exists tt,_,rfl,SqT.of e3.2,rfl,_,_,rfl,_,_,rfl,rfl;refine⟨_,rfl,dJ rfl,λp2 b0=>?_⟩;obtain⟨kk,ap,ij,ix⟩:∃kk:Int,dY [V.int 3,V.int 2] (if decide (aS tr[j].2=V.non)=true then 1 else 0)=some (.int kk)/\0<kk/\kk<10:=by
    cases tr[j].2 with
    | none=>exact⟨2,rfl,by decide,by decide⟩
    | some e=>exact⟨3,rfl,by decide,by decide⟩
   refine⟨_,rfl,.inr ⟨_,rfl,p2,_,_,V.int kk,rfl,rfl,SqL.of zb1,ap,hd,dz,mz,tz,r,kk,rfl,ae.new b0,by lia,ij,by lia,λy dv mv tv y0 y1 cv ev=>⟨rfl,_,rfl,?_⟩⟩⟩;have d8:upd (upd Z p2<|.lst [V.int 3,V.int 2]) hd (hl dv mv tv r) ps=some (.lst<|ss.map V.str):=by rw[aC c0,aC<|bA bq b0];exact bq
   have fv:FrS [hd] ak (upd (upd Z p2<|.lst [V.int 3,V.int 2]) hd<|hl dv mv tv r):=(fz.trans<|FrS.new b0).put' (by trivial);have ej:Hand (upd (upd Z p2<|.lst [V.int 3,V.int 2]) hd<|hl dv mv tv r) hd dv mv tv r:=Hand.at cv;refine bB (λc=>?_) λc=>?_
   .refine⟨_,rfl,.inl ⟨rfl,_,SqL.of d8⟩,_,rfl,ps,_,_,rfl,rfl,d8,by rw[aI];exact bO (by lia),_,_,dv,mv,tv,ss++[tr[j].1],rfl,fv.put b4,⟨by rw[aC c0.symm];exact ej.1,ej.2⟩,by lia,by rw[zb1,bX];rfl,by rw[bJ,dQ];lia,λx I=>?_⟩;rcases wt2.mp I with h | h
    .exact af x h
    .rw[wr8.mp h];exact ws9.mpr ⟨_,dC bv,rfl⟩
   .exact⟨_,_,dv,mv,tv,ss,rfl,fv,ej,by lia,d8,by lia,af⟩
  rintro σ ab ⟨nz,ez,dz,mz,tz,ss,rfl,fz,ae,eo,bq,bx,af⟩;subst bz
  first | refine jO ?_ | skip
  rw[aI]at eo bx;have gb:FrS [hd,G,C,u] ak ab:=fz.mono (by trivial);have c6:=a0 ab<|ax.trans gb;have h0:0<↑(tr.map (·.1)):=List.length_pos_iff.mpr bs;have d2:dY ((tr.map (·.1)).map V.str) 0=some (.str (tr.map (·.1))[0]):=by
   have:=mQ (xs:=(tr.map (·.1)).map V.str) (j:=0) (v:=.str (tr.map (·.1))[0]) (by rw[bZ,bH h0];rfl);exact this
  refine⟨_,rfl,_,rfl,pn,_,_,_,rfl,rfl,SqL.of c6,d2,dJ rfl,λp1 di=>?_⟩;refine⟨_,rfl,bT _,λpe bu=>?_⟩;have aq:upd ab p1 (.lst [V.str (tr.map (·.1))[0]]) ps=some (.lst<|ss.map V.str):=by rw[aC<|bA bq di];exact bq
  have al:ps≠pe:=bA aq bu;have ee:p1≠pe:=λz=>by rw[<-z,zb1]at bu;cases bu
  refine⟨ps,pe,_,rfl,rfl,al,SqL.of (by rw[aC al];exact aq),SqL.of zb1,.inr ⟨_,rfl,?_⟩⟩;obtain⟨kk,ap,zs,h9,iy,gp⟩:∃kk:Int,(if ((ss.map V.str).isEmpty != false)=true then(1:Int) else 0)=kk/\∃zs:List Str,(List.replicate kk.toNat [V.str (tr.map (·.1))[0]]).flatten=zs.map V.str/\↑zs<=1/\∀x∈zs,x∈tr.map (·.1):=by
   cases ss with
   | nil=>exact⟨1,rfl,[(tr.map (·.1))[0]],rfl,by simp,λx I=>by rw[wr8.mp I];exact gW h0⟩
   | cons y ys=>exact⟨0,rfl,[],rfl,by simp,by simp⟩
  have gy:kk=0\/kk=1:=by
   rw[<-ap]
   split
   .exact .inr rfl
   .exact .inl rfl
  rw[ap];refine⟨p1,kk,_,rfl,rfl,by rw[aC ee];exact zb1,by lia,by lia,?_,λp2 b0=>?_⟩
  .rcases gy with rfl | rfl
   .show 1*0<=sizeLine;lia
   .show 1*1<=sizeLine;exact dM (bO<|by lia)
  rw[h9];have bh:upd (upd ab p1<|.lst [V.str (tr.map (·.1))[0]]) pe (.lst []) ps=some (.lst<|ss.map V.str):=by rw[aC al];exact aq
  refine⟨ps,p2,_,_,rfl,rfl,by rw[aC<|bA bh b0];exact bh,zb1,by rw[aI,aI];exact dM (bO<|by lia),λp3 fj=>?_⟩;rw[<-bX];have ba:FrS [] ab (upd (upd (upd (upd ab p1<|.lst [V.str (tr.map (·.1))[0]]) pe<|.lst []) p2<|.lst<|zs.map V.str) p3<|.lst<|(ss++zs).map V.str):=by
   refine(((FrS.new di).trans<|FrS.new bu).trans<|FrS.new b0).trans (FrS.new ?_);exact fj
  have bk:upd (upd (upd (upd ab p1<|.lst [V.str (tr.map (·.1))[0]]) pe<|.lst []) p2<|.lst<|zs.map V.str) p3 (.lst<|(ss++zs).map V.str) p3=some (.lst<|(ss++zs).map V.str):=zb1;have en:ab p3=none:=FrS.old (S:=[]) (((FrS.new di).trans<|FrS.new bu).trans<|FrS.new b0) (by trivial) fj;generalize upd (upd (upd (upd ab p1<|.lst [V.str (tr.map (·.1))[0]]) pe<|.lst []) p2<|.lst<|zs.map V.str) p3 (.lst<|(ss++zs).map V.str)=hw at ba bk;have bo:=fz _ _ (by simpa using co.symm) ga;have bn:=fz _ _ (by simpa using cg.symm) ff;have br:=fz _ _ (by simpa using cf.symm) g0;have bw:p3∉[hd,G,C,u]:=cr ab ⟨_,ae.1⟩ ⟨_,bn⟩ ⟨_,bo⟩ ⟨_,br⟩ p3 en;have cs:p3≠C:=λz=>bw (by rw[z];simp)
  exists _,rfl,_,rfl,C,_,rfl,DPut.k (k:=(Sum.inr ds[i]:aJ)) (ba _ _ (by trivial) bo) (bO<|by lia);have em:FrS [hd,G,C,u] ak (upd hw C<|.dK<|aO ok (Sum.inr ds[i])<|.ref p3):=(gb.trans<|ba.mono<|by trivial).put' (by trivial);exists _,_,_,_,dz,mz,tz,wA,aO ok (Sum.inr ds[i])<|.ref p3,rfl,ax.trans em,⟨by rw[aC co];exact ba _ _ (by trivial) ae.1,ae.2⟩,by lia,by rw[aC ai];exact ba _ _ (by trivial) br,by rw[aC ah.symm];exact ba _ _ (by trivial) bn,by lia,?_,zb1,?_
  .refine(b5.keep em).mono λa b h=>?_;rw[fE,bH hi]at h;rcases wt2.mp h.2 with h2 | h2
   .exact .inl ⟨h.1,h2⟩
   .exact .inr ⟨i1 a h.1,by simpa using h2⟩
  .have:=jF ok (Sum.inr ds[i])<|V.ref p3;lia
  .refine((et.keep em).put (d:=ds[i]) (p:=p3) (os:=ss++zs) ⟨bw,by rw[aC cs];exact bk⟩ (λx I=>?_)<|by rw[bJ];lia).mono' λa h=>?_
   .rcases wt2.mp I with h | h
    .exact af x h
    .exact gp x h
   .rw[fE,bH hi]at h;rcases wt2.mp h with h2 | h2
    .exact .inl h2
    .exact .inr (by simpa using h2)
 rintro σ B ⟨nx,ex,dx,sx,da,ma,ta,wk,ok,rfl,M,an,fm,a7,cl,ik,c3,cn,ig,a5⟩;subst X
 first | refine jO ?_ | skip
 rw[aI]at fm c3 a5;rw[eM<|aY _]at c3 a5;intro p hp;have ag:=(i5.keep M).2;refine⟨_,rfl,_,rfl,_,rfl,_,rfl,_,rfl,_,rfl,_,rfl,px,_,rfl,SqL.of (by rw[aC<|bA ag hp];exact ag),λq1 dt=>?_⟩;have e1:cH (xs.map V.str) none (some 4)=(xs.take 4).map V.str:=by rw[rL];exact CU (xs.map V.str) (n:=4) (by rw[aI];lia)
 rw[e1];have g1:FrS [] B (upd (upd B p<|.dK []) q1<|.lst<|(xs.take 4).map V.str):=(FrS.new hp).trans<|FrS.new dt;have p1:upd (upd B p<|.dK []) q1 (.lst<|(xs.take 4).map V.str) p=some (.dK []):=by rw[aC<|bA (o:=.dK []) zb1 dt];exact zb1
 have v1:upd (upd B p<|.dK []) q1 (.lst<|(xs.take 4).map V.str) q1=some (.lst<|(xs.take 4).map V.str):=zb1;have hc:B q1=none:=(FrS.new (S:=[]) (o:=.dK []) hp).old (by trivial) dt;generalize upd (upd B p<|.dK []) q1 (.lst<|(xs.take 4).map V.str)=K1 at g1 p1 v1;refine⟨_,rfl,_,rfl,_,rfl,px,_,rfl,SqL.of<|g1 _ _ (by trivial) ag,λq2 d0=>?_⟩;have e2:cH (xs.map V.str) (some 4) (some 8)=((xs.drop 4).take 4).map V.str:=by rw[rL,vj2];exact Ai (xs.map V.str) (a:=4) (b:=8) (by rw[aI];lia) (by lia)
 rw[e2];have g2:FrS [] K1 (upd K1 q2<|.lst<|((xs.drop 4).take 4).map V.str):=FrS.new d0;have v2:upd K1 q2 (.lst<|((xs.drop 4).take 4).map V.str) q2=some (.lst<|((xs.drop 4).take 4).map V.str):=zb1;have h5:B q2=none:=g1.old (by trivial) d0;have am:=d0;generalize upd K1 q2 (.lst<|((xs.drop 4).take 4).map V.str)=K2 at g2 v2;refine⟨_,rfl,_,rfl,px,_,rfl,SqL.of<|g2 _ _ (by trivial)<|g1 _ _ (by trivial) ag,λq3 ck=>?_⟩;have e3:cH (xs.map V.str) (some 6) none=(xs.drop 6).map V.str:=by rw[vj2];exact BL (xs.map V.str) (n:=6) (by rw[aI];lia)
 rw[e3];have g3:FrS [] K2 (upd K2 q3<|.lst<|(xs.drop 6).map V.str):=FrS.new ck;have v3:upd K2 q3 (.lst<|(xs.drop 6).map V.str) q3=some (.lst<|(xs.drop 6).map V.str):=zb1;generalize upd K2 q3 (.lst<|(xs.drop 6).map V.str)=K3 at g3 v3;intro pt ce;have g4:FrS [] K3 (upd K3 pt<|.dK []):=FrS.new ce;have v4:upd K3 pt (.dK []) pt=some (.dK []):=zb1;generalize upd K3 pt (.dK [])=K4 at g4 v4;intro ph bm;have g5:FrS [] K4 (upd K4 ph<|.dK []):=FrS.new bm;have v5:upd K4 ph (.dK []) ph=some (.dK []):=zb1;generalize upd K4 ph (.dK [])=K5 at g5 v5;have e8:FrS [] K1 K5:=((g2.trans g3).trans g4).trans g5;have ic:FrS [] B K5:=g1.trans e8;have gc:FrS [] B K3:=(g1.trans g2).trans g3;have h4:FrS [] B K4:=gc.trans g4;have er:B pt=none:=gc.old (by trivial) ce;have e7:B ph=none:=h4.old (by trivial) bm;have bb:=e8 _ _ (by trivial) p1;have dn:pt≠ph:=bA v4 bm;have f0:p≠pt:=λz=>by rw[<-z,(g2.trans g3) _ _ (by trivial) p1]at ce;cases ce
 have c7:p≠ph:=λz=>by rw[<-z,((g2.trans g3).trans g4) _ _ (by trivial) p1]at bm;cases bm
 refine⟨_,rfl,bb,[(Sum.inr "tree",.ref tp),(Sum.inr "late",.ref lp),(Sum.inr "deeds",.ref pd),(Sum.inr "wants",.ref G),(Sum.inr "owners",.ref C),(Sum.inr "vars",.ref q1),(Sum.inr "params",.ref q2),(Sum.inr "fields",.ref q3),(Sum.inr "told",.ref pt),(Sum.inr "held",.ref ph),(Sum.inr "roots",.ref u)],rfl,by show 11<=15;decide,?_⟩;have ed:(([(Sum.inr "tree",.ref tp),(Sum.inr "late",.ref lp),(Sum.inr "deeds",.ref pd),(Sum.inr "wants",.ref G),(Sum.inr "owners",.ref C),(Sum.inr "vars",.ref q1),(Sum.inr "params",.ref q2),(Sum.inr "fields",.ref q3),(Sum.inr "told",.ref pt),(Sum.inr "held",.ref ph),(Sum.inr "roots",.ref u)]:List (aJ×V)).map (·.1)).Nodup:=by
  show([Sum.inr "tree",Sum.inr "late",Sum.inr "deeds",Sum.inr "wants",Sum.inr "owners",Sum.inr "vars",Sum.inr "params",Sum.inr "fields",Sum.inr "told",Sum.inr "held",Sum.inr "roots"]:List aJ).Nodup
  rfl'
 rw[RQ _ [] (by rw[List.nil_append];exact ed),List.nil_append];generalize hkvs:([(Sum.inr "tree",.ref tp),(Sum.inr "late",.ref lp),(Sum.inr "deeds",.ref pd),(Sum.inr "wants",.ref G),(Sum.inr "owners",.ref C),(Sum.inr "vars",.ref q1),(Sum.inr "params",.ref q2),(Sum.inr "fields",.ref q3),(Sum.inr "told",.ref pt),(Sum.inr "held",.ref ph),(Sum.inr "roots",.ref u)]:List (aJ×V))=kvs at ed;have gt:∀(j:Nat)(k:aJ)(v:V),kvs[j]?=some (k,v)->aK kvs k=some v:=λj k v h=>NE ed h;have kp:∀b o,K5 b=some o->b≠p->upd K5 p (.dK kvs) b=some o:=λb o e n=>by rw[aC n];exact e
 have kx:∀b o,B b=some o->upd K5 p (.dK kvs) b=some o:=λb o e=>kp b o (ic _ _ (by trivial) e)<|bA e hp
 have bc:=an.1;have st:∀b o,b≠hd->B b=some o->Stt [hd,pt,ph] (upd K5 p<|.dK kvs) b o:=λb o n e=>⟨by simp only[wr5,aZ,cY,eY];exact⟨n,bA e er,bA e e7⟩,kx b o e⟩
 have ek:q1≠p:=λz=>by rw[z,p1]at v1;cases v1
 have dy:q2≠p:=λz=>by rw[z]at am;rw[p1]at am;cases am
 have eb:q3≠p:=λz=>by rw[z,g2 _ _ (by trivial) p1]at ck;cases ck
 have gs:B q3=none:=(g1.trans g2).old (by trivial) ck;have w1:=e8 _ _ (by trivial) v1;have w2:=((g3.trans g4).trans g5) _ _ (by trivial) v2;have w3:=(g4.trans g5) _ _ (by trivial) v3;have w4:=g5 _ _ (by trivial) v4;have sl:∀(b:Addr)(zs:List Str),K5 b=some (.lst<|zs.map V.str)->b≠p->B b=none->Stt [hd,pt,ph] (upd K5 p<|.dK kvs) b (.lst<|zs.map V.str):=λb zs e n e0=>⟨by
  simp only[wr5,aZ,cY,eY];exact⟨(λz=>by rw[z,bc]at e0;cases e0),(λz=>by rw[z,w4]at e;cases e),(λz=>by rw[z,v5]at e;cases e)⟩,kp b _ e n⟩
 have dk:=cf.symm;have cu:=cg.symm;have dh:=co.symm;obtain⟨own,cw⟩:∃own:Str->List Str,∀d' (b7:d'∈ds),own d'=(a5 d' b7).choose_spec.choose:=by
  classical
  exact⟨λd'=>if h:d'∈ds then(a5 d' h).choose_spec.choose else [],λd' h=>dif_pos h⟩
 refine q p ⟨tp,lp,pd,G,C,q1,q2,q3,pt,ph,u⟩ ⟨tr,late,ds,xs.take 4,(xs.drop 4).take 4,xs.drop 6,wk,ok,J,own⟩ _ ta ⟨⟨da,ma,kx _ _ an.1,an.2⟩,⟨[],kp _ _ w4 f0.symm,DOk.nil⟩,⟨[],kp _ _ v5 c7.symm,DOk.nil⟩,⟨⟨kvs,⟨?_,zb1⟩,?_⟩,⟨ts,st _ _ b2 (b9.keep M).2,gh,λj t' x a b=>st _ _ (dw j t' x a b) ((b3 j t' x a b).keep M).2⟩,st _ _ ao (gw.keep M).2,st _ _ av (ef.keep M).2,sl _ _ w1 ek hc,sl _ _ w2 dy h5,sl _ _ w3 eb gs,st _ _ cu cl,st _ _ dh cn,st _ _ dk a7,?_,?_⟩,?_,?_⟩ ?_ ?_ ?_ ?_
 .simp only[wr5,aZ,cY,eY];exact⟨(λz=>by rw[z,bc]at hp;cases hp),f0,c7⟩
 .rw[<-hkvs]at gt ⊢;exact⟨gt 0 _ _ rfl,gt 1 _ _ rfl,gt 2 _ _ rfl,gt 3 _ _ rfl,gt 4 _ _ rfl,gt 5 _ _ rfl,gt 6 _ _ rfl,gt 7 _ _ rfl,gt 8 _ _ rfl,gt 9 _ _ rfl,gt 10 _ _ rfl⟩
 .intro n' go d' b7;have ii:(Sum.inr n':aJ)∈J.map (·.1):=by
   rw[a8.1];obtain⟨z,hz,ez⟩:=ws9.mp go;exact ws9.mpr ⟨z,hz,by rw[<-ez]⟩
  obtain⟨v,hv⟩:∃v,aK J (Sum.inr n')=some v:=by
   cases hv:aK J (Sum.inr n')with
   | some v=>exact⟨v,rfl⟩
   | none=>exact absurd ii<|BR hv
  obtain⟨rt,rfl,fn⟩:=b1.val hv;have d9:rt∈rs:=by
   rw[cc]at fn;obtain⟨y,hy,ey⟩:=ws9.mp fn;cases ey;exact hy
  obtain⟨pp,ws,a1,a2,a3,a4⟩:=c3 rt d' ⟨d9,b7⟩;exact⟨rt,pp,ws,hv,a1,st _ _ (λz=>a2.1<|by rw[z];simp) a2.2,a3,a4⟩
 .intro d' b7;have e0:=cw d' b7;obtain⟨a1,a2,a3,a4⟩:=(a5 d' b7).choose_spec.choose_spec;rw[<-e0]at a2 a3 a4;exact⟨_,a1,st _ _ (λz=>a2.1<|by rw[z];simp) a2.2,a3,a4⟩
 .show([hd,pt,ph]:List Addr).Nodup;simp only[wv3,wr5,aZ,cY,eY];exact⟨⟨bA bc er,bA bc e7⟩,dn,not_false,kH⟩
 .exact⟨hok,i4,fc,fe,hq,i8,i2,(by show ds≠[];intro z;rw[z]at fs;simp at fs;lia),by show ↑ds<=6;lia,by show(xs.take 4).length=4;rw[eS];lia,by show((xs.drop 4).take 4).length=4;rw[eS,lL];lia,by show(xs.drop 6).length=3;rw[lL];lia⟩
 .exact(dd B M).trans λb o n e=>kx b o e
 .show H pt=none;exact(dd B M).old (λb hb=>by rw[wr8.mp hb];exact⟨_,bc⟩) er
 .show H ph=none;exact(dd B M).old (λb hb=>by rw[wr8.mp hb];exact⟨_,bc⟩) e7
 .lia
abbrev KD:Stmt:=top 66
abbrev Dz:=Str×Addr×List Addr×List Addr
inductive RowsIs(Z:Str->Option Str->Prop)(H:Hp)(z:Dz):Prop
 | mk(h2:H z.2.1=some (.tup<|z.2.2.1.map V.ref))(h3:Fl Z H 4 z.2.2.1 z.2.2.2)(h4:↑z.2.2.2<=80):RowsIs Z H z
theorem RowsIs.keep(h:RowsIs Z H z)(f:Tup H H'):RowsIs Z H' z:=by
 obtain⟨h2,a,b⟩:=h;exact⟨f _ _ h2,a.keep f,b⟩
inductive DeedIs(Z:Str->Option Str->Prop)(H:Hp)(f:Addr)(z:Dz):Prop
 | mk(pv gv:V)(h1:H f=some (.tup [.str z.1,pv,.ref z.2.1,gv]))(h3:DpG H pv gv)(h2:RowsIs Z H z):DeedIs Z H f z
theorem DeedIs.keep(h:DeedIs Z H a z)(f:Tup H H'):DeedIs Z H' a z:=by
 obtain⟨pv,d,h1,b,h2⟩:=h;exact⟨pv,d,f _ _ h1,b.keep f,h2.keep f⟩
inductive KindIs(Z:Str->Option Str->Prop)(H:Hp)(u:Addr)(y:Str×List Dz):Prop
 | mk(e:V)(dt:Addr)(fs:List Addr)(h1:H u=some (.tup [.str y.1,e,.ref dt]))(h2:H dt=some (.tup<|fs.map V.ref))(h3:↑fs=↑y.2)(h4:∀(j:Nat) f z,fs[j]?=some f->y.2[j]?=some z->DeedIs Z H f z)(h5:↑fs<=80):KindIs Z H u y
theorem KindIs.keep(h:KindIs Z H a z)(f:Tup H H'):KindIs Z H' a z:=by
 obtain⟨e,m,fs,h1,h2,d,i,l⟩:=h;exact⟨e,m,fs,f _ _ h1,f _ _ h2,d,λj g z a b=>(i j g z a b).keep f,l⟩
inductive ProgIs(Z:Str->Option Str->Prop)(H:Hp)(p:Addr)(ks:List (Str×List Dz))(m0:Dz):Prop
 | mk(kt:Addr)(us:List Addr)(lt:V)(h1:H p=some (.tup [.ref kt,lt,.ref m0.2.1]))(h2:H kt=some (.tup<|us.map V.ref))(h3:↑us=↑ks)(h4:∀(j:Nat) u y,us[j]?=some u->ks[j]?=some y->KindIs Z H u y)(h5:RowsIs Z H m0)(h6:↑ks<=12):ProgIs Z H p ks m0
theorem ProgIs.keep(h:ProgIs Z H p ks m0)(f:Tup H H'):ProgIs Z H' p ks m0:=by
 obtain⟨d,us,lt,h1,h2,e,i,l,m⟩:=h;exact⟨d,us,lt,f _ _ h1,f _ _ h2,e,λj g z a b=>(i j g z a b).keep f,l.keep f,m⟩
def Tup.dk(hp:H p=some (.dK kv)):Tup H (upd H p o):=λb xs h=>by
 rw[aC λz=>by rw[z,hp]at h;cases h];exact h
inductive LateAt(H:Hp)(p:Addr)(tr:Tr)(late:List Str):Prop
 | mk(kt lt:Addr)(m:V)(h1:H p=some (.tup [.ref kt,.ref lt,m]))(h2:H lt=some (.tup<|late.map V.str))(h3:↑late<=64)(h4:yT tr late)(h5:∃x∈tr,x.1∉late):LateAt H p tr late
def LateAt.keep(h:LateAt H p tr late)(f:Tup H H'):LateAt H' p tr late:=by
 obtain⟨a,lt,m,h1,h2,b,d,e⟩:=h;exact⟨a,lt,m,f _ _ h1,f _ _ h2,b,d,e⟩
def KindsAt.keepT(h:KindsAt H p tr)(f:Tup H H'):KindsAt H' p tr:=by
 obtain⟨d,ts,x,y,h1,h2,e,i⟩:=h;refine⟨d,ts,x,y,f _ _ h1,f _ _ h2,e,λj t z a b=>?_⟩;obtain⟨v,l⟩:=i j t z a b;exact⟨v,f _ _ l⟩
structure QK(Z:Str->Option Str->Prop)(ks:List (Str×List Dz))(tr:Tr):Prop where
 nm:ks.map (·.1)=tr.map (·.1)
 nb:∀k,Z k none->k∈tr.map (·.1)
 hz:∀k d,Z k (some d)->k∈tr.map (·.1)/\∃n l,Up tr k l/\n∈l/\∃y∈ks,y.1=n/\∃z∈y.2,z.1=d
 dl:∃ds:List Str,↑ds<=6/\∀k d,Z k (some d)->d∈ds
inductive SY(vs:List V)(H:Hp)(Q:VK):Prop
 | mk(hd:Addr)(mo d m t r:Int)(h1:vs=[.ref hd,.int mo])(h0:0<=mo/\mo<=80)(h2:Hand H hd d m t r)(h3:t<=1000)
  (h4:∀(p:Addr)(ks:List (Str×List Dz))(m0:Dz)(tr:Tr)(late:List Str)(Z:Str->Option Str->Prop)(H':Hp)(d' m' t' r':Int),FrS [hd] H H'->ProgIs Z H' p ks m0->KindsAt H' p tr->TrOk tr->↑tr<=12->LateAt H' p tr late->QK Z ks tr->Hand H' hd d' m' t' r'->t'<=10000->Q (.ref p) H'):SY vs H Q
def KB:Sp:=λvs H Q _=>SY  vs H Q
def Heads(Z:Str->Option Str->Prop)(H:Hp)(fs:List Addr):Prop:=∀f∈fs,∃z,DeedIs Z H f z
theorem Heads.keep(h:Heads Z H fs)(g:Tup H H'):Heads Z H' fs:=λf b=>by
 obtain⟨z,a⟩:=h f b;exact⟨z,a.keep g⟩
inductive OQ(Z:Str->Option Str->Prop)(Hb H:Hp)(c:Nat)(v:V):Prop
 | mk(p:Addr)(fs:List Addr)(h1:v=.ref p)(h2:H p=some (.lst<|fs.map V.ref))(h3:↑fs<=c)(h4:Hb p=none)(h5:Heads Z H fs):OQ Z Hb H c v
def BK(Z:Str->Option Str->Prop)(Hb H:Hp)(kvs:List (aJ×V))(c:Nat):Prop:=↑kvs<=c/\∀k v,aK kvs k=some v->OQ Z Hb H c v
theorem BK.keep(h:BK Z Hb H kvs c)(f:FrS M H H')(i:∀p,Hb p=none->p∉M)(tp:Tup H H'):BK Z Hb H' kvs c:=⟨h.1,λk v e=>by
 obtain⟨p,xs,a,b,c',d,g⟩:=h.2 k v e;exact⟨p,xs,a,f _ _ (i p d) b,c',d,g.keep tp⟩⟩
def BK.put(h:BK Z Hb H kvs c)(hp:H p=some (.lst<|fs.map V.ref))(hl:↑fs<=c+1)(l:Hb p=none)(m:Heads Z H fs):BK Z Hb H (aO kvs k<|.ref p) (c+1):=by
 refine⟨by have:=jF kvs k<|V.ref p;have:=h.1;lia,λf v e=>?_⟩;rw[nQ]at e
 by_cases z:f=k
 .rw[bE z]at e;cases e;exact⟨p,fs,rfl,hp,hl,l,m⟩
 .rw[bD z]at e;obtain⟨j,i,a,b,c',d,g⟩:=h.2 f v e;exact⟨j,i,a,b,by lia,d,g⟩
def BK.app(h:BK Z Hb H kvs c)(hp:H p=some (.lst xs))(hl:↑gs<=c)(j:Heads Z H gs):BK Z Hb (upd H p<|.lst<|gs.map V.ref) kvs c:=by
 have kp:Tup H (upd H p<|.lst<|gs.map V.ref):=Tup.lst hp;refine⟨h.1,λk v e=>?_⟩;obtain⟨f,i,a,b,c',d,g⟩:=h.2 k v e
 by_cases z:f=p
 .subst z;exact⟨f,gs,a,zb1,hl,d,j.keep kp⟩
 .exact⟨f,i,a,by rw[aC z];exact b,c',d,g.keep kp⟩
def BK.more(h:BK Z Hb H kvs c)(l:c<=c'):BK Z Hb H kvs c':=⟨by have:=h.1;lia,λk v e=>by
 obtain⟨i,f,a,b,j,d,g⟩:=h.2 k v e;exact⟨i,f,a,b,by lia,d,g⟩⟩
theorem nJ:∀fs:List Addr,Heads Z H fs->∃zs:List Dz,↑fs=↑zs/\∀(i:Nat) f z,fs[i]?=some f->zs[i]?=some z->DeedIs Z H f z
 | [],_=>⟨[],rfl,λi f d h=>by simp at h⟩
 | f::fs,h=>by
  obtain⟨d,e⟩:=h f<|.head _;obtain⟨ds,h1,h2⟩:=nJ fs λg a=>h g<|.tail _ a;refine⟨d::ds,cM (·+1) h1,λi g d' a hd=>?_⟩;cases i with
  | zero=>cases a;cases hd;exact e
  | succ i=>exact h2 i g d' a hd
inductive KAt(Z:Str->Option Str->Prop)(Wn:Str->Str->Prop)(H:Hp)(u:Addr)(z:Str×Option Str):Prop
 | mk(dt:Addr)(fs:List Addr)(h1:H u=some (.tup [.str z.1,aS z.2,.ref dt]))(h2:H dt=some (.tup<|fs.map V.ref))(h3:↑fs<=80)(h4:Heads Z H fs)(h5:∀d,Wn z.1 d->∃f∈fs,∃y,DeedIs Z H f y/\y.1=d):KAt Z Wn H u z
theorem KAt.keep(h:KAt Z Wn H u z)(g:Tup H H'):KAt Z Wn H' u z:=by
 obtain⟨m,fs,h1,h2,a,b,l⟩:=h;exact⟨m,fs,g _ _ h1,g _ _ h2,a,b.keep g,λd hd=>by
  obtain⟨f,i,y,j,e⟩:=l d hd;exact⟨f,i,y,j.keep g,e⟩⟩
theorem nL:∀(us:List Addr)(tr:Tr),A2 (KAt Z Wn H) us tr->∃ks:List (Str×List Dz),↑us=↑ks/\(∀(j:Nat) u y,us[j]?=some u->ks[j]?=some y->KindIs Z H u y)/\ks.map (·.1)=tr.map (·.1)/\∀y∈ks,∀d,Wn y.1 d->∃z∈y.2,z.1=d
 | [],_,.nil=>⟨[],rfl,(λi f d h=>by simp at h),rfl,λ_ h=>nomatch h⟩
 | u::us,_,.cons (b:=z) g gt=>by
  obtain⟨x,fs,G,E,I,w,r⟩:=g;obtain⟨zs,o,q⟩:=nJ fs w;obtain⟨ks,h1,h2,A,s⟩:=nL us _ gt;refine⟨(z.1,zs)::ks,cM (·+1) h1,λi g d' m hd=>?_,cM (z.1::·) A,λy l d hd=>?_⟩
  .cases i with
   | zero=>cases m;cases hd;exact⟨_,x,fs,G,E,o,q,I⟩
   | succ i=>exact h2 i g d' m hd
  .rcases wr5.mp l with rfl | l
   .obtain⟨f,B,y,l,e⟩:=r d hd;obtain⟨i,hi⟩:=wv6.mp B;have n:i<↑zs:=by rw[<-o];exact(wr1.mp hi).1
    obtain⟨_,_,C,_⟩:=q i f zs[i] hi<|bH n;obtain⟨_,_,a,_⟩:=l;rw[C]at a;exists zs[i],gW n;injection a with a;injection a with a;injection a with a _;exact(V.str.inj a).trans e
   .exact s y l d hd
def Got(Z:Str->Option Str->Prop)(H:Hp)(kvs:List (aJ×V))(x d:Str):Prop:=∃(p:Addr)(fs:List Addr),aK kvs (Sum.inr x)=some (.ref p)/\H p=some (.lst<|fs.map V.ref)/\∃f∈fs,∃y,DeedIs Z H f y/\y.1=d
theorem Got.keep(h:Got Z H kvs x d)(m:BK Z Hb H kvs c)(f:FrS M H H')(b:∀p,Hb p=none->p∉M)(tp:Tup H H'):Got Z H' kvs x d:=by
 obtain⟨p,fs,e,hp,g,l,y,j,a⟩:=h;obtain⟨o,_,n,_,_,i,_⟩:=m.2 _ _ e;cases n;exact⟨p,fs,e,f _ _ (b p i) hp,g,l,y,j.keep tp,a⟩
theorem HZ:∀{l a:List Addr},l.map V.ref=a.map V.ref->l=a
 | [],[],_=>rfl
 | [],_::_,h=>by cases h
 | _::_,[],h=>by cases h
 | x::l,y::a,h=>by
  rw[dB,dB]at h;injection h with h1 h2;rw[V.ref.inj h1,HZ h2]
def Got.app(h:Got Z H kvs x d)(hp:H pl=some (.lst<|gs.map V.ref)):Got Z (upd H pl<|.lst<|(gs++[g0]).map V.ref) kvs x d:=by
 obtain⟨p,fs,e,a,g,i,y,f,b⟩:=h;have tp:Tup H (upd H pl<|.lst<|(gs++[g0]).map V.ref):=Tup.lst hp
 by_cases c:p=pl
 .subst c;rw[hp]at a;injection a with a;injection a with a;have:=HZ a;subst this;exact⟨p,gs++[g0],e,zb1,g,qQ _ i,y,f.keep tp,b⟩
 .exact⟨p,fs,e,by rw[aC c];exact a,g,i,y,f.keep tp,b⟩
def Got.put(h:Got Z H kvs x d)(a:aK kvs (Sum.inr x')=none):Got Z H (aO kvs (Sum.inr x') v) x d:=by
 obtain⟨p,fs,e,r⟩:=h;refine⟨p,fs,?_,r⟩;rw[nQ,bD]
 .exact e
 .intro z;rw[z,a]at e;cases e
theorem Got.dk(h:Got Z H kvs x d)(f:H b=some (.dK kv)):Got Z (upd H b<|.dK kv') kvs x d:=by
 obtain⟨p,fs,e,a,g,l,y,j,i⟩:=h;exact⟨p,fs,e,by rw[aC λz=>by rw[z,f]at a;cases a];exact a,g,l,y,j.keep<|Tup.dk f,i⟩
def CC(D:WD)(x d:Str):Prop:=d∈D.deeds/\x∈D.own d
def iQ(D:WD)(i:Nat)(H:Hp)(kvs:List (aJ×V)):Prop:=∀j,j<i->∀dn,D.deeds[D.deeds.length-1-j]?=some dn->∀x∈D.own dn,Got (eG D) H kvs x dn
def IU(D:WD)(i j:Nat)(H:Hp)(kvs:List (aJ×V)):Prop:=∀dn,D.deeds[D.deeds.length-1-i]?=some dn->∀jj,jj<j->∀x,(D.own dn)[jj]?=some x->Got (eG D) H kvs x dn
inductive wB(mo:Int)(H1:Hp)(hd wd bk:Addr)(WA:WA)(D:WD)(t1:Int)(i:Nat)(σ:St)(Hx:Hp):Prop
 | mk(lx kx:Option V)(tx rx:Int)(kvs:List (aJ×V))(h1:σ=[some<|.ref hd,some<|.int mo,some<|.ref wd,some<|.ref bk,lx,kx,none,none])(h2:Sit0 Hx hd wd WA D tx rx)(h3:FrS (M0 hd WA) H1 Hx)(h4:0<=rx)(h5:rx<=54)(h6:tx+25*rx<=t1+1350+195*(i:Int))(h7:Hx bk=some (.dK kvs))(h8:BK (eG D) H1 Hx kvs (13*i))(h9:iQ D i Hx kvs):wB mo H1 hd wd bk WA D t1 i σ Hx
inductive tH(mo:Int)(H1:Hp)(hd wd bk:Addr)(WA:WA)(D:WD)(t1 lv:Int)(i j:Nat)(σ:St)(Hy:Hp):Prop
 | mk(ky:Option V)(ty ry:Int)(kvs:List (aJ×V))(h1:σ=[some<|.ref hd,some<|.int mo,some<|.ref wd,some<|.ref bk,some<|.int lv,ky,none,none])(h2:Sit0 Hy hd wd WA D ty ry)(h3:FrS (M0 hd WA) H1 Hy)(h4:0<=ry)(h5:ry<=54)(h6:ty+25*ry<=t1+1350+195*(i:Int)+15*(j:Int))(h7:Hy bk=some (.dK kvs))(h8:BK (eG D) H1 Hy kvs (13*i+j))(h9:iQ D i Hy kvs)(h10:IU D i j Hy kvs):tH mo H1 hd wd bk WA D t1 lv i j σ Hy
abbrev zS:List Str:=[qH,"_law_most",qW,"_law_by_kind","_law_level","_law_kind","_law_main","_law_kinds"]
def zz5:bY zS [qH,"_law_most"] (bP KD):=cE
def Ba(F:Fun K "_law_program" "_law_program" KD f fd)(T:aR P w K mg base k "_law_take" qB fZ)(O:aR P w K mg base k "_law_of" qC (cR K))(W:aR P w K mg base k "_law_world" [qH] GO)(DE:aR P w K mg base k "_law_deed" CI DS)(R:aR P w K mg base k "_law_rows" jX (tG 4))(ml:mg "len"=none)(mr:mg "range"=none)(bq:mg "tuple"=none)(cy:mg "sorted"=none):
  aQ P w K mg base bQ (k+1) f fd [qH,"_law_most"] KB:=by
 refine F.ok zz5 (λvs H Q E h=>?_) λg3 A outer s H vs Q E hr h=>?_
 .obtain⟨hd,B,d,m,t,r,rfl,_⟩:=h;rfl
 obtain⟨hd,B,d,m,t,r,rfl,g1,hh,ht,q⟩:=h;have hr0:0<=B-B / 3/\B-B / 3<=54:=by lia
 have fj:0<=B / 3/\B / 3<=26:=by lia
 have hu:=eU hr;have ct:(["_law_name","_law_elder","_law_by_kind"]:List Str).Nodup:=by rfl'
 exists _,aG (sL 2 zz5.nd<|bC W hr rfl<|aA (pv 0) aE)
  (aG (hW (i:=3) zz5.nd rfl (Or.inr rfl) tJ) (aG (gP (cB lO (pv 1)<|cB yO (pv 1) aN)<|uD (pv 0) aN tY) (aG (eC dW rfl (WL rfl mr<|aA (cB lO (eR gK rfl ml gB<|aA (cQ hu (pv 2) bR λ_ _=>rfl) aE) aN)<|aA (kK kS aN)<|aA (kK kS aN) aE) (gL 4 zz5.nd)<|aV<|eC dW rfl (iF<|cQ hu (cQ hu (pv 2) bR λ_ _=>rfl) (eI (cQ hu (pv 2) bR λ_ _=>rfl)<|pv 4) λ_ _=>rfl) (gL 5 zz5.nd)<|aV<|dZ<|fI eX fQ fV fL (Al (pv 3) (pv 5) (cW aE) ⟨rfl,rfl,rfl,rfl⟩)<|aA (bC DE hr rfl<|aA (pv 0)<|aA (pv 2)<|aA (pv 5)<|aA (pv 4) aE) aE) (aG (gP (cB jL (eI (pv 0) aN)<|cB yO (pv 1) aN)<|uD (pv 0) aN tY) (aG (sL 6 zz5.nd<|bC R hr rfl<|aA (pv 0)<|aA (pv 2)<|aA tJ<|aA (kK kS aN)<|aA (bC T hr rfl<|aA (pv 0)<|aA aN aE)<|aA (bC O hr rfl<|aA (pv 0)<|aA (cW<|dL<|dL<|dL<|dL aE) aE) aE) (aG (tL (i:=7) (N':=["_law_name","_law_elder","_law_by_kind"]) (src:=[none,none,some 3]) rfl zz5.nd rfl rfl fH (iF<|cQ hu (pv 2) bR λ_ _=>rfl) (g:=eN K 2<|eJ (cG 0)<|eJ (cG 1) eK) (λ_ _ _ _=>dS (n:=2) rfl<|bI (gL 0 ct)<|bI (gL 1 ct) dV) (λ_ _ _ _=>gT) (te:=gR<|bG (aL 0)<|bG (aL 1)<|bG (mJ (λxs H Q=>∃p ys,xs=[.ref p]/\((SqL K H p ys/\∀l,H l=none->Q (.ref l) (upd H l<|.tup ys))\/(SqT K H p ys/\Q (.ref p) H)))<|bG (yC K (QH (aL 2) (aL 0)<|lA bK)<|JL (rU λi=>.int<|-i)<|tC<|.int 1) bK) bK) λ_ _ _ _=>cX<|aA (pv 0)<|aA (pv 1)<|aA (fG iB rfl bq (by rfl')<|aA (OO (SS hu (pv 2) (pv 0) (cW aE) ⟨rfl,rfl,rfl,rfl⟩)<|kK kS aN) aE) aE)
  (aV<|bL<|cX<|aA (fG iB rfl bq (by rfl')<|aA (pv 7) aE)<|aA (fG iB rfl bq (by rfl')<|aA (eR XO rfl cy (by rfl')<|aA (cQ hu (pv 2) bR λ_ _=>rfl) aE) aE)<|aA (pv 6) aE)))))))
 ac_rfl
 refine⟨_,rfl,hd,d,m,t,r,rfl,hh,by lia,λwd WA D H1 t1 S1 f1 aq am fp=>?_⟩;have h6:=S1.ok.d6;have dd:=S1.ok.l12;intro bk b8;have S2:=S1.fr0<|FrS.new (S:=[]) (o:=.dK []) b8;have ak:bk∉M0 hd WA:=S1.notin b8;obtain⟨d2,m2,em,el⟩:=S2.hand;exists _,rfl,_,rfl,_,_,rfl,rfl,⟨by lia,by decide⟩,_,_,rfl,rfl,_,rfl,hd,_,3,3,rfl,rfl,em,rfl;have b0:bk≠hd:=λz=>ak (by rw[z];simp)
 have S3:Sit0 (upd (upd H1 bk<|.dK []) hd<|hl d2 m2 t1<|B-B / 3) hd wd WA D t1 (B-B / 3):=S2.setHand el;have f3:FrS (M0 hd WA) H1 (upd (upd H1 bk<|.dK []) hd<|hl d2 m2 t1<|B-B / 3):=(FrS.new b8).put' (by trivial);have bp:upd (upd H1 bk<|.dK []) hd (hl d2 m2 t1<|B-B / 3) bk=some (.dK []):=by rw[aC b0];exact zb1
 have hM:∀p,H1 p=none->p∉M0 hd WA:=λp hp=>S1.notin hp;exists _,rfl,wd,_,rfl,S3.w.g.2.2.1,WA.deeds,_,rfl,.inl<|SqL.of S3.w.deeds.2,_,_,rfl,rfl,_,rfl,_,rfl,_,_,rfl,?_
 .rw[aI];exact⟨by lia,by lia,by decide,by decide⟩
 have ek:1<=D.deeds.length:=List.length_pos_iff.mpr S1.ok.d1;have en:((↑(D.deeds.map V.str):Int)-1-(-1)).toNat=D.deeds.length:=by rw[aI];lia
 rw[en];refine XQ (hi:=((↑(D.deeds.map V.str):Nat):Int)-1) (n:=D.deeds.length) (wB B H1 hd wd bk WA D t1)
  ⟨_,_,t1,B-B / 3,[],rfl,S3,f3,hr0.1,hr0.2,by lia,bp,⟨by simp,(λk v e=>nomatch e)⟩,λj Z=>absurd Z<|Nat.not_lt_zero _⟩ ?_ ?_
 .rintro i σ Hx hi ⟨lx,kx,tx,rx,kvs,rfl,Sx,fx,ee,ds,f6,bd,du,hG⟩;have bb:D.deeds.length-1-i<D.deeds.length:=by lia
  have ci:((↑(D.deeds.map V.str):Nat):Int)-1-(i:Int)=((D.deeds.length-1-i:Nat):Int):=by rw[aI];lia
  have eg:dY (D.deeds.map V.str) (((↑(D.deeds.map V.str):Nat):Int)-1-(i:Int))=some (.str D.deeds[D.deeds.length-1-i]):=by
   rw[ci];exact mQ (by rw[bZ,bH bb];rfl)
  have f2:D.deeds[D.deeds.length-1-i]∈D.deeds:=gW bb;obtain⟨op,o1,o2,o3,o4⟩:=S1.w.ol _ f2;have bh:D.deeds[D.deeds.length-1-i]?=some D.deeds[D.deeds.length-1-i]:=bH bb;generalize hos:D.own D.deeds[D.deeds.length-1-i]=os at o2 o3 o4;have f0:=o2.keep fx;exists _,rfl,wd,_,rfl,Sx.w.g.2.2.2.2.1,_,rfl,wd,_,rfl,Sx.w.g.2.2.1,_,rfl,WA.deeds,_,_,_,rfl,rfl,SqL.of Sx.w.deeds.2,eg,WA.owners,_,rfl,.inl ⟨_,Sum.inr _,.inl Sx.w.owners.2,rfl,o1.symm⟩,op,rfl,⟨_,SqL.of f0.2⟩;refine tU (xs:=os.map V.str) (tH B H1 hd wd bk WA D t1 (((↑(D.deeds.map V.str):Nat):Int)-1-(i:Int)) i)
   ⟨_,tx,rx,kvs,rfl,Sx,fx,ee,ds,by lia,bd,du,hG,λ_ _ jj Z=>absurd Z<|Nat.not_lt_zero _⟩ ?_ ?_ ?_
  .rintro j σ Hy Z ⟨_,_,_,_,_,_,fy,_⟩;exact SqL.of (o2.keep fy).2
  .rintro j x σ Hy C ⟨ky,ty,ry,kvs,rfl,Sy,fy,bj,cd,cg,az,a8,br,ba⟩;obtain⟨Z,_⟩:=wr1.mp C;rw[aI]at Z;rw[bZ,bH Z]at C;cases C;have dl:os[j]∈D.names:=o3 _<|gW Z;refine⟨_,rfl,bk,rfl,.inl ⟨_,.inl az⟩,_,rfl,bT _,λpe ac=>?_⟩;have Sz:=Sy.fr0<|FrS.new (S:=[]) (o:=.lst []) ac;have fz:FrS (M0 hd WA) H1 (upd Hy pe<|.lst []):=fy.trans<|FrS.new ac;have ad:upd Hy pe (.lst []) bk=some (.dK kvs):=by rw[aC<|bA az ac];exact az
   have ab:BK (eG D) H1 (upd Hy pe<|.lst []) kvs (13*i+j):=a8.keep (FrS.new ac) hM<|Tup.new ac;have bl:iQ D i (upd Hy pe<|.lst []) kvs:=λX N dn hd x C=>(br X N dn hd x C).keep a8 (FrS.new ac) hM<|Tup.new ac;have c0:IU D i j (upd Hy pe<|.lst []) kvs:=λdn hd jj N x C=>(ba dn hd jj N x C).keep a8 (FrS.new ac) hM<|Tup.new ac;have b7:H1 pe=none:=fy.old Sy.have_ ac;have aa:upd Hy pe (.lst []) pe=some (.lst []):=zb1;generalize upd Hy pe (.lst [])=Hz at Sz fz ad ab aa bl c0;have go:∀(pl:Addr)(fs:List Addr)(ag:List (aJ×V))(Hv:Hp),Sit0 Hv hd wd WA D ty ry->FrS (M0 hd WA) H1 Hv->Hv bk=some (.dK ag)->BK (eG D) H1 Hv ag (13*i+j+1)->Hv pl=some (.lst<|fs.map V.ref)->↑fs<=13*i+j->H1 pl=none->Heads (eG D) Hv fs->iQ D i Hv ag->IU D i j Hv ag->aK ag (Sum.inr os[j])=some (.ref pl)->
     HG K "list" uM (bG (gE DS [] E0<|bG (aL 0)<|bG (aL 2)<|bG (aL 5)<|bG (aL 4) bK) bK) (.ref pl) [some<|.ref hd,some<|.int B,some<|.ref wd,some<|.ref bk,some<|.int<|((↑(D.deeds.map V.str):Nat):Int)-1-(i:Int),some<|.str os[j],none,none] Hv λ_ dv=>
      tH B H1 hd wd bk WA D t1 (((↑(D.deeds.map V.str):Nat):Int)-1-(i:Int)) i (j+1) [some<|V.ref hd,some<|.int B,some<|.ref wd,some<|.ref bk,some<|.int<|((↑(D.deeds.map V.str):Nat):Int)-1-(i:Int),some<|.str os[j],none,none] dv:=by
    intro pl fs ag Hv Sv fv ed ah au fi as dw da e9 dx;refine⟨.inl ⟨rfl,_,SqL.of au⟩,_,rfl,_,rfl,_,rfl,_,rfl,hd,wd,WA,D,ty,ry,os[j],D.deeds.length-1-i,by rw[ci];rfl,dl,bb,Sv,bj,by lia,λxn dn pv gv ln bv ay Hw tw ei ca c5 ao cu cl fg Sw fw d5 g0 fh=>?_⟩;have a5:=fw _ _ (hM pl as) au;have bz:=fw _ _ ak ed;have bc:Tup Hv Hw:=Sv.tup fw;have dq:Heads (eG D) Hw (fs++[xn]):=λf hf=>by
     rcases wt2.mp hf with hf | hf
     .exact(dw.keep bc) f hf
     .have e:f=xn:=by simpa using hf
      rw[e];exact⟨(dn,ln,bv,ay),pv,gv,c5,ao,cu,cl,by show ↑ay<=80;lia⟩
    have So:=Sit0.own (o:=.lst<|(fs++[xn]).map V.ref) S1 Sw (fv.trans fw) as;have ea:fs.map V.ref++[V.ref xn]=(fs++[xn]).map V.ref:=by rw[bX];rfl
    exists pl,_,_,rfl,rfl,a5,bO (by rw[aI];lia);rw[ea];have eh:=ah.keep fw hM bc;refine⟨_,tw,ei,ag,rfl,So.1,So.2,d5,by lia,by lia,?_,?_,λX N Y I x C=>((da X N Y I x C).keep ah fw hM bc).app a5,λY I jj N x C=>?_⟩
    .rw[aC λz=>by rw[z,a5]at bz;cases bz];exact bz
    .exact eh.app a5 (by rw[bJ,dQ];lia) dq
    .rcases tT jj j with ar | ar
     .exact((e9 Y I jj ar x C).keep ah fw hM bc).app a5
     .have er:jj=j:=by lia
      rw[bh]at I ca;cases I;cases ca;rw[hos,er,bH Z]at C;cases C;exact⟨pl,fs++[xn],dx,zb1,xn,fW _<|wr8.mpr rfl,(_,ln,bv,ay),⟨pv,gv,(Tup.lst a5) _ _ c5,ao.keep<|Tup.lst a5,(⟨cu,cl,by show ↑ay<=80;lia⟩:RowsIs (eG D) Hw (_,ln,bv,ay)).keep<|Tup.lst a5⟩,rfl⟩
   refine⟨kvs,Sum.inr os[j],ad,rfl,bO (by have:=ab.1;lia),λv hv=>?_,λhv=>?_⟩
   .obtain⟨pl,xs,rfl,a1,a2,a3,a4⟩:=ab.2 _ _ hv;exact go pl xs kvs Hz Sz fz ad (ab.more<|by lia) a1 a2 a3 a4 bl c0 hv
   .have So:=Sit0.own (o:=.dK<|aO kvs (Sum.inr os[j])<|.ref pe) S1 Sz fz b8;have ev:pe≠bk:=λz=>by rw[z,ad]at aa;cases aa
    refine go pe [] (aO kvs (Sum.inr os[j])<|.ref pe) _ So.1 So.2 zb1 ?_ (by rw[aC ev];exact aa) (bT _) b7 (λ_ h=>by cases h) (λX N Y I x C=>((bl X N Y I x C).put hv).dk ad) (λY I jj N x C=>((c0 Y I jj N x C).put hv).dk ad) (by rw[nQ,bE rfl]);have h1:=ab.put (fs:=[]) (k:=(Sum.inr os[j]:aJ)) aa (bT _) b7 (λ_ h=>by cases h);refine⟨h1.1,λk v e=>?_⟩;obtain⟨p',be,b1,b2,b3,b4,b5⟩:=h1.2 k v e;exact⟨p',be,b1,by rw[aC λz=>by rw[z,ad]at b2;cases b2];exact b2,b3,b4,b5.keep<|Tup.dk ad⟩
  .rintro σ Hy ⟨ky,ty,ry,kvs,rfl,Sy,fy,bj,cd,cg,az,a8,br,ba⟩;rw[aI]at cg a8 ba;refine⟨_,_,ty,ry,kvs,rfl,Sy,fy,bj,cd,by lia,az,a8.more (by lia),λX N Y I x C=>?_⟩;rcases tT X i with c | c
   .exact br X c Y I x C
   .have ej:X=i:=by lia
    subst ej;rw[bh]at I;cases I;rw[hos]at C;obtain⟨jj,ar⟩:=wv6.mp C;exact ba _ bh jj (wr1.mp ar).1 x (by rw[hos];exact ar)
 rintro σ H4 ⟨lx,kx,t4,J,kvs,rfl,S4,f4,fq,fo,g2,e6,av,dy⟩;obtain⟨d4,m4,ce,d9⟩:=S4.hand;exists _,rfl,hd,_,_,_,rfl,rfl,SqL.of ce,yV,_,rfl,_,_,rfl,rfl,⟨by lia,by decide⟩,_,_,rfl,rfl,_,rfl,hd,_,3,3,rfl,rfl,ce,rfl;have S5:Sit0 (upd H4 hd<|hl d4 m4 t4<|J+B / 3) hd wd WA D t4 (J+B / 3):=S4.setHand d9;have f5:FrS (M0 hd WA) H1 (upd H4 hd<|hl d4 m4 t4<|J+B / 3):=f4.put' (by trivial);have cw:upd H4 hd (hl d4 m4 t4<|J+B / 3) bk=some (.dK kvs):=by rw[aC b0];exact e6
 have af:BK (eG D) H1 (upd H4 hd<|hl d4 m4 t4<|J+B / 3) kvs (13*D.deeds.length):=av.keep (M:=M0 hd WA) (FrS.chg<|.head _) hM<|S4.tup<|FrS.chg<|.head _;have cs:iQ D D.deeds.length (upd H4 hd<|hl d4 m4 t4<|J+B / 3) kvs:=λX N Y I x C=>(dy X N Y I x C).keep av (M:=M0 hd WA) (FrS.chg<|.head _) hM<|S4.tup<|FrS.chg<|.head _;have e8:∀{G:Hp->Prop},G (upd H4 hd<|hl d4 m4 t4<|J+B / 3)->G (upd H4 hd<|.lst<|[V.int d4,V.int m4,V.int t4,V.int J].set 3<|V.int<|J+B / 3):=λh=>h;refine e8 ?_;generalize upd H4 hd (hl d4 m4 t4<|J+B / 3)=H5 at S5 f5 cw af cs;refine⟨_,rfl,_,rfl,λae bt=>?_⟩;have eq:H1 ae=none:=f5.old S5.have_ bt;have Se:Sit (upd H5 ae<|.dK []) hd ae wd WA D t4 (J+B / 3):=S5.open bt DOk.nil;have cq:∀Hf:Hp,FrS (Ms hd ae WA) (upd H5 ae<|.dK []) Hf->FrS (M0 hd WA) H5 Hf:=λHf ff=>FrS.close bt ff;generalize upd H5 ae (.dK [])=H6 at Se cq;obtain⟨d,m,de⟩:=Se.hand;refine⟨_,rfl,_,rfl,hd,d,m,t4,J+B / 3,5,rfl,de,by lia,by decide,by decide,λx d7 m7 t7 x0 x1 c7 e7=>?_⟩;obtain⟨dp,rfl⟩:∃dp:Nat,x=(dp:Int):=⟨x.toNat,by lia⟩;have S7:=Se.setHand (r':=J+B / 3) c7;have f7:FrS (Ms hd ae WA) H6 (upd H6 hd<|hl d7 m7 t7<|J+B / 3):=FrS.chg (by trivial);refine⟨_,rfl,dJ rfl,λpi bx=>?_⟩;have Sa:=S7.fr0<|FrS.new (S:=[]) (o:=.lst [V.int 4,V.int 8,V.int 12,V.int 20]) bx;have fa:=f7.trans<|FrS.new (o:=.lst [V.int 4,V.int 8,V.int 12,V.int 20]) bx;have bw:pi≠hd:=λz=>S7.notin bx (by rw[z];simp)
 obtain⟨d,m,dj⟩:=Sa.hand;refine⟨hd,pi,d,m,t7,J+B / 3,_,rfl,dj,by lia,bw,SqL.of zb1,by simp,by show 4<1000;decide,λy db mb tb hy cb eb=>?_⟩;obtain⟨mq,rfl,d3,d0⟩:∃mq:Int,y=.int mq/\0<=mq/\mq<=100:=by
  simp only[wr5,aZ,cY]at hy;rcases hy with rfl | rfl | rfl | rfl
  .exact⟨4,rfl,by decide,by decide⟩
  .exact⟨8,rfl,by decide,by decide⟩
  .exact⟨12,rfl,by decide,by decide⟩
  .exact⟨20,rfl,by decide,by decide⟩
 have Sb:=Sa.setHand (r':=J+B / 3) cb;have fb:=fa.put' (a:=hd) (o:=hl db mb tb<|J+B / 3) (by trivial);refine⟨hd,ae,wd,WA,D,tb,J+B / 3,-1,mq,dp,rfl,by lia,d3,d0,Sb,by lia,by lia,λmv cx bm Hc tc rc df d8 c3 Sc fc fk fe fr=>?_⟩;have f8:=cq _<|fb.trans fc;have S8:=Sc.close;have c1:=f8 _ _ ak cw;have ap:=af.keep f8 hM<|S5.tup f8;have cv:iQ D D.deeds.length Hc kvs:=λX N Y I x C=>(cs X N Y I x C).keep af f8 hM<|S5.tup f8;have cp:RowsIs (eG D) Hc ("",mv,cx,bm):=⟨df,d8,by show ↑bm<=80;lia⟩;have co:=f5.trans f8;generalize Hc=H8 at f8 S8 c1 ap co cp cv;obtain⟨ts,c4,fn,e5⟩:=S8.w.tree;refine⟨_,rfl,wd,_,rfl,S8.w.g.1,WA.tree,rfl,⟨_,SqL.of c4.2⟩,λDl cr=>?_⟩;refine uH (xs:=ts.map V.ref) (λi σ Hx=>(∃x y,σ=[x,y,some<|.ref bk])/\FrS [] H8 Hx/\∃us:List Addr,↑us=i/\Hx Dl=some (.lst<|us.map V.ref)/\A2 (KAt (eG D) (CC D) Hx) us (D.tr.take i)) ⟨⟨_,_,rfl⟩,(FrS.refl).put cr,[],rfl,zb1,.nil⟩ ?_ ?_ ?_
 .rintro i σ Hx hi ⟨_,fx,_⟩;exact SqL.of<|fx _ _ (by trivial) c4.2
 .rintro i x σ Hx C ⟨⟨fl,ft,rfl⟩,fx,us,bn,ew,aj⟩;rw[bZ]at C;obtain⟨tt,ax,rfl⟩:=wt0.mp C;obtain⟨hi,_⟩:=wr1.mp ax;have cf:D.tr[i]?=some D.tr[i]:=bH (by lia);have e3:=e5 i tt _ ax cf;have bd:=fx _ _ (by trivial) c1;exists tt,_,rfl,SqT.of<|fx _ _ (by trivial) e3.2,rfl,_,_,rfl,_,_,rfl,rfl;refine⟨_,rfl,_,rfl,_,rfl,bk,rfl,.inl ⟨_,.inl bd⟩,_,rfl,bT _,λpd ep=>?_⟩;have f9:FrS [] Hx (upd Hx pd<|.lst []):=FrS.new ep;have c8:=f9 _ _ (by trivial) bd;have b9:=f9 _ _ (by trivial) ew;have c2:upd Hx pd (.lst []) pd=some (.lst []):=zb1;generalize upd Hx pd (.lst [])=L at f9 c8 b9 c2;have bo:FrS [] H8 L:=fx.trans f9;obtain⟨pz,zs,dm,e4,eo,di,dz⟩:∃(pz:Addr)(zs:List Addr),(aK kvs<|Sum.inr D.tr[i].1).getD (.ref pd)=.ref pz/\L pz=some (.lst<|zs.map V.ref)/\↑zs<=80/\Heads (eG D) L zs/\∀d,CC D D.tr[i].1 d->∃f∈zs,∃y,DeedIs (eG D) L f y/\y.1=d:=by
   have b6:∀d,CC D D.tr[i].1 d->Got (eG D) H8 kvs D.tr[i].1 d:=λd hd=>by
    obtain⟨j,Z⟩:=wv6.mp hd.1;have fm:=(wr1.mp Z).1;refine cv (D.deeds.length-1-j) (by lia) d ?_ _ hd.2;rw[show D.deeds.length-1-(D.deeds.length-1-j)=j by lia];exact Z
   cases hv:aK kvs (Sum.inr D.tr[i].1)with
   | none=>
    refine⟨pd,[],rfl,c2,bT _,(λ_ h=>by cases h),λd hd=>?_⟩;obtain⟨p',cz,e,_⟩:=b6 d hd;rw[hv]at e;cases e
   | some v=>
    obtain⟨p',be,b1,b2,b3,_,b5⟩:=ap.2 _ _ hv;refine⟨p',be,b1,bo _ _ aZ b2,by lia,b5.keep<|Tup.of0 bo,λd hd=>?_⟩;obtain⟨p2,cz,e,e2,g,hg,y,hy,ey⟩:=b6 d hd;rw[hv,b1]at e;cases e;rw[b2]at e2;injection e2 with e2;injection e2 with e2;rw[<-HZ e2]at hg;exact⟨g,hg,y,hy.keep<|Tup.of0 bo,ey⟩
  refine⟨_,DGet.k (k:=(Sum.inr D.tr[i].1:aJ)) c8,_,rfl,rfl,pz,_,dm,SqL.of e4,λal dg=>?_⟩;rw[<-List.map_reverse];refine⟨al,_,rfl,.inl ⟨SqL.of zb1,λpu dc=>?_⟩⟩;refine⟨dJ rfl,λpt an=>?_⟩;have fA:FrS [] L (upd (upd L al<|.lst<|zs.reverse.map V.ref) pu<|.tup<|zs.reverse.map V.ref):=(FrS.new dg).trans<|FrS.new dc;have aw:upd (upd L al<|.lst<|zs.reverse.map V.ref) pu (.tup<|zs.reverse.map V.ref) pu=some (.tup<|zs.reverse.map V.ref):=zb1;have bg:=fA _ _ (by trivial) b9;have cn:Heads (eG D) (upd (upd L al<|.lst<|zs.reverse.map V.ref) pu<|.tup<|zs.reverse.map V.ref) zs.reverse:=λf hf=>let ⟨z,e⟩:=di f<|vg6.mp hf;⟨z,e.keep<|Tup.of0 fA⟩
  have ch:∀d,CC D D.tr[i].1 d->∃f∈zs.reverse,∃y,DeedIs (eG D) (upd (upd L al<|.lst<|zs.reverse.map V.ref) pu<|.tup<|zs.reverse.map V.ref) f y/\y.1=d:=λd hd=>by
   obtain⟨f,hf,y,hy,ey⟩:=dz d hd;exact⟨f,vg6.mpr hf,y,hy.keep<|Tup.of0 fA,ey⟩
  generalize upd (upd L al<|.lst<|zs.reverse.map V.ref) pu (.tup<|zs.reverse.map V.ref)=HA at fA bg an aw cn ch;have eu:Dl≠pt:=bA bg an;have cm:upd HA pt (.tup [V.str D.tr[i].1,aS D.tr[i].2,V.ref pu]) Dl=some (.lst<|us.map V.ref):=by rw[aC eu];exact bg
  refine⟨_,cm,by rw[aI];exact bO (by lia),⟨_,_,rfl⟩,(((fx.trans f9).trans fA).trans<|FrS.new an).put cr,us++[pt],by rw[bJ,bn];rfl,by rw[zb1,bX];rfl,?_⟩;have tl:Tup (upd HA pt<|.tup [V.str D.tr[i].1,aS D.tr[i].2,V.ref pu]) (upd (upd HA pt<|.tup [V.str D.tr[i].1,aS D.tr[i].2,V.ref pu]) Dl<|.lst<|us.map V.ref++[V.ref pt]):=Tup.lst cm;have tn:=(Tup.new (o:=.tup [V.str D.tr[i].1,aS D.tr[i].2,V.ref pu]) an).trans tl;rw[fE,cf];exact(aj.imp λu z h=>h.keep<|((Tup.of0<|f9.trans fA).trans<|Tup.new an).trans tl).snoc ⟨pu,zs.reverse,tl _ _ zb1,tn _ _ aw,by rw[iE];exact eo,cn.keep tn,λd hd=>by
   obtain⟨f,hf,y,hy,ey⟩:=ch d hd;exact⟨f,hf,y,hy.keep tn,ey⟩⟩
 rintro σ L ⟨_,f9,us,bn,b9,aj⟩;rw[aI]at bn aj;rw[eM<|by lia]at aj;refine⟨_,rfl,Dl,_,rfl,.inl ⟨SqL.of b9,λkt ez=>?_⟩⟩;have fA:FrS [] L (upd L kt<|.tup<|us.map V.ref):=FrS.new ez;have ai:upd L kt (.tup<|us.map V.ref) kt=some (.tup<|us.map V.ref):=zb1;generalize upd L kt (.tup<|us.map V.ref)=HA at fA ai;have SA:=(S8.fr0 f9).fr0 fA;refine⟨_,rfl,wd,_,rfl,SA.w.g.2.1,WA.late,D.late,rfl,SqL.of SA.w.late.2,by have:=SA.ok.lateLen;lia,λls bi ec a7 _=>?_⟩;refine⟨ls,_,rfl,.inl ⟨SqL.of zb1,λlt es=>?_⟩⟩;refine⟨_,rfl,dJ rfl,λpr ck=>?_⟩;have fB:FrS [] HA (upd (upd (upd HA ls<|.lst<|bi.map V.str) lt<|.tup<|bi.map V.str) pr<|.tup [V.ref kt,V.ref lt,V.ref mv]):=((FrS.new ec).trans<|FrS.new es).trans<|FrS.new ck;have bs:FrS [] H8 _:=(f9.trans fA).trans fB;obtain⟨ks,ex,dr,c9,et⟩:=nL (H:=L) us _ aj;have bu:=Tup.of0<|fA.trans fB;have e0:=(Tup.of0 f9).trans bu;have SB:=SA.fr0 fB;obtain⟨dh,mh,ef⟩:=SB.hand;refine q pr ks ("",mv,cx,bm) D.tr bi (eG D) _ dh mh tc rc ?_ ⟨kt,us,V.ref lt,zb1,fB _ _ aZ ai,ex,λj u z bf hz=>(dr j u z bf hz).keep bu,cp.keep e0,by lia⟩ ⟨kt,us,V.ref lt,V.ref mv,zb1,fB _ _ aZ ai,aj.len,λj u z bf hz=>?_⟩ S1.ok.ok dd ⟨kt,lt,_,zb1,?_,by rw[a7.length_eq];have:=SA.ok.lateLen;lia,λx C e e1 e2=>a7.mem_iff.mpr<|SA.ok.lateIn x C e e1<|a7.mem_iff.mp e2,by
  obtain⟨x,C,hn⟩:=SA.ok.soon;obtain⟨z,hz,rfl⟩:=ws9.mp C;exact⟨z,hz,λh=>hn<|a7.mem_iff.mp h⟩⟩ ⟨c9,λk h=>h,λk d cc=>⟨cc.1,?_⟩,D.deeds,S1.ok.d6,λk d h=>h.2.1⟩ ef (by lia)
 .intro b o n e;refine bs _ _ (by trivial)<|co b o (λz=>?_)<|f1 b o n e;simp only[M0,wr5,aZ,cY]at z;rcases z with z | z | z
  .exact n (by rw[z];simp)
  .exact bA e aq z
  .exact bA e am z
 .obtain⟨z',c6,dt,fs,e1,_⟩:=aj.get bf;rw[hz]at c6;cases c6;exact⟨_,bu _ _ e1⟩
 .exact(Tup.new ck) _ _ zb1
 .obtain⟨_,I,n,l,cj,hn,ho⟩:=cc;have c3:n∈ks.map (·.1):=by
   rw[c9];exact cj.mem n hn
  obtain⟨y,hy,ey⟩:=ws9.mp c3;exact⟨n,l,cj,hn,y,hy,ey,et y hy d ⟨I,by rw[ey];exact ho⟩⟩
inductive LL
 | nil
 | op (n:Nat) (a:Addr) (r:Rw) (t:LL)
 | call (n:Nat) (a:Addr) (x y k d:Str) (as:List Str) (t:LL)
 | either (n:Nat) (a:Addr) (p q t:LL)
 | again (n:Nat) (a:Addr) (p t:LL)
inductive Du
 | op (n:Nat) (a:Addr) (r:Rw) (m:Nat)
 | call (n:Nat) (a:Addr) (x y k d:Str) (as:List Str) (m:Nat)
 | either (n:Nat) (a:Addr) (p q:LL) (m:Nat)
 | again (n:Nat) (a:Addr) (p:LL) (m:Nat)
 | back (x:Str) (g:Option Str) (s m:Nat)
def LL.dues(m:Nat):LL->List Du
 | .nil=>[]
 | .op n a r t=>.op n a r m::t.dues m
 | .call n a x y k d as t=>.call n a x y k d as m::t.dues m
 | .either n a p q t=>.either n a p q m::t.dues m
 | .again n a p t=>.again n a p m::t.dues m
structure Pg where
 nm:List Str
 hs:Str->Str->Prop
 ln:Str->List Str
 an:Str->Str->Str
 co:Str->Str->Int
 ps:Str->Str->List Str
 gv:Str->Str->Option Str
 bo:Str->Str->LL
 ch:List Int
structure Rs where
 ds:List (List<|aJ×V)
 ts:List (Str×Nat)
 td:List Du
 lg:List (List V)
 lk:Int
 rd:Nat
 uw:Int
 hr:List Str
def Rs.get(S:Rs)(m:Nat)(x:Str):V:=(aK (S.ds.getD m [])<|Sum.inr x).getD .non
def Rs.put(S:Rs)(m:Nat)(x:Str)(v:V):Rs:={S with ds:=S.ds.set m<|aO (S.ds.getD m []) (Sum.inr x) v}
def Rs.say(S:Rs)(r:List V):Rs:={S with lg:=S.lg++[r]}
def Rs.push(S:Rs)(l:LL)(m:Nat):Rs:={S with td:=l.dues m++S.td}
def pushN(l:LL)(m:Nat):Nat->Rs->Rs
 | 0,S=>S
 | n+1,S=>pushN l m n<|S.push l m
def Rs.come(S:Rs)(k:Str):Rs:=if k∈S.hr then S else {S with hr:=S.hr++[k],lg:=S.lg++[[.str "came",.str k]]}
def Rs.make(S:Rs)(k:Str):Rs:={S with ts:=S.ts++[(k,S.ds.length)],ds:=S.ds++[[]]}
def Rs.kind(S:Rs)(j:Int):Str:=(S.ts.getD j.toNat ("",0)).1
def Rs.dict(S:Rs)(j:Int):Nat:=(S.ts.getD j.toNat ("",0)).2
def Rs.thing(S:Rs)(v:V)(f:Int->Rs×Option Str):Rs×Option Str:=match v with
 | .int j=>f j
 | _=>(S,some "nothing")
def VD(P:Pg)(S:Rs)(n m:Nat):Rw->Rs×Option Str
 | .make x k=>if k∈S.hr then(((S.make k).put m x<|.int S.ts.length),none) else(S,some "absent")
 | .copy x y=>(S.put m x<|S.get m y,none)
 | .put x f y=>S.thing (S.get m x) λj=>(S.put (S.dict j) f<|S.get m y,none)
 | .take x y f=>S.thing (S.get m y) λj=>(S.put m x<|S.get (S.dict j) f,none)
 | .say w=>(S.say [.str "say",.int n,.str w],none)
 | .bring k=>((P.ln k).reverse.foldl Rs.come S,none)
def tV(S:Rs)(m:Nat)(ps as:List Str)(j:Int):List (aJ×V):=aO ((ps.zip as).foldl (λd z=>aO d (Sum.inr z.1)<|S.get m z.2) []) (Sum.inr "own")<|.int j
def uJ(P:Pg)(S:Rs)(n m:Nat)(x d:Str)(as:List Str)(j:Int):Rs:=
 let k:=S.kind j
 let f:=P.an k d
 {S with ds:=S.ds++[tV S m (P.ps f d) as j],lg:=S.lg++[[.str "did",.int n,.str k,.str f]],lk:=S.lk+P.co k d,uw:=S.uw+1,td:=(P.bo f d).dues S.ds.length++.back x (P.gv f d) S.ds.length m::S.td}
def Rs.pick(P:Pg)(S:Rs):Int:=P.ch.getD S.rd 0
def doR(P:Pg)(S:Rs):Du->Rs×Option Str
 | .op n _ r m=>VD P S n m r
 | .call n _ x y k d as m=>S.thing (S.get m y) λj=>if k∈P.ln (S.kind j) then if 40<=S.uw then(S,some "deep") else(uJ P S n m x d as j,none) else(S,some "unfit")
 | .either _ _ p q m=>({S with rd:=S.rd+1}.push (if S.pick P=0 then p else q) m,none)
 | .again _ _ p m=>(pushN p m (min (S.pick P) 9).toNat {S with rd:=S.rd+1},none)
 | .back _ _ _ _=>(S,none)
def Rs.giv(S:Rs)(s:Nat):Option Str->V
 | none=>.non
 | some g=>S.get s g
def AV(S:Rs)(x:Str)(g:Option Str)(s m:Nat):Rs:={S.put m x (S.giv s g)with uw:=S.uw-1}
def Du.num:Du->Option Nat
 | .op n _ _ _=>some n
 | .call n _ _ _ _ _ _ _=>some n
 | .either n _ _ _ _=>some n
 | .again n _ _ _=>some n
 | .back _ _ _ _=>none
inductive Rn(P:Pg)(mo:Nat):Nat->Rs->Rs->Str->V->Prop
 | done {dn:Nat} {S:Rs} (h:S.td=[]):Rn P mo dn S S "done" .non
 | back {dn:Nat} {S S':Rs} {e:Str} {v:V} {x:Str} {g:Option Str} {s m:Nat} {r:List Du} (h:S.td=.back x g s m::r) (t:Rn P mo dn (AV {S with td:=r} x g s m) S' e v):Rn P mo dn S S' e v
 | long {dn n:Nat} {S:Rs} {d:Du} {r:List Du} (h:S.td=d::r) (hn:d.num=some n) (hm:mo<=dn):Rn P mo dn S {S with td:=r} "long" (.int n)
 | stop {dn n:Nat} {S S':Rs} {d:Du} {r:List Du} {e:Str} (h:S.td=d::r) (hn:d.num=some n) (hm:dn<mo) (he:doR P {S with td:=r} d=(S',some e)):Rn P mo dn S S' e (.int n)
 | go {dn n:Nat} {S S1 S':Rs} {d:Du} {r:List Du} {e:Str} {v:V} (h:S.td=d::r) (hn:d.num=some n) (hm:dn<mo) (he:doR P {S with td:=r} d=(S1,none)) (t:Rn P mo (dn+1) S1 S' e v):Rn P mo dn S S' e v
def RF(l:List (List V)):Prop:=↑l<=1\/∀r∈l,r.head?=some (.str "came")
theorem zY:∀(n:Nat)(S:Rs),(pushN l m n S).lg=S.lg/\(pushN l m n S).lk=S.lk
 | 0,_=>⟨rfl,rfl⟩
 | n+1,S=>by unfold pushN;rw[(zY n _).1,(zY n _).2];exact⟨rfl,rfl⟩
theorem PZ:∀(l:List Str)(S:Rs),∃z,(l.foldl Rs.come S).lg=S.lg++z/\(l.foldl Rs.come S).lk=S.lk/\∀r∈z,r.head?=some (.str "came")
 | [],S=>⟨[],by simp,rfl,λr h=>nomatch h⟩
 | k::l,S=>by
  obtain⟨z,h1,h2,a⟩:=PZ l<|S.come k;rw[vJ,h1,h2];unfold Rs.come
  split
  .exact⟨z,rfl,rfl,a⟩
  .refine⟨[.str "came",.str k]::z,by simp,rfl,λr hr=>?_⟩;rcases wr5.mp hr with rfl | hr
   .rfl
   .exact a r hr
def Ok1(S:Rs)(R:Rs×Option Str):Prop:=∃z,R.1.lg=S.lg++z/\S.lk<=R.1.lk/\RF z/\∀e,R.2=some e->e≠"long"/\e≠"done"
def Ok1.same(h1:S'.lg=S.lg)(h2:S'.lk=S.lk):Ok1 S (S',none):=⟨[],by rw[h1];simp,Int.le_of_eq h2.symm,.inl<|bT _,λe h=>nomatch h⟩
def Ok1.ends{s:Str}(h:s≠"long"/\s≠"done"):Ok1 S (S,some s):=⟨[],by simp,Int.le_refl _,.inl<|bT _,λe z=>by cases z;exact h⟩
def Ok1.ite[Decidable c](h1:Ok1 S a)(h2:Ok1 S b):Ok1 S (if c then a else b):=by split <;> assumption
theorem Ok1.thing{f:Int->Rs×Option Str}(h:∀j,Ok1 S<|f j):Ok1 S (S.thing v f):=by
 cases v with
 | int j=>exact h j
 | _=>exact .ends (by rfl')
def BA{P:Pg}(i:∀k d,0<=P.co k d)(S:Rs)(d:Du):Ok1 S (doR P S d):=by
 cases d with
 | op n a r m=>
  cases r with
  | make x k=>exact .ite (.same rfl rfl) (.ends<|by rfl')
  | copy x y=>exact .same rfl rfl
  | put x f y=>exact .thing λj=>.same rfl rfl
  | take x y f=>exact .thing λj=>.same rfl rfl
  | say w=>exact⟨_,rfl,Int.le_refl _,.inl<|aY _,λe h=>nomatch h⟩
  | bring k=>
   obtain⟨z,h1,h2,b⟩:=PZ (P.ln k).reverse S;exact⟨z,h1,Int.le_of_eq h2.symm,.inr b,λe h=>nomatch h⟩
 | call n a x y k d as m=>
  refine .thing λj=>.ite (.ite (.ends<|by rfl') ⟨_,rfl,?_,.inl<|aY _,λe h=>nomatch h⟩) (.ends<|by rfl')
  have:=i (S.kind j) d;show S.lk<=S.lk+_;lia
 | either n a p q m=>exact .same rfl rfl
 | again n a p m=>exact .same (zY _ _).1 (zY _ _).2
 | back x g s m=>exact .same rfl rfl
def Rn.still{P:Pg}(h:Rn P mo dn S S' e v)(a:mo<=dn):S'.lg=S.lg/\S'.lk=S.lk:=by
 induction h with
 | done h=>exact⟨rfl,rfl⟩
 | back h t ih=>exact ih a
 | long h hn a=>exact⟨rfl,rfl⟩
 | stop h hn hm' he=>exact absurd a<|Nat.not_le.mpr hm'
 | go h hn hm' he t ih=>exact absurd a<|Nat.not_le.mpr hm'
def Rn.more{P:Pg}(f:∀k d,0<=P.co k d)(h:Rn P mo dn S S1 e1 v1)(hd:dn<=mo)(he:e1="long")(g:Rn P (mo+1) dn S S2 e2 v2):∃z,S2.lg=S1.lg++z/\S1.lk<=S2.lk/\RF z:=by
 induction h with
 | done h=>exact absurd he (by rfl')
 | back h t ih=>
  cases g with
  | done h'=>rw[h]at h';cases h'
  | back h' t'=>rw[h]at h';cases h';exact ih hd he t'
  | long h' hn hm=>rw[h]at h';cases h';cases hn
  | stop h' hn hm z=>rw[h]at h';cases h';cases hn
  | go h' hn hm z t'=>rw[h]at h';cases h';cases hn
 | @long dn n S d r h hn hm=>
  cases g with
  | done h'=>rw[h]at h';cases h'
  | back h' t'=>rw[h]at h';cases h';cases hn
  | long h' hn' hm'=>lia
  | stop h' hn' hm' z=>
   rw[h]at h';cases h';obtain⟨y,a,b,c,_⟩:=BA f {S with td:=r} d;rw[z]at a b;exact⟨y,a,b,c⟩
  | go h' hn' hm' z t'=>
   rw[h]at h';cases h';obtain⟨y,a,b,c,_⟩:=BA f {S with td:=r} d;rw[z]at a b;obtain⟨u,w⟩:=t'.still (by lia);exact⟨y,by rw[u];exact a,by rw[w];exact b,c⟩
 | @stop dn n S S' d r e h hn hm z=>
  obtain⟨_,_,_,_,k⟩:=BA f {S with td:=r} d;rw[z]at k;exact absurd he (k _ rfl).1
 | @go dn n S S1 S' d r e v h hn hm z t ih=>
  cases g with
  | done h'=>rw[h]at h';cases h'
  | back h' t'=>rw[h]at h';cases h';cases hn
  | long h' hn' hm'=>lia
  | stop h' hn' hm' z'=>rw[h]at h';cases h';rw[z]at z';cases z'
  | go h' hn' hm' z' t'=>rw[h]at h';cases h';rw[z]at z';cases z';exact ih hm he t'
def iG:Du->Nat
 | .back _ _ _ _=>1
 | _=>0
def bM(l:List Du):Nat:=(l.map iG).sum
theorem jR(m:Nat):∀l:LL,bM (l.dues m)=0
 | .nil=>rfl
 | .op n a r t=>by have:=jR m t;simp only[LL.dues,bM,dB,iP,iG]at *;lia
 | .call n a x y k d as t=>by have:=jR m t;simp only[LL.dues,bM,dB,iP,iG]at *;lia
 | .either n a p q t=>by have:=jR m t;simp only[LL.dues,bM,dB,iP,iG]at *;lia
 | .again n a p t=>by have:=jR m t;simp only[LL.dues,bM,dB,iP,iG]at *;lia
def AA(a b:List Du):bM (a++b)=bM a+bM b:=by unfold bM;rw[bX,List.sum_append]
theorem QU:∀(n:Nat)(S:Rs),bM (pushN l m n S).td=bM S.td
 | 0,_=>rfl
 | n+1,S=>by
  unfold pushN;rw[QU n];show bM (l.dues m++S.td)=_;rw[AA,jR,uL]
theorem HM:∀(l:List Str)(S:Rs),(l.foldl Rs.come S).td=S.td
 | [],_=>rfl
 | k::l,S=>by
  rw[vJ,HM l];unfold Rs.come
  split <;> rfl
def HB{S:Rs}{v:V}{f:Int->Rs×Option Str}{c:Nat}(h:∀j,bM (f j).1.td<=c)(h0:bM S.td<=c):bM (S.thing v f).1.td<=c:=by
 cases v with
 | int j=>exact h j
 | _=>exact h0
def QD(P:Pg)(S:Rs)(d:Du):bM (doR P S d).1.td<=bM S.td+1:=by
 have h0:bM S.td<=bM S.td+1:=jB _;cases d with
 | op n a r m=>
  cases r with
  | make x k=>show bM (if k∈S.hr then _ else _:Rs×Option Str).1.td<=_;split <;> exact h0
  | copy x y=>exact h0
  | put x f y=>exact HB (λj=>h0) h0
  | take x y f=>exact HB (λj=>h0) h0
  | say w=>exact h0
  | bring k=>show bM ((P.ln k).reverse.foldl Rs.come S).td<=_;rw[HM];exact h0
 | call n a x y k d as m=>
  refine HB (λj=>?_) h0
  split
  .split
   .exact h0
   .show bM ((P.bo _ d).dues S.ds.length++.back x _ _ m::S.td)<=_;rw[AA,jR];simp only[bM,dB,iP,iG];lia
  .exact h0
 | either n a p q m=>
  show bM ((if S.pick P=0 then p else q).dues m++S.td)<=_;rw[AA,jR,uL];exact h0
 | again n a p m=>show bM (pushN p m _ {S with rd:=S.rd+1}).td<=_;rw[QU];exact h0
 | back x g s m=>exact h0
def Rn.all(P:Pg)(b:Nat):∀(c dn:Nat)(S:Rs),2*(b-dn)+bM S.td<=c->∃a e v,Rn P b dn S a e v:=by
 intro c
 induction c with
 | zero=>
  intro dn S h;cases e:S.td with
  | nil=>exact⟨_,_,_,.done e⟩
  | cons d r=>
   cases hn:d.num with
   | some n=>exact⟨_,_,_,.long e hn<|by lia⟩
   | none=>
    cases d with
    | back x g s m=>rw[e]at h;simp only[bM,dB,iP,iG]at h;lia
    | _=>cases hn
 | succ c ih=>
  intro dn S h;cases e:S.td with
  | nil=>exact⟨_,_,_,.done e⟩
  | cons d r=>
   cases hn:d.num with
   | some n=>
    by_cases i:b<=dn
    .exact⟨_,_,_,.long e hn i⟩
    .cases z:doR P {S with td:=r} d with
     | mk S1 o=>
      cases o with
      | some en=>exact⟨_,_,_,.stop e hn (by lia) z⟩
      | none=>
       have f:=QD P {S with td:=r} d;rw[z]at f;have f:bM S1.td<=bM r+1:=f;have hd:bM S.td=bM r:=by
        rw[e];cases d with
        | back x g s m=>cases hn
        | _=>simp only[bM,dB,iP,iG,uL]
       obtain⟨a,en,v,t⟩:=ih (dn+1) S1 (by lia);exact⟨a,en,v,.go e hn (by lia) z t⟩
   | none=>
    cases d with
    | back x g s m=>
     have hd:bM S.td=1+bM r:=by rw[e];simp only[bM,dB,iP,iG]
     obtain⟨a,en,v,t⟩:=ih dn (AV {S with td:=r} x g s m) (by show 2*(b-dn)+bM r<=c;lia);exact⟨a,en,v,.back e t⟩
    | _=>cases hn
def LL.size:LL->Nat
 | .nil=>0
 | .op _ _ _ t=>1+t.size
 | .call _ _ _ _ _ _ _ t=>1+t.size
 | .either _ _ p q t=>1+p.size+q.size+t.size
 | .again _ _ p t=>1+p.size+t.size
theorem kT(m:Nat):∀l:LL,↑(l.dues m)<=l.size
 | .nil=>aY _
 | .op _ _ _ t=>by have:=kT m t;simp only[LL.dues,LL.size,cL];lia
 | .call _ _ _ _ _ _ _ t=>by have:=kT m t;simp only[LL.dues,LL.size,cL];lia
 | .either _ _ p q t=>by have:=kT m t;simp only[LL.dues,LL.size,cL];lia
 | .again _ _ p t=>by have:=kT m t;simp only[LL.dues,LL.size,cL];lia
structure Cz where
 (th du rn:Addr)
abbrev ME:List Str:=["program","made","forms","bodies","choices","many_read","many_done","under_way","here","todo","log","looks"]
abbrev NM:List Str:=["number","row","inners","names"]
abbrev MJ:List Str:=["kind","fields"]
structure cT(K:Fq)(C:Cz):Prop where
 t:uO K C.th MJ
 d:uO K C.du NM
 r:uO K C.rn ME
 nd:C.du≠C.rn
 nt:C.th≠C.rn
def Fx(C:Cz):HO->Prop
 | .tup _=>True
 | .ins c _ _=>c≠C.rn
 | .ext _=>True
 | .frz _ (.tup _)=>True
 | _=>False
def Im(C:Cz)(H H':Hp):Prop:=∀b o,H b=some o->Fx C o->H' b=some o
def Im.refl:Im C H H:=λ_ _ h _=>h
def Im.trans(f:Im C H H1)(g:Im C H1 H2):Im C H H2:=λb o h x=>g b o (f b o h x) x
def Im.tup(f:Im C H H'):Tup H H':=λb xs h=>f b _ h iA
def Im.new(h:H p=none):Im C H (upd H p o):=λb u e _=>by rw[aC<|bA e h];exact e
theorem Im.upd(h:H p=some u)(n:¬Fx C u):Im C H (upd H p o):=λb v e x=>by
 rw[aC λz=>by rw[z,h]at e;cases e;exact n x];exact e
def cV(θ:List Addr):V->V
 | .int j=>.ref<|θ.getD j.toNat 0
 | v=>v
def cD(θ:List Addr)(d:List (aJ×V)):List (aJ×V):=d.map λz=>(z.1,cV θ z.2)
def ZS:aK (cD θ d) k=(aK d k).map (cV θ):=by
 unfold aK cD
 induction d with
 | nil=>rfl
 | cons z d ih=>
  rw[dB,kN,kN]
  split <;> simp_all
def mN:(aK (cD θ d) k).getD .non=cV θ ((aK d k).getD .non):=by
 rw[ZS];cases aK d k <;> rfl
def HR:aO (cD θ d) k (cV θ v)=cD θ (aO d k v):=by
 have e:(d.map λz=>(z.1,cV θ z.2)).any (λa=>decide<|a.1=k)=d.any λa=>decide (a.1=k):=by rw[List.any_map];rfl
 unfold aO cD;rw[e]
 split
 .rw[lJ,lJ];refine yZ λz _=>?_;simp only[Function.comp]
  split <;> rfl
 .rw[bX];rfl
def VOk(n:Nat)(v:V):Prop:=v=.non\/∃j:Nat,v=.int j/\j<n
def VOk.mono(h:VOk n v)(l:n<=m):VOk m v:=h.imp id λ⟨j,e,z⟩=>⟨j,e,fC z l⟩
def sV(h:VOk θ.length v):cV (θ++l) v=cV θ v:=by
 rcases h with rfl | ⟨j,rfl,h⟩
 .rfl
 .show V.ref ((θ++l).getD j 0)=.ref (θ.getD j 0);rw[fR,fR,jM h]
def rW(h:∀z∈d,VOk θ.length z.2):cD (θ++l) d=cD θ d:=by
 unfold cD;exact yZ λz hz=>by rw[sV<|h z hz]
def oM{d:List (aJ×V)}(h:∀z∈d,VOk n z.2)(k:aJ):VOk n ((aK d k).getD .non):=by
 unfold aK;cases e:d.find? (λa=>decide<|a.1=k)with
 | none=>exact .inl rfl
 | some z=>exact h z<|qM e
def LF{d:List (aJ×V)}(h:∀z∈d,VOk n z.2)(a:VOk n v):∀z∈aO d k v,VOk n z.2:=by
 intro z hz;unfold aO at hz
 split at hz
 .obtain⟨y,b,rfl⟩:=ws9.mp hz
  split
  .exact a
  .exact h y b
 .rcases wt2.mp hz with hz | hz
  .exact h z hz
  .rw[wr8.mp hz];exact a
inductive Ens(Z:Str->Option Str->Prop)(H:Hp):LL->List Addr->Prop
 | nil:Ens Z H .nil []
 | op {n:Nat} {a e p:Addr} {r:Rw} {t:LL} {es:List Addr} (h:H e=some (.tup [.int n,.ref a,.ref p])) (hp:H p=some (.tup [])) (hr:H a=some (.tup r.vs)) (hb:∀k,r=.bring k->Z k none) (s:Ens Z H t es):Ens Z H (.op n a r t) (e::es)
 | call {n:Nat} {a e p g:Addr} {x y k d:Str} {as:List Str} {t:LL} {es:List Addr} (h:H e=some (.tup [.int n,.ref a,.ref p])) (hp:H p=some (.tup [])) (hr:H a=some (.tup [.str "call",.str x,.str y,.str k,.str d,.ref g])) (hg:H g=some (.tup<|as.map V.str)) (hl:↑as<=1000) (hz:Z k (some d)) (s:Ens Z H t es):Ens Z H (.call n a x y k d as t) (e::es)
 | either {n:Nat} {a e p l1 l2:Addr} {v:List V} {q1 q2 t:LL} {e1 e2 es:List Addr} (h:H e=some (.tup [.int n,.ref a,.ref p])) (hp:H p=some (.tup [.ref l1,.ref l2])) (hr:H a=some (.tup<|.str "either"::v)) (h1:H l1=some (.tup<|e1.map V.ref)) (h2:H l2=some (.tup<|e2.map V.ref)) (s1:Ens Z H q1 e1) (s2:Ens Z H q2 e2) (s:Ens Z H t es):Ens Z H (.either n a q1 q2 t) (e::es)
 | again {n:Nat} {a e p l1:Addr} {v:List V} {q1 t:LL} {e1 es:List Addr} (h:H e=some (.tup [.int n,.ref a,.ref p])) (hp:H p=some (.tup [.ref l1])) (hr:H a=some (.tup<|.str "again"::v)) (h1:H l1=some (.tup<|e1.map V.ref)) (s1:Ens Z H q1 e1) (s:Ens Z H t es):Ens Z H (.again n a q1 t) (e::es)
def Ens.keep(h:Ens Z H l es)(f:Tup H H'):Ens Z H' l es:=by
 induction h with
 | nil=>exact .nil
 | op h hp hr hb _ ih=>exact .op (f _ _ h) (f _ _ hp) (f _ _ hr) hb ih
 | call h hp hr hg hl hz _ ih=>exact .call (f _ _ h) (f _ _ hp) (f _ _ hr) (f _ _ hg) hl hz ih
 | either h hp hr h1 h2 _ _ _ i1 i2 ih=>exact .either (f _ _ h) (f _ _ hp) (f _ _ hr) (f _ _ h1) (f _ _ h2) i1 i2 ih
 | again h hp hr h1 _ _ i1 ih=>exact .again (f _ _ h) (f _ _ hp) (f _ _ hr) (f _ _ h1) i1 ih
abbrev dF(v:V)(a p n:Addr):List (Str×V):=[("number",v),("row",.ref a),("inners",.ref p),("names",.ref n)]
inductive DuAt(C:Cz)(Z:Str->Option Str->Prop)(δ:List Addr)(H:Hp):Du->Addr->Prop
 | op {n m:Nat} {a u p dx na:Addr} {r:Rw} (h:H u=some (.ins C.du dx<|dF (.int n) a p na)) (hm:δ[m]?=some na) (hr:H a=some (.tup r.vs)) (hb:∀k,r=.bring k->Z k none):DuAt C Z δ H (.op n a r m) u
 | call {n m:Nat} {a u p dx na g:Addr} {x y k d:Str} {as:List Str} (h:H u=some (.ins C.du dx<|dF (.int n) a p na)) (hm:δ[m]?=some na) (hr:H a=some (.tup [.str "call",.str x,.str y,.str k,.str d,.ref g])) (hg:H g=some (.tup<|as.map V.str)) (hl:↑as<=1000) (hz:Z k (some d)):DuAt C Z δ H (.call n a x y k d as m) u
 | either {n m:Nat} {a u p dx na l1 l2:Addr} {v:List V} {q1 q2:LL} {e1 e2:List Addr} (h:H u=some (.ins C.du dx<|dF (.int n) a p na)) (hm:δ[m]?=some na) (hr:H a=some (.tup<|.str "either"::v)) (hp:H p=some (.tup [.ref l1,.ref l2])) (h1:H l1=some (.tup<|e1.map V.ref)) (h2:H l2=some (.tup<|e2.map V.ref)) (s1:Ens Z H q1 e1) (s2:Ens Z H q2 e2):DuAt C Z δ H (.either n a q1 q2 m) u
 | again {n m:Nat} {a u p dx na l1:Addr} {v:List V} {q1:LL} {e1:List Addr} (h:H u=some (.ins C.du dx<|dF (.int n) a p na)) (hm:δ[m]?=some na) (hr:H a=some (.tup<|.str "again"::v)) (hp:H p=some (.tup [.ref l1])) (h1:H l1=some (.tup<|e1.map V.ref)) (s1:Ens Z H q1 e1):DuAt C Z δ H (.again n a q1 m) u
 | back {s m:Nat} {a u p dx na nb:Addr} {x:Str} {g:Option Str} (h:H u=some (.ins C.du dx<|dF .non a p na)) (hm:δ[m]?=some na) (hs:δ[s]?=some nb) (hr:H a=some (.tup [.str "back",.str x,aS g,.ref nb])):DuAt C Z δ H (.back x g s m) u
def lV{α:Type}{l r:List α}{i:Nat}{x:α}(h:l[i]?=some x):(l++r)[i]?=some x:=by
 rw[jM (wr1.mp h).1];exact h
theorem DuAt.keep(h:DuAt C Z δ H d u)(a:C.du≠C.rn)(f:Im C H H'):DuAt C Z (δ++l) H' d u:=by
 have t:=f.tup;cases h with
 | op h hm hr hb=>exact .op (f _ _ h a) (lV hm) (t _ _ hr) hb
 | call h hm hr hg hl hz=>exact .call (f _ _ h a) (lV hm) (t _ _ hr) (t _ _ hg) hl hz
 | either h hm hr hp h1 h2 s1 s2=>exact .either (f _ _ h a) (lV hm) (t _ _ hr) (t _ _ hp) (t _ _ h1) (t _ _ h2) (s1.keep t)<|s2.keep t
 | again h hm hr hp h1 s1=>exact .again (f _ _ h a) (lV hm) (t _ _ hr) (t _ _ hp) (t _ _ h1)<|s1.keep t
 | back h hm hs hr=>exact .back (f _ _ h a) (lV hm) (lV hs)<|t _ _ hr
structure Ra where
 (dx md fo bo ch he to lo:Addr)
 (us ls δ θ:List Addr)
def Ra.say(A:Ra)(t:Addr):Ra:={A with ls:=A.ls++[t]}
def Ra.due(A:Ra)(u:Addr):Ra:={A with us:=u::A.us}
def Ra.pop(A:Ra)(us:List Addr):Ra:={A with us:=us}
def Ra.dic(A:Ra)(a:Addr):Ra:={A with δ:=A.δ++[a]}
def Ra.thg(A:Ra)(t:Addr):Ra:={A with θ:=A.θ++[t]}
def Rs.num(S:Rs)(rd:Nat)(uw lk:Int):Rs:={S with rd:=rd,uw:=uw,lk:=lk}
def Rs.due(S:Rs)(d:Du):Rs:={S with td:=d::S.td}
def Rs.pop(S:Rs)(r:List Du):Rs:={S with td:=r}
def Rs.dic(S:Rs)(d:List (aJ×V)):Rs:={S with ds:=S.ds++[d]}
def Rs.thg(S:Rs)(z:Str×Nat):Rs:={S with ts:=S.ts++[z]}
def Rs.her(S:Rs)(k:Str):Rs:={S with hr:=S.hr++[k]}
abbrev rF(pg:Addr)(A:Ra)(rd dn:Nat)(uw lk:Int):List (Str×V):=[("program",.ref pg),("made",.ref A.md),("forms",.ref A.fo),("bodies",.ref A.bo),("choices",.ref A.ch),("many_read",.int rd),("many_done",.int dn),("under_way",.int uw),("here",.ref A.he),("todo",.ref A.to),("log",.ref A.lo),("looks",.int lk)]
structure Ry where
 C:Cz
 pr:Program
 w:World
 K:Fq
 nd:C.du≠C.rn
 nt:C.th≠C.rn
structure Rx(Y:Ry) where
 Z:Str->Option Str->Prop
 H0:Hp
 pg:Addr
 G:Pg
structure BoAt{Y:Ry}(R:Rx Y)(H:Hp)(bo:Addr)(qs:List (Pr×Addr×Addr)):Prop where
 d:H bo=some (gD Y.pr Y.w bo qs)
 ok:PvOk Y.K H qs
 k:∀n d,R.G.hs n d->(n,d)∈qs.map (·.1)
 e:∀q∈qs,∃es:List Addr,H q.2.2=some (.tup<|es.map V.ref)/\Ens R.Z H (R.G.bo q.1.1 q.1.2) es
theorem BoAt.keep{Y:Ry}{R:Rx Y}(h:BoAt R H bo qs)(f:Im Y.C H H'):BoAt R H' bo qs where
 d:=f _ _ h.d iA
 ok q hq:=by
  rcases h.ok q hq with (z | ⟨o,z⟩) | z
  .exact .inl<|.inl<|f.tup _ _ z
  .exact .inl<|.inr ⟨o,f _ _ z iA⟩
  .exact .inr z
 k:=h.k
 e q hq:=by
  obtain⟨es,h1,h2⟩:=h.e q hq;exact⟨es,f.tup _ _ h1,h2.keep f.tup⟩
def EJ{Y:Ry}(R:Rx Y)(H:Hp)(δ:List Addr)(z:Str×Nat)(t:Addr):Prop:=∃dx a,δ[z.2]?=some a/\H t=some (.ins Y.C.th dx [("kind",.str z.1),("fields",.ref a)])
structure RunI{Y:Ry}(R:Rx Y)(H:Hp)(A:Ra)(S:Rs):Prop where
 md:H A.md=some (.tup [])
 ch:H A.ch=some (.tup<|R.G.ch.map V.int)
 ud:A2 (DuAt Y.C R.Z A.δ H) S.td A.us
 lg:A2 (λr a=>H a=some (.tup r)) S.lg A.ls
 th:A2 (EJ R H A.δ) S.ts A.θ
 bo:∃qs,BoAt R H A.bo qs
theorem RunI.keep{Y:Ry}{R:Rx Y}(h:RunI R H A S)(f:Im Y.C H H'):RunI R H' A S where
 md:=f.tup _ _ h.md
 ch:=f.tup _ _ h.ch
 ud:=h.ud.imp λ_ _ g=>by have:=g.keep (l:=[]) Y.nd f;rwa [fO]at this
 lg:=h.lg.imp λ_ _ g=>f.tup _ _ g
 th:=h.th.imp λ_ _ ⟨dx,a,e,g⟩=>⟨dx,a,e,f _ _ g Y.nt⟩
 bo:=let ⟨qs,g⟩:=h.bo;⟨qs,g.keep f⟩
structure RunAt{Y:Ry}(R:Rx Y)(H:Hp)(rn:Addr)(A:Ra)(S:Rs)(dn:Nat):Prop where
 im:RunI R H A S
 run:H rn=some (.ins Y.C.rn A.dx<|rF R.pg A S.rd dn S.uw S.lk)
 fo:H A.fo=some (.dK [])
 he:H A.he=some (.lst<|S.hr.map V.str)
 to:H A.to=some (.lst<|A.us.reverse.map V.ref)
 lo:H A.lo=some (.lst<|A.ls.map V.ref)
 dc:A2 (λd a=>H a=some (.dK<|cD A.θ d)) S.ds A.δ
 dk:∀d∈S.ds,∀z∈d,VOk S.ts.length z.2
 nd:(rn::A.fo::A.he::A.to::A.lo::A.δ).Nodup
 kp:∀b o,R.H0 b=some o->H b=some o
 fr:∀b∈rn::A.fo::A.he::A.to::A.lo::A.δ,R.H0 b=none
def RunAt.keep0{Y:Ry}{R:Rx Y}(h:RunAt R H rn A S dn)(f:FrS [] H H'):RunAt R H' rn A S dn where
 im:=h.im.keep λb o e _=>f b o aZ e
 run:=f _ _ aZ h.run
 fo:=f _ _ aZ h.fo
 he:=f _ _ aZ h.he
 to:=f _ _ aZ h.to
 lo:=f _ _ aZ h.lo
 dc:=h.dc.imp λ_ _ g=>f _ _ aZ g
 dk:=h.dk
 nd:=h.nd
 kp b o e:=f _ _ aZ<|h.kp b o e
 fr:=h.fr
def nB{H0 H:Hp}(h:∀b o,H0 b=some o->H b=some o)(d:H0 a=none):∀b u,H0 b=some u->upd H a o b=some u:=λb u e=>by
 rw[aC<|bA e d];exact h b u e
def pK{θ:List Addr}(h:A2 (λd a=>H a=some (.dK<|cD θ d)) ds δ)(n:a∉δ):A2 (λd b=>upd H a o b=some (.dK<|cD θ d)) ds δ:=by
 induction h with
 | nil=>exact .nil
 | cons g _ ih=>
  rw[wr5,eY]at n;exact .cons (by rw[aC<|bW n.1];exact g)<|ih n.2
section
variable{Y:Ry}{R:Rx Y}{H:Hp}{rn:Addr}{A:Ra}{S:Rs}{dn:Nat}
theorem RunAt.num(h:RunAt R H rn A S dn)(rd a:Nat)(uw lk:Int):RunAt R (upd H rn<|.ins Y.C.rn A.dx<|rF R.pg A rd a uw lk) rn A (S.num rd uw lk) a/\Im Y.C H (upd H rn<|.ins Y.C.rn A.dx<|rF R.pg A rd a uw lk):=by
 have f:Im Y.C H (upd H rn<|.ins Y.C.rn A.dx<|rF R.pg A rd a uw lk):=.upd h.run λz=>z rfl;have nd:=h.nd;simp only[wv3,wr5,eY]at nd;obtain⟨⟨b,d,e,j,l⟩,_⟩:=nd;have i:=h.im.keep f;exact⟨{im:=⟨i.md,i.ch,i.ud,i.lg,i.th,i.bo⟩,run:=zb1,fo:=(aC<|bW b).trans h.fo,he:=(aC<|bW d).trans h.he,to:=(aC<|bW e).trans h.to,lo:=(aC<|bW j).trans h.lo,dc:=pK h.dc l,dk:=h.dk,nd:=h.nd,kp:=nB h.kp<|h.fr _<|.head _,fr:=h.fr},f⟩
theorem RunAt.say(h:RunAt R H rn A S dn)(j:H t=some (.tup r)):RunAt R (upd H A.lo<|.lst<|A.ls.map V.ref++[.ref t]) rn (A.say t) (S.say r) dn/\Im Y.C H (upd H A.lo<|.lst<|A.ls.map V.ref++[.ref t]):=by
 have f:Im Y.C H (upd H A.lo<|.lst<|A.ls.map V.ref++[.ref t]):=.upd h.lo λz=>z;have nd:=h.nd;simp only[wv3,wr5,eY]at nd;obtain⟨⟨m,u,w,b,s⟩,⟨q,B,e,n⟩,⟨o,a,x⟩,⟨d,E⟩,l,_⟩:=nd;have i:=h.im.keep f;exact⟨{im:=⟨i.md,i.ch,i.ud,i.lg.snoc<|f.tup _ _ j,i.th,i.bo⟩,run:=(aC b).trans h.run,fo:=(aC e).trans h.fo,he:=(aC a).trans h.he,to:=(aC d).trans h.to,lo:=zb1.trans (by show _=some (HO.lst<|(A.ls++[t]).map V.ref);rw[bX];rfl),dc:=pK h.dc l,dk:=h.dk,nd:=h.nd,kp:=nB h.kp<|h.fr _<|.tail _<|.tail _<|.tail _<|.tail _<|.head _,fr:=h.fr},f⟩
theorem RunAt.due(h:RunAt R H rn A S dn)(j:DuAt Y.C R.Z A.δ H d u):RunAt R (upd H A.to<|.lst<|A.us.reverse.map V.ref++[.ref u]) rn (A.due u) (S.due d) dn/\Im Y.C H (upd H A.to<|.lst<|A.us.reverse.map V.ref++[.ref u]):=by
 have f:Im Y.C H (upd H A.to<|.lst<|A.us.reverse.map V.ref++[.ref u]):=.upd h.to λz=>z;have nd:=h.nd;simp only[wv3,wr5,eY]at nd;obtain⟨⟨q,E,m,w,B⟩,⟨x,n,G,s⟩,⟨b,r,I⟩,⟨e,o⟩,J,_⟩:=nd;have i:=h.im.keep f;have a:=j.keep (l:=[]) Y.nd f;rw[fO]at a;exact⟨{im:=⟨i.md,i.ch,.cons a i.ud,i.lg,i.th,i.bo⟩,run:=(aC m).trans h.run,fo:=(aC n).trans h.fo,he:=(aC b).trans h.he,to:=zb1.trans (by show _=some (HO.lst<|(u::A.us).reverse.map V.ref);rw[CQ,bX];rfl),lo:=(aC<|bW e).trans h.lo,dc:=pK h.dc o,dk:=h.dk,nd:=h.nd,kp:=nB h.kp<|h.fr _<|.tail _<|.tail _<|.tail _<|.head _,fr:=h.fr},f⟩
theorem RunAt.pop(h:RunAt R H rn A S dn)(n:S.td=d::r)(m:A.us=u::us):RunAt R (upd H A.to<|.lst<|us.reverse.map V.ref) rn (A.pop us) (S.pop r) dn/\Im Y.C H (upd H A.to<|.lst<|us.reverse.map V.ref)/\DuAt Y.C R.Z A.δ (upd H A.to<|.lst<|us.reverse.map V.ref) d u:=by
 have f:Im Y.C H (upd H A.to<|.lst<|us.reverse.map V.ref):=.upd h.to λz=>z;have nd:=h.nd;simp only[wv3,wr5,eY]at nd;obtain⟨⟨o,E,e,w,B⟩,⟨x,j,G,s⟩,⟨a,q,I⟩,⟨b,l⟩,_,_⟩:=nd;have i:=h.im.keep f;have ud:=i.ud;rw[n,m]at ud;cases ud with
 | cons g t=>
  exact⟨{im:=⟨i.md,i.ch,t,i.lg,i.th,i.bo⟩,run:=(aC e).trans h.run,fo:=(aC j).trans h.fo,he:=(aC a).trans h.he,to:=zb1,lo:=(aC<|bW b).trans h.lo,dc:=pK h.dc l,dk:=h.dk,nd:=h.nd,kp:=nB h.kp<|h.fr _<|.tail _<|.tail _<|.tail _<|.head _,fr:=h.fr},f,g⟩
end
def _root_.L2.A2.imp'{α β:Type}{R S:α->β->Prop}{as:List α}{bs:List β}(h:A2 R as bs):(∀a b,b∈bs->R a b->S a b)->A2 S as bs:=by
 induction h with
 | nil=>intro _;exact .nil
 | cons r t ih=>intro f;exact .cons (f _ _ (.head _) r)<|ih λa b d=>f a b<|.tail _ d
def A2.imp2{α β:Type}{R S:α->β->Prop}{as:List α}{bs:List β}(h:A2 R as bs):(∀a b,a∈as->R a b->S a b)->A2 S as bs:=by
 induction h with
 | nil=>intro _;exact .nil
 | cons r t ih=>intro f;exact .cons (f _ _ (.head _) r)<|ih λa b d=>f a b<|.tail _ d
def A2.back{α β:Type}{R:α->β->Prop}{as:List α}{bs:List β}(h:A2 R as bs){i:Nat}{b:β}(e:bs[i]?=some b):∃a,as[i]?=some a/\R a b:=by
 obtain⟨hi,_⟩:=wr1.mp e;obtain⟨f,d,r⟩:=h.get (bH<|by rw[h.len];exact hi);rw[e]at d;cases d;exact⟨_,bH _,r⟩
def A2.chg{α β:Type}{R f:α->β->Prop}{as:List α}{bs:List β}(h:A2 R as bs):∀{m:Nat}{b:β}{d:α},bs.Nodup->bs[m]?=some b->f d b->(∀a b',b'≠b->R a b'->f a b')->A2 f (as.set m d) bs:=by
 induction h with
 | nil=>intro m b d _ e;cases e
 | @cons a b0 as bs r t ih=>
  intro m b d nd e j i;rw[wv3]at nd;cases m with
  | zero=>
   cases e;exact .cons j<|t.imp' λx y l z=>i x y (λw=>nd.1<|by rw[<-w];exact l) z
  | succ m=>exact .cons (i _ _ (λw=>nd.1<|by rw[w];exact dC e) r)<|ih nd.2 e j i
section
variable{Y:Ry}{R:Rx Y}{H:Hp}{rn:Addr}{A:Ra}{S:Rs}{dn:Nat}
def RunAt.dict(h:RunAt R H rn A S dn)(b:A.δ[m]?=some a):H a=some (.dK<|cD A.θ<|S.ds.getD m [])/\(∀z∈S.ds.getD m [],VOk S.ts.length z.2)/\R.H0 a=none:=by
 obtain⟨d,e,g⟩:=A2.back h.dc b;rw[fR,e];exact⟨g,h.dk d<|dC e,h.fr a<|.tail _<|.tail _<|.tail _<|.tail _<|.tail _<|dC b⟩
def RunAt.got(h:RunAt R H rn A S dn)(b:A.δ[m]?=some a)(x:Str):VOk S.ts.length (S.get m x):=oM (h.dict b).2.1 _
theorem RunAt.put(h:RunAt R H rn A S dn)(e:A.δ[m]?=some a)(B:VOk S.ts.length v)(x:Str):RunAt R (upd H a<|.dK<|aO (cD A.θ<|S.ds.getD m []) (Sum.inr x)<|cV A.θ v) rn A (S.put m x v) dn/\Im Y.C H (upd H a<|.dK<|aO (cD A.θ<|S.ds.getD m []) (Sum.inr x)<|cV A.θ v):=by
 obtain⟨j,ok,h0⟩:=h.dict e;have f:Im Y.C H (upd H a<|.dK<|aO (cD A.θ<|S.ds.getD m []) (Sum.inr x)<|cV A.θ v):=.upd j λz=>z;have o:=dC e;have nd:=h.nd;simp only[wv3,wr5,eY]at nd;obtain⟨⟨E,M,O,J,n⟩,⟨K,P,N,l⟩,⟨I,G,q⟩,⟨L,s⟩,w,u⟩:=nd;have i:=h.im.keep f;have ne:∀{b:Addr},b∉A.δ->b≠a:=λh z=>h (by rw[z];exact o)
 refine⟨{im:=⟨i.md,i.ch,i.ud,i.lg,i.th,i.bo⟩,run:=(aC<|ne n).trans h.run,fo:=(aC<|ne l).trans h.fo,he:=(aC<|ne q).trans h.he,to:=(aC<|ne s).trans h.to,lo:=(aC<|ne w).trans h.lo,dc:=?_,dk:=?_,nd:=h.nd,kp:=nB h.kp h0,fr:=h.fr},f⟩
 .exact A2.chg h.dc u e (by rw[zb1,HR]) λd b r g=>by rw[aC r];exact g
 .intro d hd;rcases KI hd with hd | rfl
  .exact h.dk d hd
  .exact LF ok B
def RunAt.dic2(h:RunAt R H rn A S dn)(j:H a=none)(f:FrS [] H H')(e:H' a=some (.dK<|cD A.θ d))(hd:∀z∈d,VOk S.ts.length z.2):RunAt R H' rn (A.dic a) (S.dic d) dn:=by
 have g:Im Y.C H H':=λb o e _=>f b o aZ e;have k:=h.keep0 f;have h0:R.H0 a=none:=by
  cases e:R.H0 a with
  | none=>rfl
  | some o=>rw[h.kp a o e]at j;cases j
 have n:a∉rn::A.fo::A.he::A.to::A.lo::A.δ:=by
  intro z;simp only[wr5]at z;rcases z with rfl | rfl | rfl | rfl | rfl | z
  .rw[h.run]at j;cases j
  .rw[h.fo]at j;cases j
  .rw[h.he]at j;cases j
  .rw[h.to]at j;cases j
  .rw[h.lo]at j;cases j
  .obtain⟨i,hi⟩:=wv6.mp z;rw[(h.dict hi).1]at j;cases j
 refine {im:=⟨k.im.md,k.im.ch,h.im.ud.imp λ_ _ z=>z.keep Y.nd g,k.im.lg,k.im.th.imp λ_ _ ⟨dx,b,e,z⟩=>⟨dx,b,lV e,z⟩,k.im.bo⟩,run:=k.run,fo:=k.fo,he:=k.he,to:=k.to,lo:=k.lo,dc:=k.dc.snoc e,dk:=λd' l=>?_,nd:=?_,kp:=k.kp,fr:=λb m=>?_}
 .rcases wt2.mp l with l | l
  .exact h.dk d' l
  .rw[wr8.mp l];exact hd
 .show((rn::A.fo::A.he::A.to::A.lo::A.δ)++[a]).Nodup;exact List.nodup_append.mpr ⟨h.nd,wv3.mpr ⟨aZ,kH⟩,λx r y q=>by rw[wr8.mp q];exact λz=>n<|by rw[<-z];exact r⟩
 .rcases wt2.mp (show b∈(rn::A.fo::A.he::A.to::A.lo::A.δ)++[a] from m)with m | m
  .exact h.fr b m
  .rw[wr8.mp m];exact h0
theorem RunAt.dic(h:RunAt R H rn A S dn)(b:H a=none)(hd:∀z∈d,VOk S.ts.length z.2):RunAt R (upd H a<|.dK<|cD A.θ d) rn (A.dic a) (S.dic d) dn/\Im Y.C H (upd H a<|.dK<|cD A.θ d):=⟨h.dic2 b (FrS.new b) zb1 hd,.new b⟩
theorem RunAt.thg(h:RunAt R H rn A S dn)(f:H t=some (.ins Y.C.th dx [("kind",.str k),("fields",.ref a)]))(e:A.δ[m]?=some a):RunAt R H rn (A.thg t) (S.thg (k,m)) dn where
 im:=⟨h.im.md,h.im.ch,h.im.ud,h.im.lg,h.im.th.snoc ⟨dx,a,e,f⟩,h.im.bo⟩
 run:=h.run
 fo:=h.fo
 he:=h.he
 to:=h.to
 lo:=h.lo
 dc:=A2.imp2 h.dc λd b hd g=>by show H b=some (.dK<|cD (A.θ++[t]) d);rw[rW<|by rw[<-h.im.th.len];exact h.dk d hd];exact g
 dk d hd z hz:=(h.dk d hd z hz).mono (by show _<=↑(S.ts++[_]);rw[bJ];exact jV _ _)
 nd:=h.nd
 kp:=h.kp
 fr:=h.fr
theorem RunAt.her(h:RunAt R H rn A S dn)(k:Str):RunAt R (upd H A.he<|.lst<|S.hr.map V.str++[.str k]) rn A (S.her k) dn/\Im Y.C H (upd H A.he<|.lst<|S.hr.map V.str++[.str k]):=by
 have f:Im Y.C H (upd H A.he<|.lst<|S.hr.map V.str++[.str k]):=.upd h.he λz=>z;have nd:=h.nd;simp only[wv3,wr5,eY]at nd;obtain⟨⟨l,e,s,n,o⟩,⟨d,u,r,m⟩,⟨b,a,j⟩,⟨q,w⟩,x,_⟩:=nd;have i:=h.im.keep f;exact⟨{im:=⟨i.md,i.ch,i.ud,i.lg,i.th,i.bo⟩,run:=(aC e).trans h.run,fo:=(aC d).trans h.fo,he:=zb1.trans (by show _=some (HO.lst<|(S.hr++[k]).map V.str);rw[bX];rfl),to:=(aC<|bW b).trans h.to,lo:=(aC<|bW a).trans h.lo,dc:=pK h.dc j,dk:=h.dk,nd:=h.nd,kp:=nB h.kp<|h.fr _<|.tail _<|.tail _<|.head _,fr:=h.fr},f⟩
end
abbrev sO:Stmt:=top 35
abbrev FA:Stmt:=top 32
structure Bd(G:Pg)(S:Rs):Prop where
 td:S.td.length<=200000
 lg:S.lg.length<=100000
 hr:S.hr.length<=100000
 ds:∀d∈S.ds,↑d<=100000
 hn:∀k∈S.hr,k∈G.nm
 ts:∀z∈S.ts,z.1∈G.nm
abbrev Kq:=List<|Str×Option Str×List (Str×Addr)
def DeedsQ(H:Hp)(p:Addr)(kq:Kq):Prop:=∃(kt:Addr)(ts:List Addr)(x y:V),H p=some (.tup [.ref kt,x,y])/\H kt=some (.tup<|ts.map V.ref)/\↑ts=↑kq/\
 ∀(j:Nat) t z,ts[j]?=some t->kq[j]?=some z->∃dt,H t=some (.tup [.str z.1,aS z.2.1,.ref dt])/\H dt=some (.tup<|z.2.2.map λd=>V.ref d.2)/\∀d∈z.2.2,∃rest,H d.2=some (.tup<|.str d.1::rest)
def DeedsQ.keep(h:DeedsQ H p kq)(f:Tup H H'):DeedsQ H' p kq:=by
 obtain⟨i,ts,x,y,h1,h2,o,l⟩:=h;refine⟨i,ts,x,y,f _ _ h1,f _ _ h2,o,λj t z a b=>?_⟩;obtain⟨n,s,m,q⟩:=l j t z a b;exact⟨n,f _ _ s,f _ _ m,λd hd=>let ⟨r,e⟩:=q d hd;⟨r,f _ _ e⟩⟩
def eV(kq:Kq)(n d:Str):Option Addr:=kq.findSome? λz=>if z.1=n then(z.2.2.find? λe=>decide<|e.1=d).map (·.2) else none
def dH(kq:Kq)(d:Str)(l:List Str):Option Str:=l.find? λx=>(eV kq x d).isSome
def iS(kq:Kq)(d:Str)(l:List Str):Int:=match dH kq d l with
 | none=>↑l
 | some f=>↑l-(ixV (.str f) (l.reverse.map V.str):Nat)
inductive oW{Y:Ry}(R:Rx Y)(kq:Kq)(k d:Str):Prop
 | mk(g pt:Addr)(v:V)(h1:dH kq d (R.G.ln k)=some (R.G.an k d))(h2:eV kq (R.G.an k d) d=some g)(h3:R.H0 g=some (.tup [.str d,.ref pt,v,aS<|R.G.gv (R.G.an k d) d]))(h4:R.H0 pt=some (.tup<|(R.G.ps (R.G.an k d) d).map V.str))(h5:R.G.hs (R.G.an k d) d)(h6:R.G.co k d=iS kq d (R.G.ln k))(h7:(R.G.bo (R.G.an k d) d).size<=80)(h8:↑(R.G.ps (R.G.an k d) d)<=1000)
structure IH{Y:Ry}(R:Rx Y)(tr:Tr)(kq:Kq):Prop where
 kn:KindsAt R.H0 R.pg tr
 dq:DeedsQ R.H0 R.pg kq
 ok:TrOk tr
 l12:↑tr<=12
 nm:tr.map (·.1)=R.G.nm
 ln:∀k∈R.G.nm,Up tr k<|R.G.ln k
 z0:∀k,R.Z k none->k∈R.G.nm
 ch:∀c∈R.G.ch,-100<=c
 ca:∀k d,R.Z k (some d)->∀x∈R.G.nm,k∈R.G.ln x->oW R kq x d
def jT{Y:Ry}(R:Rx Y):Prop:=∃tr kq,IH R tr kq
inductive GH(Y:Ry)(ok:Du->Prop)(vs:List V)(H:Hp)(Q:VK):Prop
 | mk(R:Rx Y)(rn u:Addr)(A:Ra)(S:Rs)(dn:Nat)(d:Du)(h1:vs=[.ref rn,.ref u])(h2:RunAt R H rn A S dn)(h3:DuAt Y.C R.Z A.δ H d u)(h4:ok d)(h5:Bd R.G S)(h6:jT R)(h7:∀A' H',RunAt R H' rn A' (doR R.G S d).1 dn->Im Y.C H H'->Q (aS (doR R.G S d).2) H')
def fM(Y:Ry)(ok:Du->Prop):Sp:=λvs H Q _=>GH Y ok vs H Q
abbrev dE:List Str:=["run","due"]
def lR{n:Nat}(h:n<=1000000):n<sizeLine:=by rw[sizeLine_eq];lia
section
variable{Y:Ry}{mg:Str->Option Value}{base:Heap}{f:Addr}{fd:FuncData}
def zR:bY dE dE (bP sO):=cE
def rB(F:Fun Y.K "do_say" "do_say" sO f fd)(Z:cT Y.K Y.C):aQ Y.pr Y.w Y.K mg base bQ (k+1) f fd dE (fM Y λd=>∃n a w m,d=.op n a (.say w) m):=by
 refine F.ok zR (λvs H Q E h=>?_) λi A outer s H vs Q E hr h=>?_
 .obtain⟨R,rn,u,A,S,dn,d,rfl,_⟩:=h;rfl
 obtain⟨R,rn,u,A,S,dn,d,rfl,h,hd,⟨n,a,w,m,rfl⟩,e,hp,q⟩:=h;exists _,aG (dZ<|fI eX fQ fV fL (bU Z.r<|pv 0)<|aA (cX<|aA bR<|aA (bU Z.d<|pv 1)<|aA (eT (bU Z.d<|pv 1) aN) aE) aE)
  (aV<|bL gH)
 ac_rfl
 cases hd with
 | @op _ _ _ _ p dx na _ hu hm hr' hb'=>
  refine⟨_,rfl,rn,_,_,_,rfl,h.run,rfl,.inl ⟨rfl,_,SqL.of h.lo⟩,_,rfl,u,_,_,_,rfl,hu,rfl,_,rfl,u,_,_,_,rfl,hu,rfl,a,_,_,_,rfl,rfl,SqT.of hr',rfl,dM<|bO (by show 3<=_;decide),λt b=>?_⟩;have h1:=h.keep0<|FrS.new (o:=.tup [.str "say",.int n,.str w]) b;have h2:=h1.say zb1;exact⟨_,_,_,rfl,rfl,h1.lo,lR (by rw[aI,<-h.im.lg.len];have:=e.lg;lia),q _ _ h2.1<|(Im.new b).trans h2.2⟩
end
def GK(i:Nat):Stmt:=match top i with
 | .ClassDef _ _ _ b _ _ _ _ _ _ _=>b.getD 0<|.Pass ⟨0,0,0,0⟩
 | s=>s
abbrev qY:Stmt:=GK 26
abbrev pV:Stmt:=GK 27
def PX{H:Hp}{a b:Addr}{o u:HO}(h:a≠b):upd (upd H a o) b u=upd (upd H b u) a o:=by
 funext c
 unfold upd
 by_cases e:c=b
 .rw[bE e,bD λz=>h<|z.symm.trans e,bE e]
 .rw[bD e,bD e]
inductive wH(C:Addr)(vs:List V)(H:Hp)(Q:VK):Prop
 | mk(x dx:Addr)(k:Str)(h1:vs=[.ref x,.str k])(h2:H x=some (.ins C dx []))(h3:∀a,H a=none->Q .non (upd (upd H a<|.dK []) x<|.ins C dx [("kind",.str k),("fields",.ref a)]))
def EB(C:Addr):Sp:=λvs H Q _=>wH C vs H Q
inductive yN(C:Addr)(vs:List V)(H:Hp)(Q:VK):Prop
 | mk(x dx a p n:Addr)(v:V)(h1:vs=[.ref x,v,.ref a,.ref p,.ref n])(h2:H x=some (.ins C dx []))(h3:Q .non (upd H x<|.ins C dx<|dF v a p n))
def wZ(C:Addr):Sp:=λvs H Q _=>yN C vs H Q
abbrev iW:List Str:=["self","kind"]
abbrev hX:List Str:=["self","number","row","inners","names"]
section
variable{Y:Ry}{mg:Str->Option Value}{base:Heap}{f:Addr}{fd:FuncData}
def xM:bY iW iW (bP qY):=cE
def tK(F:Fun Y.K "__init__" "Thing.__init__" qY f fd)(Z:cT Y.K Y.C):aQ Y.pr Y.w Y.K mg base bQ (k+1) f fd iW (EB Y.C.th):=by
 refine F.ok xM (λvs H Q E h=>?_) λd A outer s H vs Q E hr h=>?_
 .obtain⟨x,dx,k,rfl,_⟩:=h;rfl
 obtain⟨x,dx,k,rfl,h,q⟩:=h;exists _,aG (fS Z.t (pv 0)<|pv 1)<|aV<|fS Z.t (pv 0) tJ
 ac_rfl
 refine⟨_,rfl,_,rfl,x,dx,_,rfl,h,by decide,λa b=>⟨_,rfl,x,dx,[("kind",.str k)],rfl,?_,by show 1<1000;decide,?_⟩⟩
 .rw[aC λz=>by rw[<-z,zb1]at b;cases b];exact zb1
 .have n:x≠a:=λz=>by rw[<-z,zb1]at b;cases b
  have:=q a (by rw[aC<|bW n]at b;exact b);rw[PX n,gS];exact this
def yP:bY hX hX (bP pV):=cE
def oH(F:Fun Y.K "__init__" "Due.__init__" pV f fd)(Z:cT Y.K Y.C):aQ Y.pr Y.w Y.K mg base bQ (k+1) f fd hX (wZ Y.C.du):=by
 refine F.ok yP (λvs H Q E h=>?_) λb A outer s H vs Q E hr h=>?_
 .obtain⟨x,dx,a,p,n,v,rfl,_⟩:=h;rfl
 obtain⟨x,dx,a,p,n,v,rfl,h,q⟩:=h;exists _,aG (fS Z.d (pv 0)<|pv 1)<|aG (fS Z.d (pv 0)<|pv 2)<|aG (fS Z.d (pv 0)<|pv 3)<|aV<|fS Z.d (pv 0)<|pv 4
 ac_rfl
 refine⟨_,rfl,_,rfl,x,dx,_,rfl,h,by decide,_,rfl,_,rfl,x,dx,_,rfl,zb1,by show 1<1000;decide,_,rfl,_,rfl,x,dx,_,rfl,zb1,by show 2<1000;decide,_,rfl,_,rfl,x,dx,_,rfl,zb1,by show 3<1000;decide,?_⟩;rw[gS,gS,gS];exact q
structure fX(Y:Ry)(mg:Str->Option Value)(base:Heap)(k:Nat)(x:Str)(C:Addr)(ps:List Str)(sp:Sp):Prop where
 ex:∃g gd,aQ Y.pr Y.w Y.K mg base bQ k g gd ps sp/\Binds Y.K gd ps []/\Mk Y.K C g/\mg x=some (.ref C)
end
inductive UA(C:Addr)(vs:List V)(H:Hp)(Q:VK):Prop
 | mk(k:Str)(h:vs=[.str k])(q:∀x dx a,H x=none->H dx=none->H a=none->dx≠x->a≠x->a≠dx->Q (.ref x) (upd (upd (upd H dx<|.own x) a<|.dK []) x<|.ins C dx [("kind",.str k),("fields",.ref a)]))
inductive ZP(C:Addr)(vs:List V)(H:Hp)(Q:VK):Prop
 | mk(a p n:Addr)(v:V)(h:vs=[v,.ref a,.ref p,.ref n])(q:∀x dx,H x=none->H dx=none->dx≠x->Q (.ref x) (upd (upd H dx<|.own x) x<|.ins C dx<|dF v a p n))
def IM(B:List V->Hp->VK->Prop)(t:TA):TE:=λσ H Q=>t σ H λvs H1=>B vs H1 Q
section
variable{X:Cx}{Y:Ry}{k:Nat}{p pos:Pos}{e:Expr}{es:List Expr}{t:TA}{x:Str}{C:Addr}{ps:List Str}{sp:Sp}{B:List V->Hp->VK->Prop}
def DO(M:fX Y X.mg X.base k x C ps sp)(j:∀vs H Q,B vs H Q->∀x dx,H x=none->H dx=none->dx≠x->sp (.ref x::vs) (upd (upd H dx<|.own x) x<|.ins C dx []) (λv H2=>v=.non/\Q (.ref x) H2) E0)(hr:Room (k+1) X.A)(u:Gl X x)(f:PA X (e::es) t)
  (J:X.prog=Y.pr:=by rfl) (o:X.w=Y.w:=by rfl) (d:X.K=Y.K:=by rfl) (E:(x == ("__debug__":Str))=false:=by decide) (he:starEach (e::es) X.env=(false,eval e X.env)::starEach es X.env:=by rfl) (i:(backTo pos<|starEach es X.env).any (·.1)=false:=by rfl):PE X (.Call (.Name x p) (e::es) [] pos) (IM B t):=by
 obtain⟨g,gd,G,b,m,l⟩:=M.ex;rw[<-J,<-o,<-d]at G;rw[<-d]at b m;intro z s σ H Q I h;refine vP<|FH I u l ?_ E;refine PySem.W.callWith_K (h₀:=X.base) I.ok.mod.kin m.kp (aX (f pos z s σ H _ I h) ?_) he i;rintro us L ⟨vs,H1,a,r,q⟩;exact⟨a.kIn,WE m G hr b .nil FF a r λx dx h1 h2 n=>by rw[fO];exact j vs H1 Q q x dx h1 h2 n⟩
end
def XB(vs:List V)(H:Hp)(Q:VK)(h:UA C vs H Q)(x dx:Addr)(h1:H x=none)(h2:H dx=none)(f:dx≠x):EB C (.ref x::vs) (upd (upd H dx<|.own x) x<|.ins C dx []) (λv H2=>v=.non/\Q (.ref x) H2) E0:=by
 obtain⟨k,rfl,q⟩:=h;refine⟨x,dx,k,rfl,zb1,λa b=>⟨rfl,?_⟩⟩;have d:a≠x:=λz=>by rw[z,zb1]at b;cases b
 rw[aC d]at b;have e:a≠dx:=λz=>by rw[z,zb1]at b;cases b
 rw[aC e]at b;rw[PX<|bW d,gS];exact q x dx a h1 h2 b f d e
def QB(vs:List V)(H:Hp)(Q:VK)(h:ZP C vs H Q)(x dx:Addr)(h1:H x=none)(h2:H dx=none)(b:dx≠x):wZ C (.ref x::vs) (upd (upd H dx<|.own x) x<|.ins C dx []) (λv H2=>v=.non/\Q (.ref x) H2) E0:=by
 obtain⟨a,p,n,v,rfl,q⟩:=h;exists x,dx,a,p,n,v,rfl,zb1,rfl;rw[gS];exact q x dx h1 h2 b
abbrev FQ:Stmt:=top 31
abbrev tR:Stmt:=top 33
abbrev LE:Stmt:=top 34
def RunAt.few{Y:Ry}{R:Rx Y}(h:RunAt R H rn A S dn)(b:Bd G S)(f:A.δ[m]?=some a):↑(cD A.θ<|S.ds.getD m [])<sizeLine:=by
 obtain⟨d,e,_⟩:=A2.back h.dc f;rw[fR,e];unfold cD;rw[aI];have:=b.ds d<|dC e;exact lR (by show ↑d<=_;lia)
def RunAt.thing{Y:Ry}{R:Rx Y}(h:RunAt R H rn A S dn){j:Nat}(b:j<S.ts.length):∃t dx a,cV A.θ (.int j)=.ref t/\H t=some (.ins Y.C.th dx [("kind",.str<|S.kind j),("fields",.ref a)])/\A.δ[S.dict j]?=some a:=by
 obtain⟨t,e,dx,a,h1,h2⟩:=h.im.th.get<|bH b;have d:S.ts.getD (j:Int).toNat ("",0)=S.ts[j]:=by show S.ts.getD j _=_;rw[fR,bH b];rfl
 refine⟨t,dx,a,?_,by unfold Rs.kind;rw[d];exact h2,by unfold Rs.dict;rw[d];exact h1⟩;show V.ref (A.θ.getD j 0)=_;rw[fR,e];rfl
section
variable{Y:Ry}{mg:Str->Option Value}{base:Heap}{f:Addr}{fd:FuncData}
def yw4:bY ["run","due","word","x","y"] dE (bP FA):=cE
def YO(F:Fun Y.K "do_copy" "do_copy" FA f fd)(Z:cT Y.K Y.C):aQ Y.pr Y.w Y.K mg base bQ (k+1) f fd dE (fM Y λd=>∃n a x y m,d=.op n a (.copy x y) m):=by
 refine F.ok yw4 (λvs H Q E h=>?_) λj A outer s H vs Q E hr h=>?_
 .obtain⟨R,rn,u,A,S,dn,d,rfl,_⟩:=h;rfl
 obtain⟨R,rn,u,A,S,dn,d,rfl,h,hd,⟨n,a,x,y,m,rfl⟩,i,hp,q⟩:=h;have e:=eU hr;exists _,aG (gP (bU Z.d<|pv 1)<|dS (n:=3) rfl<|bI (gL 2 yw4.nd)<|bI (gL 3 yw4.nd)<|bI (gL 4 yw4.nd) dV)
  (aG (hB e (bU Z.d<|pv 1) (pv 3) (iT e (bU Z.d<|pv 1) (pv 4) ⟨rfl,rfl,rfl,rfl⟩) rfl)<|aV<|bL gH)
 ac_rfl
 cases hd with
 | @op _ _ _ _ p dx na _ hu' hm hr' hb'=>
  obtain⟨b,_,_⟩:=h.dict hm;exists _,rfl,u,_,_,_,rfl,hu',rfl,a,_,rfl,SqT.of hr',rfl,_,_,rfl,_,_,rfl,_,_,rfl,rfl;exists _,rfl,u,_,_,_,rfl,hu',rfl,na,rfl,.inl ⟨_,.inl b⟩,_,rfl,_,DGet.k (k:=(Sum.inr y:aJ)) b,_,rfl,u,_,_,_,rfl,hu',rfl,_,rfl,na,_,rfl,DPut.k (k:=(Sum.inr x:aJ)) b<|h.few i hm;rw[mN];have:=h.put hm (h.got hm y) x;exact q _ _ this.1 this.2
def xb2:bY ["run","due","word","x","field","y","thing"] dE (bP tR):=cE
def rX(F:Fun Y.K "do_put" "do_put" tR f fd)(Z:cT Y.K Y.C):aQ Y.pr Y.w Y.K mg base bQ (k+1) f fd dE (fM Y λd=>∃n a x g y m,d=.op n a (.put x g y) m):=by
 refine F.ok xb2 (λvs H Q E h=>?_) λL A outer s H vs Q E hr h=>?_
 .obtain⟨R,rn,u,A,S,dn,d,rfl,_⟩:=h;rfl
 obtain⟨R,rn,u,A,S,dn,d,rfl,h,hd,⟨n,a,x,g,y,m,rfl⟩,B,hp,q⟩:=h;have o:=eU hr;exists _,aG (gP (bU Z.d<|pv 1)<|dS (n:=4) rfl<|bI (gL 2 xb2.nd)<|bI (gL 3 xb2.nd)<|bI (gL 4 xb2.nd)<|bI (gL 5 xb2.nd) dV)
  (aG (sL 6 xb2.nd<|iT o (bU Z.d<|pv 1) (pv 3) ⟨rfl,rfl,rfl,rfl⟩)<|aG (cK (jI<|pY<|pv 6) (aV<|bL bR) cO)<|aG (hB o (bU Z.t<|pv 6) (pv 4) (iT o (bU Z.d<|pv 1) (pv 5) ⟨rfl,rfl,rfl,rfl⟩) rfl)<|aV<|bL gH)
 ac_rfl
 cases hd with
 | @op _ _ _ _ p dx na _ hu' hm hr' hb'=>
  obtain⟨i,_,_⟩:=h.dict hm;exists _,rfl,u,_,_,_,rfl,hu',rfl,a,_,rfl,SqT.of hr',rfl,_,_,rfl,_,_,rfl,_,_,rfl,_,_,rfl,rfl;exists _,rfl,u,_,_,_,rfl,hu',rfl,na,rfl,.inl ⟨_,.inl i⟩,_,rfl,_,DGet.k (k:=(Sum.inr x:aJ)) i;rw[mN];have l:∀A' H',RunAt R H' rn A' (S.thing (S.get m x) λj=>(S.put (S.dict j) g<|S.get m y,none)).1 dn->Im Y.C H H'->Q (aS (S.thing (S.get m x) λj=>(S.put (S.dict j) g<|S.get m y,none)).2) H':=q;show eZ _ _ _ (List.set _ _<|some<|cV A.θ<|S.get m x) _;rcases h.got hm x with e | ⟨j,e,hj⟩
  .rw[e]at l ⊢;exact⟨_,rfl,_,rfl,bB (λ_=>l A H h Im.refl) λc=>absurd rfl c⟩
  .rw[e]at l ⊢;obtain⟨t,J,b,I,G,r⟩:=h.thing hj;rw[I];obtain⟨z,_,_⟩:=h.dict r;refine⟨_,rfl,_,rfl,cP ?_⟩;exists _,rfl,u,_,_,_,rfl,hu',rfl,na,rfl,.inl ⟨_,.inl i⟩,_,rfl,_,DGet.k (k:=(Sum.inr y:aJ)) i,_,rfl,t,_,_,_,rfl,G,rfl,_,rfl,b,_,rfl,DPut.k (k:=(Sum.inr g:aJ)) z<|h.few B r;rw[mN];have:=h.put r (h.got hm y) g;exact l _ _ this.1 this.2
def scTk:bY ["run","due","word","x","y","field","thing"] dE (bP LE):=cE
def xC(F:Fun Y.K "do_take" "do_take" LE f fd)(Z:cT Y.K Y.C):aQ Y.pr Y.w Y.K mg base bQ (k+1) f fd dE (fM Y λd=>∃n a x y g m,d=.op n a (.take x y g) m):=by
 refine F.ok scTk (λvs H Q E h=>?_) λL A outer s H vs Q E hr h=>?_
 .obtain⟨R,rn,u,A,S,dn,d,rfl,_⟩:=h;rfl
 obtain⟨R,rn,u,A,S,dn,d,rfl,h,hd,⟨n,a,x,y,g,m,rfl⟩,B,hp,q⟩:=h;have o:=eU hr;exists _,aG (gP (bU Z.d<|pv 1)<|dS (n:=4) rfl<|bI (gL 2 scTk.nd)<|bI (gL 3 scTk.nd)<|bI (gL 4 scTk.nd)<|bI (gL 5 scTk.nd) dV)
  (aG (sL 6 scTk.nd<|iT o (bU Z.d<|pv 1) (pv 4) ⟨rfl,rfl,rfl,rfl⟩)<|aG (cK (jI<|pY<|pv 6) (aV<|bL bR) cO)<|aG (hB o (bU Z.d<|pv 1) (pv 3) (iT o (bU Z.t<|pv 6) (pv 5) ⟨rfl,rfl,rfl,rfl⟩) rfl)<|aV<|bL gH)
 ac_rfl
 cases hd with
 | @op _ _ _ _ p dx na _ hu' hm hr' hb'=>
  obtain⟨l,_,_⟩:=h.dict hm;exists _,rfl,u,_,_,_,rfl,hu',rfl,a,_,rfl,SqT.of hr',rfl,_,_,rfl,_,_,rfl,_,_,rfl,_,_,rfl,rfl;exists _,rfl,u,_,_,_,rfl,hu',rfl,na,rfl,.inl ⟨_,.inl l⟩,_,rfl,_,DGet.k (k:=(Sum.inr y:aJ)) l;rw[mN];have i:∀A' H',RunAt R H' rn A' (S.thing (S.get m y) λj=>(S.put m x<|S.get (S.dict j) g,none)).1 dn->Im Y.C H H'->Q (aS (S.thing (S.get m y) λj=>(S.put m x<|S.get (S.dict j) g,none)).2) H':=q;show eZ _ _ _ (List.set _ _<|some<|cV A.θ<|S.get m y) _;rcases h.got hm y with e | ⟨j,e,hj⟩
  .rw[e]at i ⊢;exact⟨_,rfl,_,rfl,bB (λ_=>i A H h Im.refl) λc=>absurd rfl c⟩
  .rw[e]at i ⊢;obtain⟨t,J,b,I,G,z⟩:=h.thing hj;rw[I];obtain⟨r,_,_⟩:=h.dict z;refine⟨_,rfl,_,rfl,cP ?_⟩;exists _,rfl,t,_,_,_,rfl,G,rfl,b,rfl,.inl ⟨_,.inl r⟩,_,rfl,_,DGet.k (k:=(Sum.inr g:aJ)) r,_,rfl,u,_,_,_,rfl,hu',rfl,_,rfl,na,_,rfl,DPut.k (k:=(Sum.inr x:aJ)) l<|h.few B hm;rw[mN];have:=h.put hm (h.got z g) x;exact i _ _ this.1 this.2
def scMk:bY ["run","due","word","x","kind"] dE (bP FQ):=cE
def yL(F:Fun Y.K "do_make" "do_make" FQ f fd)(Z:cT Y.K Y.C)(M:fX Y mg base k "Thing" Y.C.th iW (EB Y.C.th)):aQ Y.pr Y.w Y.K mg base bQ (k+2) f fd dE (fM Y λd=>∃n a x y m,d=.op n a (.make x y) m):=by
 refine F.ok scMk (λvs H Q E h=>?_) λa6 A outer s H vs Q E hr h=>?_
 .obtain⟨R,rn,u,A,S,dn,d,rfl,_⟩:=h;rfl
 obtain⟨R,rn,u,A,S,dn,d,rfl,h,hd,⟨n,a,x,y,m,rfl⟩,j,hp,q⟩:=h;have hu:=eU hr;exists _,aG (gP (bU Z.d<|pv 1)<|dS (n:=3) rfl<|bI (gL 2 scMk.nd)<|bI (gL 3 scMk.nd)<|bI (gL 4 scMk.nd) dV)
  (aG (cK (cA (show OpR _ _ (jK Y.K true) from CY) (pv 4) (bU Z.r<|pv 0) rfl) (aV<|bL bR) cO)<|aG (hB hu (bU Z.d<|pv 1) (pv 3) (DO M XB hr rfl<|aA (pv 4) aE) rfl)<|aV<|bL gH)
 ac_rfl
 cases hd with
 | @op _ _ _ _ p dx na _ hu' hm hr' hb'=>
  exists _,rfl,u,_,_,_,rfl,hu',rfl,a,_,rfl,SqT.of hr',rfl,_,_,rfl,_,_,rfl,_,_,rfl,rfl;exists _,rfl,_,rfl,rn,_,_,_,rfl,h.run,rfl,A.he,_,rfl,.inl<|SqL.of h.he,rfl,jS _,_,rfl;show if (!gU (.str y) (S.hr.map V.str))=true then _ else _
  rw[kU];have l:∀A' H',RunAt R H' rn A' (if y∈S.hr then(((S.make y).put m x<|.int S.ts.length),none) else(S,some "absent"):Rs×Option Str).1 dn->Im Y.C H H'->Q (aS (if y∈S.hr then(((S.make y).put m x<|.int S.ts.length),none) else(S,some "absent"):Rs×Option Str).2) H':=q
  by_cases c:y∈S.hr
  .rw[bE c]at l;rw[eE c];refine cP ⟨_,rfl,y,rfl,λt i b ht T a4 n1 X n3=>?_⟩;have g1:=h.keep0<|FrS.new (o:=.own t) T;have a5:upd H i (.own t) b=none:=by rw[aC n3];exact a4
   have P:RunAt R (upd (upd H i<|.own t) b<|.dK []) rn (A.dic b) (S.dic []) dn/\Im Y.C (upd H i<|.own t) (upd (upd H i<|.own t) b<|.dK []):=g1.dic (d:=[]) a5 λz hz=>nomatch hz;have N:upd (upd H i<|.own t) b (.dK []) t=none:=by rw[aC<|bW X,aC<|bW n1];exact ht
   have B:RunAt R (upd (upd (upd H i<|.own t) b<|.dK []) t<|.ins Y.C.th i [("kind",.str y),("fields",.ref b)]) rn ((A.dic b).thg t) (S.make y) dn:=(P.1.keep0<|FrS.new (o:=.ins Y.C.th i [("kind",.str y),("fields",.ref b)]) N).thg (k:=y) (m:=S.ds.length) zb1 (by
    show(A.δ++[b])[S.ds.length]?=some b;rw[h.dc.len,iR<|aY _,vB];rfl)
   have J:Im Y.C H (upd (upd (upd H i<|.own t) b<|.dK []) t<|.ins Y.C.th i [("kind",.str y),("fields",.ref b)]):=((Im.new T).trans P.2).trans<|Im.new N;have O:=J _ _ hu' Y.nd;have L:((A.dic b).thg t).δ[m]?=some na:=lV hm;generalize upd (upd (upd H i<|.own t) b<|.dK []) t (.ins Y.C.th i [("kind",.str y),("fields",.ref b)])=H3 at B J O;have hv:VOk (S.make y).ts.length (.int S.ts.length):=.inr ⟨_,rfl,by show _<↑(S.ts++[_]);rw[bJ];exact vZ _⟩;have e:cV ((A.dic b).thg t).θ (.int S.ts.length)=.ref t:=by
    show V.ref ((A.θ++[t]).getD S.ts.length 0)=_;rw[h.im.th.len,fR,iR<|aY _,vB];rfl
   obtain⟨W,_,_⟩:=B.dict L;have I:=B.put L hv x;rw[e]at I;refine⟨_,rfl,u,_,_,_,rfl,O,rfl,_,rfl,na,_,rfl,DPut.k (k:=(Sum.inr x:aJ)) W ?_,l _ _ I.1<|J.trans I.2⟩;have b3:Bd R.G (S.make y):=⟨j.td,j.lg,j.hr,λd hd=>by
    rcases wt2.mp hd with hd | hd
    .exact j.ds d hd
    .rw[wr8.mp hd];exact bT _,j.hn,λz hz=>by
    rcases wt2.mp hz with hz | hz
    .exact j.ts z hz
    .rw[wr8.mp hz];exact j.hn y c⟩
   exact B.few b3 L
  .rw[bD c]at l;rw[gA c];exact bB (λ_=>l A H h Im.refl) λc=>absurd rfl c
end
abbrev sE:Stmt:=top 41
abbrev pH:Stmt:=top 30
abbrev oY:Stmt:=top 29
inductive xS(Y:Ry)(vs:List V)(H:Hp)(Q:VK):Prop
 | mk(R:Rx Y)(rn u:Addr)(A:Ra)(S:Rs)(dn:Nat)(x:Str)(g:Option Str)(s m:Nat)(h1:vs=[.ref rn,.ref u])(h2:RunAt R H rn A S dn)(h3:DuAt Y.C R.Z A.δ H (.back x g s m) u)(h5:Bd R.G S)(h7:∀H',RunAt R H' rn A (AV S x g s m) dn->Im Y.C H H'->Q .non H')
def JK(Y:Ry):Sp:=λvs H Q _=>xS Y vs H Q
inductive xF(Y:Ry)(vs:List V)(H:Hp)(Q:VK):Prop
 | mk(R:Rx Y)(rn:Addr)(A:Ra)(S:Rs)(dn:Nat)(h1:vs=[.ref rn])(h2:RunAt R H rn A S dn)(h3:∀H',RunAt R H' rn A (S.num (S.rd+1) S.uw S.lk) dn->Im Y.C H H'->Q (.int<|S.pick R.G) H')
def CM(Y:Ry):Sp:=λvs H Q _=>xF Y vs H Q
section
variable{Y:Ry}{mg:Str->Option Value}{base:Heap}{f:Addr}{fd:FuncData}
def xc9:bY ["run","due","word","x","gives","names"] dE (bP sE):=cE
def rD(F:Fun Y.K "end_call" "end_call" sE f fd)(Z:cT Y.K Y.C):aQ Y.pr Y.w Y.K mg base bQ (k+1) f fd dE (JK Y):=by
 refine F.ok xc9 (λvs H Q E h=>?_) λN A outer s H vs Q E hr h=>?_
 .obtain⟨R,rn,u,A,S,dn,x,g,s,m,rfl,_⟩:=h;rfl
 obtain⟨R,rn,u,A,S,dn,x,g,s,m,rfl,h,hd,G,q⟩:=h;have l:=eU hr;exists _,aG (gP (bU Z.d<|pv 1)<|dS (n:=4) rfl<|bI (gL 2 xc9.nd)<|bI (gL 3 xc9.nd)<|bI (gL 4 xc9.nd)<|bI (gL 5 xc9.nd) dV)
  (aG (hB l (bU Z.d<|pv 1) (pv 3) (FW (jI<|pY<|pv 4) gH<|iT l (pv 5) (pv 4) ⟨rfl,rfl,rfl,rfl⟩) rfl)<|aV<|AO (g:=λi j=>i-j) Z.r (pv 0) aN rJ)
 ac_rfl
 cases hd with
 | @back _ _ a _ p dx na nb _ _ hu' hm hs hr'=>
  obtain⟨B,_,_⟩:=h.dict hm;obtain⟨o,_,_⟩:=h.dict hs;exists _,rfl,u,_,_,_,rfl,hu',rfl,a,_,rfl,SqT.of hr',rfl,_,_,rfl,_,_,rfl,_,_,rfl,_,_,rfl,rfl;have fin:∀v,VOk S.ts.length v->(∀H',RunAt R H' rn A ((S.put m x v).num S.rd (S.uw-1) S.lk) dn->Im Y.C H H'->Q .non H')->OW Y.C.du "names" (.ref u) H λI H1=>lK 3 [some<|.ref rn,some<|.ref u,some<|.str "back",some<|.str x,some<|aS g,some<|.ref nb] H1 λL H2=>∃a H3,I=.ref a/\DPut H2 a L (cV A.θ v) H3/\lK 0 [some<|.ref rn,some<|.ref u,some<|.str "back",some<|.str x,some<|aS g,some<|.ref nb] H3 λz J=>QI Y.C.rn "under_way" (λi j=>i-j) (tC<|.int 1) [some<|.ref rn,some<|.ref u,some<|.str "back",some<|.str x,some<|aS g,some<|.ref nb] ⟨λ_ H'=>Q .non H',Q,λ_ _=>False,λ_ _=>False⟩ z J:=λv M q=>by
   have b:=h.put hm M x;have e:=b.1.num S.rd dn (S.uw-1) S.lk;exact⟨u,_,_,_,rfl,hu',rfl,_,rfl,na,_,rfl,DPut.k (k:=(Sum.inr x:aJ)) B<|h.few G hm,_,rfl,rn,_,_,_,rfl,b.1.run,rfl,_,_,_,rfl,b.1.run,by show 12<1000;decide,q _ e.1<|b.2.trans e.2⟩
  cases g with
  | none=>exact⟨_,rfl,_,rfl,bB (λ_=>⟨_,rfl,fin .non (.inl rfl) q⟩) λc=>absurd rfl c⟩
  | some y=>
   refine⟨_,rfl,_,rfl,cP ⟨_,rfl,nb,rfl,.inl ⟨_,.inl o⟩,_,rfl,_,DGet.k (k:=(Sum.inr y:aJ)) o,?_⟩⟩;rw[mN];exact⟨_,rfl,fin _ (h.got hs y) q⟩
def scNxt:bY ["run","at"] ["run"] (bP pH):=cE
def qU(F:Fun Y.K "next_choice" "next_choice" pH f fd)(Z:cT Y.K Y.C)(b:mg "len"=none):aQ Y.pr Y.w Y.K mg base bQ (k+1) f fd ["run"] (CM Y):=by
 refine F.ok scNxt (λvs H Q E h=>?_) λd A outer s H vs Q E hr h=>?_
 .obtain⟨R,rn,A,S,dn,rfl,_⟩:=h;rfl
 obtain⟨R,rn,A,S,dn,rfl,h,q⟩:=h;exists _,aG (sL 1 scNxt.nd<|bU Z.r<|pv 0)
  (aG (AO (g:=λi j=>i+j) Z.r (pv 0) aN CJ)<|aV<|bL<|FW (cA uG (pv 1) (eR gK rfl b gB<|aA (bU Z.r<|pv 0) aE)<|cF _) (eT (bU Z.r<|pv 0)<|pv 1) aN)
 ac_rfl
 have g:=h.num (S.rd+1) dn S.uw S.lk;refine⟨_,rfl,rn,_,_,_,rfl,h.run,rfl,_,rfl,rn,_,_,_,rfl,h.run,rfl,_,_,_,rfl,h.run,by show 12<1000;decide,?_⟩;exists _,rfl,_,rfl,rn,_,_,_,rfl,g.1.run,rfl,A.ch,_,rfl,.inr<|SqT.of g.1.im.ch,_,_,rfl,rfl,_,rfl;have a:=q _ g.1 g.2;unfold Rs.pick at a;rw[aI,fR]at *;refine bB (λc=>?_) λc=>?_
 .have c:S.rd<R.G.ch.length:=by have:=cS c;lia
  rw[bH c]at a;exact⟨_,rfl,rn,_,_,_,rfl,g.1.run,rfl,_,rfl,A.ch,_,_,_,rfl,rfl,SqT.of g.1.im.ch,mQ (by rw[bZ,bH c];rfl),a⟩
 .have c:R.G.ch.length<=S.rd:=Nat.le_of_not_lt λz=>c (eE<|by lia)
  rw[List.getElem?_eq_none c]at a;exact a
end
def NU{K:Fq}{a:Addr}{xs:List V}{g:TG}{tb:TS}{D:cU}{σ:St}{H:Hp}(b:Nat->St->Hp->Prop)(h0:b 0 σ H)(hl:∀i σ H,i<=↑xs->b i σ H->SqT K H a xs)
  (hs:∀i x σ H,xs.reverse[i]?=some x->b i σ H->g x σ H λσ2 H2=>tb {D with nx:=b<|i+1,ct:=b<|i+1,bk:=D.nx} σ2 H2) (hd:∀σ H,b ↑xs σ H->D.nx σ H):
  ∃W:Nat->Nat->St->Hp->Prop,(∃m,W 0 m σ H)/\∀i m σ H,W i m σ H->
   ((kC K a ↑xs).stop i H/\D.nx σ H)\/((kC K a ↑xs).go i H/\∃N:St->Hp->Prop,(∀σ' H',N σ' H'->∃m',m'<m/\W (i+1) m' σ' H')/\∀x H',(kC K a ↑xs).yld i H x H'->g x σ H' λσ2 H2=>tb {D with nx:=N,ct:=N,bk:=D.nx} σ2 H2):=by
 exists λi m σ H=>m=↑xs-i/\i<=↑xs/\b i σ H,⟨↑xs,by simp,bT _,h0⟩;rintro i m σ H ⟨rfl,hi,p⟩;have q:=hl i σ H hi p
 by_cases d:i<↑xs
 .refine .inr ⟨⟨xs,xs.reverse[i]'(by rw[iE];exact d),q,rfl,bH _⟩,b<|i+1,λσ' H' f=>⟨↑xs-(i+1),by(clear hi;lia),rfl,d,f⟩,λx H' y=>?_⟩;obtain⟨e,y⟩:=y;subst e;exact hs i x σ _ (y xs q) p
 .have e:i=↑xs:=by lia
  subst e;exact .inl ⟨⟨xs,q,rfl,aY _⟩,hd σ H p⟩
def IJ(Y:Ry)(R:Rx Y)(δ:List Addr)(m:Nat)(H:Hp)(d:Du)(e:Addr):Prop:=∃(n:Nat)(a p:Addr),H e=some (.tup [.int n,.ref a,.ref p])/\∀(na u dx:Addr)(H':Hp),δ[m]?=some na->Tup H H'->H' u=some (.ins Y.C.du dx<|dF (.int n) a p na)->DuAt Y.C R.Z δ H' d u
def Ens.at{Y:Ry}{R:Rx Y}(h:Ens R.Z H l es):A2 (IJ Y R δ m H) (l.dues m) es:=by
 induction h with
 | nil=>exact .nil
 | op h hp hr hb _ ih=>exact .cons ⟨_,_,_,h,λd u dx H' b f a=>.op a b (f _ _ hr) hb⟩ ih
 | call h hp hr hg hl hz _ ih=>exact .cons ⟨_,_,_,h,λd u dx H' b f a=>.call a b (f _ _ hr) (f _ _ hg) hl hz⟩ ih
 | either h hp hr h1 h2 s1 s2 _ _ _ ih=>exact .cons ⟨_,_,_,h,λd u dx H' b f a=>.either a b (f _ _ hr) (f _ _ hp) (f _ _ h1) (f _ _ h2) (s1.keep f)<|s2.keep f⟩ ih
 | again h hp hr h1 s1 _ _ ih=>exact .cons ⟨_,_,_,h,λd u dx H' b f a=>.again a b (f _ _ hr) (f _ _ hp) (f _ _ h1)<|s1.keep f⟩ ih
inductive wP(Y:Ry)(vs:List V)(H:Hp)(Q:VK):Prop
 | mk(R:Rx Y)(rn l na:Addr)(A:Ra)(S:Rs)(dn m:Nat)(L:LL)(es:List Addr)(h1:vs=[.ref rn,.ref l,.ref na])(h2:RunAt R H rn A S dn)(h3:H l=some (.tup<|es.map V.ref))(h4:Ens R.Z H L es)(h5:A.δ[m]?=some na)(h6:S.td.length+L.size<=900000)(h7:∀us H',RunAt R H' rn (A.pop us) (S.push L m) dn->Im Y.C H H'->Q .non H')
def uN(Y:Ry):Sp:=λvs H Q _=>wP Y vs H Q
inductive KZ{Y:Ry}(R:Rx Y)(H:Hp)(rn l na:Addr)(A:Ra)(S:Rs)(dn:Nat)(ds:List Du)(i:Nat)(σ:St)(Hx:Hp):Prop
 | mk(x y z:Option V)(us:List Addr)(h1:σ=[some<|.ref rn,some<|.ref l,some<|.ref na,x,y,z])(h2:RunAt R Hx rn (A.pop us) (S.pop<|ds.drop (↑ds-i)++S.td) dn)(h3:Im Y.C H Hx)
abbrev hH:List Str:=["run","rows","names"]
section
variable{Y:Ry}{mg:Str->Option Value}{base:Heap}{f:Addr}{fd:FuncData}
def xx7:bY ["run","rows","names","number","row","inners"] hH (bP oY):=cE
def sU(F:Fun Y.K "add_due" "add_due" oY f fd)(Z:cT Y.K Y.C)(M:fX Y mg base k "Due" Y.C.du hX (wZ Y.C.du))(mr:mg "reversed"=none):aQ Y.pr Y.w Y.K mg base bQ (k+2) f fd hH (uN Y):=by
 refine F.ok xx7 (λvs H Q E h=>?_) λa3 A outer s H vs Q E hr h=>?_
 .obtain⟨R,rn,l,b,A,S,dn,m,L,es,rfl,_⟩:=h;rfl
 obtain⟨R,rn,l,b,A,S,dn,m,L,es,rfl,h,hl,hE,hm,hz,q⟩:=h;exists _,aV<|eC dW rfl (OF rfl mr<|aA (pv 1) aE) (dS (n:=3) rfl<|bI (gL 3 xx7.nd)<|bI (gL 4 xx7.nd)<|bI (gL 5 xx7.nd) dV)<|aV<|dZ<|fI eX fQ fV fL (bU Z.r<|pv 0)<|aA (DO M QB hr rfl<|aA (pv 3)<|aA (pv 4)<|aA (pv 5)<|aA (pv 2) aE) aE
 ac_rfl
 have I:=hE.at (Y:=Y) (δ:=A.δ) (m:=m);have a0:=I.len;have a4:=kT m L;exists _,rfl,l,_,rfl,SqT.of hl;refine NU (xs:=es.map V.ref) (KZ R H rn l b A S dn<|L.dues m) ⟨_,_,_,A.us,rfl,?_,Im.refl⟩ ?_ ?_ ?_
 .rw[Nat.sub_zero,List.drop_length];exact h
 .rintro i σ z hi ⟨_,_,_,_,_,_,f⟩;exact SqT.of<|f.tup _ _ hl
 .rintro i x σ z T ⟨_,_,_,us,rfl,g,f⟩;rw[<-List.map_reverse,bZ,wt0]at T;obtain⟨e,he,rfl⟩:=T;have hi:i<↑es:=by rw[<-iE];exact(wr1.mp he).1
  rw[List.getElem?_reverse hi]at he;obtain⟨d,hd,n,a,p,h1,h2⟩:=A2.back I he;have t:=f.tup;exists e,_,rfl,SqT.of<|t _ _ h1,rfl,_,_,rfl,_,_,rfl,_,_,rfl,rfl;refine⟨_,rfl,rn,_,_,_,rfl,g.run,rfl,.inl ⟨rfl,_,SqL.of g.to⟩,_,rfl,_,rfl,_,rfl,_,rfl,a,p,b,_,rfl,λu j O B G=>?_⟩;have P:=g.keep0 ((FrS.new (o:=.own u) B).trans<|FrS.new (o:=.ins Y.C.du j<|dF (.int n) a p b)<|by rw[aC<|bW G];exact O);have N:Im Y.C z (upd (upd z j<|.own u) u<|.ins Y.C.du j<|dF (.int n) a p b):=(Im.new B).trans (Im.new<|by rw[aC<|bW G];exact O);have a2:=h2 b u j _ hm (t.trans N.tup)<|zb1 (H:=upd z j<|.own u) (o:=.ins Y.C.du j<|dF (.int n) a p b);have J:=P.due a2;have X:(L.dues m).drop (↑(L.dues m)-(i+1))=d::(L.dues m).drop (↑(L.dues m)-i):=by
   have W:↑(L.dues m)-(i+1)<↑(L.dues m):=by lia
   rw[BM W,show(L.dues m).length-(i+1)+1=↑(L.dues m)-i by lia]
   congr 1
   have:↑es-1-i=↑(L.dues m)-(i+1):=by lia
   rw[this,bH W]at hd;exact jN hd
  refine⟨_,_,_,rfl,rfl,P.to,lR ?_,_,_,_,u::us,rfl,?_,(f.trans N).trans J.2⟩
  .rw[aI,iE,<-g.im.ud.len];show((L.dues m).drop _++S.td).length<=_;rw[bJ,lL];lia
  .rw[X];exact J.1
 .rintro σ z ⟨_,_,_,us,rfl,g,f⟩;rw[aI,<-a0,vB,List.drop_zero]at g;exact q us z g f
end
abbrev HD:Stmt:=top 36
abbrev HI:Stmt:=top 37
def Du.size:Du->Nat
 | .either _ _ p q _=>p.size+q.size
 | .again _ _ p _=>p.size
 | _=>0
inductive Ac{Y:Ry}(R:Rx Y)(H:Hp)(rn u:Addr)(tv:V)(A:Ra)(S:Rs)(dn:Nat)(p:LL)(m i:Nat)(σ:St)(Hx:Hp):Prop
 | mk(x:Option V)(us:List Addr)(h1:σ=[some<|.ref rn,some<|.ref u,some tv,x])(h2:RunAt R Hx rn (A.pop us) (pushN p m i S) dn)(h3:Im Y.C H Hx)
theorem RC:∀(i:Nat)(S:Rs),(pushN p m i S).td.length<=S.td.length+i*p.size
 | 0,S=>by rw[Nat.zero_mul];exact aY _
 | i+1,S=>by
  have h1:=RC (p:=p) (m:=m) i<|S.push p m;have h2:=kT m p;have a:(S.push p m).td.length=↑(p.dues m)+S.td.length:=bJ;show(pushN p m i<|S.push p m).td.length<=_;rw[Nat.succ_mul];lia
theorem OR:∀(i:Nat)(S:Rs),pushN p m (i+1) S=(pushN p m i S).push p m
 | 0,S=>rfl
 | i+1,S=>OR i<|S.push p m
section
variable{Y:Ry}{mg:Str->Option Value}{base:Heap}{f:Addr}{fd:FuncData}
def scEi:bY ["run","due","rows","others"] dE (bP HD):=cE
def zI{k:Nat}(F:Fun Y.K "do_either" "do_either" HD f fd)(Z:cT Y.K Y.C)(r:aR Y.pr Y.w Y.K mg base k "next_choice" ["run"] (CM Y))(x:aR Y.pr Y.w Y.K mg base k "add_due" hH (uN Y)):aQ Y.pr Y.w Y.K mg base bQ (k+1) f fd dE (fM Y λd=>∃n a p q m,d=.either n a p q m/\p.size+q.size<=80):=by
 refine F.ok scEi (λvs H Q E h=>?_) λB A outer s H vs Q E hr h=>?_
 .obtain⟨R,rn,u,A,S,dn,d,rfl,_⟩:=h;rfl
 obtain⟨R,rn,u,A,S,dn,d,rfl,h,hd,⟨n,a,l,p2,m,rfl,hz⟩,o,hp,q⟩:=h;exists _,aG (gP (bU Z.d<|pv 1)<|dS (n:=2) rfl<|bI (gL 2 scEi.nd)<|bI (gL 3 scEi.nd) dV)
  (aG (dZ<|bC x hr rfl<|aA (pv 0)<|aA (FW (cA fK (bC r hr rfl<|aA (pv 0) aE) aN<|cF _) (pv 2)<|pv 3)<|aA (bU Z.d<|pv 1) aE)<|aV<|bL gH)
 ac_rfl
 cases hd with
 | @either _ _ _ _ pp dx na l1 l2 v _ _ e1 e2 hu hm hr' hp' h1 h2 s1 s2=>
  exists _,rfl,u,_,_,_,rfl,hu,rfl,pp,_,rfl,SqT.of hp',rfl,_,_,rfl,_,_,rfl,rfl;refine⟨_,rfl,_,rfl,R,rn,A,S,dn,rfl,h,λH1 g e=>⟨rfl,_,rfl,?_⟩⟩;have t:=e.tup;have j:=e _ _ hu Y.nd;have b:∀A' H',RunAt R H' rn A' ((S.num (S.rd+1) S.uw S.lk).push (if S.pick R.G=0 then l else p2) m) dn->Im Y.C H H'->Q .non H':=q;have I:=o.td;refine bB (λc=>?_) λc=>?_
  .have c:S.pick R.G=0:=V.int.inj<|cS c;rw[bE c]at b;exact⟨_,rfl,_,rfl,u,_,_,_,rfl,j,rfl,R,rn,l1,na,A,_,dn,m,l,e1,rfl,g,t _ _ h1,s1.keep t,hm,by show S.td.length+_<=_;lia,λus H' g' i=>b _ H' g'<|e.trans i⟩
  .have c:S.pick R.G≠0:=λz=>c (eE<|by rw[z])
   rw[bD c]at b;exact⟨_,rfl,_,rfl,u,_,_,_,rfl,j,rfl,R,rn,l2,na,A,_,dn,m,p2,e2,rfl,g,t _ _ h2,s2.keep t,hm,by show S.td.length+_<=_;lia,λus H' g' i=>b _ H' g'<|e.trans i⟩
def scAg:bY ["run","due","times","turn"] dE (bP HI):=cE
def AH{k:Nat}(F:Fun Y.K "do_again" "do_again" HI f fd)(Z:cT Y.K Y.C)(B:aR Y.pr Y.w Y.K mg base k "next_choice" ["run"] (CM Y))(I:aR Y.pr Y.w Y.K mg base k "add_due" hH (uN Y))(N:mg "min"=none)(x:mg "range"=none)(b:∃tk,mg "MOST_TIMES"=some (.int 9 tk)):aQ Y.pr Y.w Y.K mg base bQ (k+1) f fd dE (fM Y λd=>∃n a p m,d=.again n a p m/\p.size<=80):=by
 refine F.ok scAg (λvs H Q E h=>?_) λO A outer s H vs Q E hr h=>?_
 .obtain⟨R,rn,u,A,S,dn,d,rfl,_⟩:=h;rfl
 obtain⟨R,rn,u,A,S,dn,d,rfl,h,hd,⟨n,a,p,m,rfl,hz⟩,z,hp,q⟩:=h;obtain⟨tk,b⟩:=b;exists _,aG (sL 2 scAg.nd<|eR (RK rfl) rfl N (by rfl')<|aA (bC B hr rfl<|aA (pv 0) aE)<|aA (kO (v:=.int 9) rfl b ⟨_,rfl⟩) aE)
  (aG (eC dW rfl (lN rfl x<|aA (pv 2) aE) (gL 3 scAg.nd)<|aV<|dZ<|bC I hr rfl<|aA (pv 0)<|aA (eT (bU Z.d<|pv 1) aN)<|aA (bU Z.d<|pv 1) aE)<|aV<|bL gH)
 ac_rfl
 cases hd with
 | @again _ _ _ _ pp dx na l1 v _ e1 hu hm hr' hp' h1 s1=>
  refine⟨_,rfl,R,rn,A,S,dn,rfl,h,λH1 g J=>?_⟩;have P:-100<=S.pick R.G:=by
   unfold Rs.pick;rw[fR];cases e:R.G.ch[S.rd]? with
   | none=>show(-100:Int)<=0;decide
   | some c=>exact hp.choose_spec.choose_spec.ch c<|dC e
  exists _,_,rfl;have j:∀A' H',RunAt R H' rn A' (pushN p m (min (S.pick R.G) 9).toNat<|S.num (S.rd+1) S.uw S.lk) dn->Im Y.C H H'->Q .non H':=q;have e:(if 9<S.pick R.G then 9 else S.pick R.G)=min (S.pick R.G) 9:=by split <;> lia
  rw[e];have M:min (S.pick R.G) 9<=9/\-100<=min (S.pick R.G) 9:=by lia
  generalize min (S.pick R.G) 9=tv at j M;have W:=z.td;refine⟨_,rfl,tv,rfl,by lia,by lia,?_⟩;refine vU (lo:=0) (n:=tv.toNat) (Ac R H rn u (.int tv) A (S.num (S.rd+1) S.uw S.lk) dn p m) ⟨_,A.us,rfl,g,J⟩ ?_ ?_
  .rintro i σ l hi ⟨_,us,rfl,g,f⟩;have t:=f.tup;have o:=f _ _ hu Y.nd;have hl:=RC (p:=p) (m:=m) i<|S.num (S.rd+1) S.uw S.lk;have T:i*p.size<=9*80:=Nat.mul_le_mul (by lia) hz;refine⟨_,rfl,_,rfl,u,_,_,_,rfl,o,rfl,pp,_,_,_,rfl,rfl,SqT.of<|t _ _ hp',rfl,_,rfl,u,_,_,_,rfl,o,rfl,R,rn,l1,na,_,_,dn,m,p,e1,rfl,g,t _ _ h1,s1.keep t,hm,?_,λr H' g' L=>?_⟩
   .have:(S.num (S.rd+1) S.uw S.lk).td.length=S.td.length:=rfl;lia
   .exact⟨_,r,rfl,by rw[OR];exact g',f.trans L⟩
  .rintro σ l ⟨_,us,rfl,g,f⟩;exact j _ l g f
end
abbrev sW:Stmt:=top 20
abbrev IC:Stmt:=top 21
abbrev HL:Stmt:=top 38
def NH{K:Fq}{pt:Hp->Addr->V->V->(Hp->Prop)->Prop}{a D:Addr}{xs:List V}{g:TG}{tt:TT}{tk te:TE}{σ0:St}{H0:Hp}{Q:Hp->Prop}(d:Nat->St->Hp->Prop)(h0:d 0 σ0 H0)(hl:∀i σ H,i<=↑xs->d i σ H->SqT K H a xs)
  (hs:∀i x σ H,xs[i]?=some x->d i σ H->g x σ H λσ2 H2=>tt σ2 H2 λb H3=>if b=true then tk σ2 H3 λh l=>te σ2 l λv n=>pt n D h v λj=>d (i+1) σ2 j else d (i+1) σ2 H3) (hd:∀σ H,d ↑xs σ H->Q H):xO pt (kJ K a) g tt tk te D σ0 H0 Q:=by
 exists λi m σ H=>m=↑xs-i/\i<=↑xs/\d i σ H,⟨↑xs,by simp,bT _,h0⟩;rintro i m σ H ⟨rfl,hi,p⟩;have q:=hl i σ H hi p
 by_cases f:i<↑xs
 .refine .inr ⟨⟨xs,xs[i],q,bH f⟩,d<|i+1,λσ' H' o=>⟨↑xs-(i+1),by(clear hi;lia),rfl,f,o⟩,λx H' y=>?_⟩;obtain⟨e,y⟩:=y;subst e;exact hs i x σ _ (y xs q) p
 .have e:i=↑xs:=by lia
  subst e;exact .inl ⟨⟨xs,q,aY _⟩,hd σ H p⟩
inductive yD(vs:List V)(H:Hp)(Q:VK):Prop
 | mk(md:Addr)(h1:vs=[.ref md])(h2:H md=some (.tup []))(h3:∀a,H a=none->Q (.ref a) (upd H a<|.dK []))
def DW:Sp:=λvs H Q _=>yD vs H Q
inductive JT(vs:List V)(H:Hp)(Q:VK):Prop
 | mk(md:Addr)(v:V)(h1:vs=[.ref md,v])(h2:H md=some (.tup []))(h3:∀a H',FrS [] H H'->H' a=some (.tup [])->Q (.ref a) H')
def tP:Sp:=λvs H Q _=>JT vs H Q
def zM:bY ["made"] ["made"] (bP sW):=cE
def tE(F:Fun K "forms_of" "forms_of" sW f fd):aQ P w K mg base bQ (k+1) f fd ["made"] DW:=by
 refine F.ok zM (λvs H Q E h=>?_) λl A outer s H vs Q E hr h=>?_
 .obtain⟨md,rfl,_⟩:=h;rfl
 obtain⟨md,rfl,h,q⟩:=h;have b:(["number","form","names"]:List Str).Nodup:=by rfl'
 exists _,aV<|bL<|OI (hp:=ET) (N':=["number","form","names"]) (src:=[none,none,none]) rfl fH (iC<|pv 0) (g:=eN K 3<|eJ (cG 0)<|eJ (cG 1)<|eJ (cG 2) eK) (λ_ _ _ _=>dS (n:=3) rfl<|bI (gL 0 b)<|bI (gL 1 b)<|bI (gL 2 b) dV) (λ_ _ _ _=>gT) (λ_ _ _ _=>pv 0) λ_ _ _ _=>pv 1
 ac_rfl
 refine⟨_,rfl,md,rfl,⟨_,SqT.of h⟩,λD d=>?_⟩;exact NH (xs:=[]) (λ_ _ a=>a=upd H D (.dK [])) rfl (λi σ a _ e=>by rw[e];exact SqT.of<|(Tup.new d) _ _ h) (λi x σ a j=>nomatch j) λσ a e=>by rw[e];exact q D d
def scTb:bY ["made","came","found","number","form","names"] ["made","came"] (bP IC):=cE
def xN(F:Fun K "turned_back" "turned_back" IC f fd)(j:mg "tuple"=none):aQ P w K mg base bQ (k+1) f fd ["made","came"] tP:=by
 refine F.ok scTb (λvs H Q E h=>?_) λo A outer s H vs Q E hr h=>?_
 .obtain⟨md,v,rfl,_⟩:=h;rfl
 obtain⟨md,v,rfl,h,q⟩:=h;exists _,aG (sL 2 scTb.nd<|cW aE)
  (aG (eC dW rfl (iC<|pv 0) (dS (n:=3) rfl<|bI (gL 3 scTb.nd)<|bI (gL 4 scTb.nd)<|bI (gL 5 scTb.nd) dV)<|aV uX)<|aV<|bL<|fG iB rfl j (by rfl')<|aA (pv 2) aE)
 ac_rfl
 refine⟨bT _,λl hl=>⟨_,rfl,md,rfl,⟨_,SqT.of<|(Tup.new hl) _ _ h⟩,?_⟩⟩;refine lC (xs:=[]) (λ_ σ b=>σ=[some<|.ref md,some v,some<|.ref l,none,none,none]/\b=upd H l (.lst [])) ⟨rfl,rfl⟩ (λi σ b _ e=>by rw[e.2];exact SqT.of<|(Tup.new hl) _ _ h) (λi x σ b m=>nomatch m) ?_;rintro σ b ⟨rfl,rfl⟩;exact⟨_,rfl,l,_,rfl,.inl ⟨SqL.of zb1,λa d=>q a _ ((FrS.new hl).trans<|FrS.new d) zb1⟩⟩
def Ra.mad(A:Ra)(a:Addr):Ra:={A with md:=a}
def Ra.frm(A:Ra)(a:Addr):Ra:={A with fo:=a}
section
variable{Y:Ry}{R:Rx Y}{H:Hp}{rn:Addr}{A:Ra}{S:Rs}{dn:Nat}
theorem RunAt.mad(h:RunAt R H rn A S dn)(d:H a=some (.tup [])):RunAt R (upd H rn<|.ins Y.C.rn A.dx<|rF R.pg (A.mad a) S.rd dn S.uw S.lk) rn (A.mad a) S dn/\Im Y.C H (upd H rn<|.ins Y.C.rn A.dx<|rF R.pg (A.mad a) S.rd dn S.uw S.lk):=by
 have f:Im Y.C H (upd H rn<|.ins Y.C.rn A.dx<|rF R.pg (A.mad a) S.rd dn S.uw S.lk):=.upd h.run λz=>z rfl;have nd:=h.nd;simp only[wv3,wr5,eY]at nd;obtain⟨⟨b,e,j,l,m⟩,_⟩:=nd;have i:=h.im.keep f;exact⟨{im:=⟨f.tup _ _ d,i.ch,i.ud,i.lg,i.th,i.bo⟩,run:=zb1,fo:=(aC<|bW b).trans h.fo,he:=(aC<|bW e).trans h.he,to:=(aC<|bW j).trans h.to,lo:=(aC<|bW l).trans h.lo,dc:=pK h.dc m,dk:=h.dk,nd:=h.nd,kp:=nB h.kp<|h.fr _<|.head _,fr:=h.fr},f⟩
theorem RunAt.frm(h:RunAt R H rn A S dn)(d:H a=none):RunAt R (upd (upd H a<|.dK []) rn<|.ins Y.C.rn A.dx<|rF R.pg (A.frm a) S.rd dn S.uw S.lk) rn (A.frm a) S dn/\Im Y.C H (upd (upd H a<|.dK []) rn<|.ins Y.C.rn A.dx<|rF R.pg (A.frm a) S.rd dn S.uw S.lk):=by
 have g:=h.keep0<|FrS.new (o:=.dK []) d;have f:Im Y.C (upd H a<|.dK []) (upd (upd H a<|.dK []) rn<|.ins Y.C.rn A.dx<|rF R.pg (A.frm a) S.rd dn S.uw S.lk):=.upd g.run λz=>z rfl;have h0:R.H0 a=none:=by
  cases e:R.H0 a with
  | none=>rfl
  | some o=>rw[h.kp a o e]at d;cases d
 have n:rn≠a:=bA h.run d;have s:A.he≠a:=bA h.he d;have x:A.to≠a:=bA h.to d;have w:A.lo≠a:=bA h.lo d;have u:a∉A.δ:=λz=>by
  obtain⟨i,hi⟩:=wv6.mp z;rw[(h.dict hi).1]at d;cases d
 have nd:=h.nd;simp only[wv3,wr5,eY]at nd;obtain⟨⟨B,q,r,l,m⟩,⟨G,J,I,E⟩,nd⟩:=nd;have i:=g.im.keep f;refine⟨{im:=⟨i.md,i.ch,i.ud,i.lg,i.th,i.bo⟩,run:=zb1,fo:=(aC<|bW n).trans zb1,he:=(aC<|bW q).trans g.he,to:=(aC<|bW r).trans g.to,lo:=(aC<|bW l).trans g.lo,dc:=pK g.dc m,dk:=h.dk,nd:=?_,kp:=nB g.kp<|h.fr _<|.head _,fr:=λb j=>?_},(Im.new d).trans f⟩
 .show(rn::a::A.he::A.to::A.lo::A.δ).Nodup;simp only[wv3,wr5,eY];exact⟨⟨n,q,r,l,m⟩,⟨bW s,bW x,bW w,u⟩,nd⟩
 .rcases wr5.mp j with j | j
  .rw[j];exact h.fr _<|.head _
  .rcases wr5.mp j with j | j
   .rw[j];exact h0
   .exact h.fr _<|.tail _<|.tail _ j
end
inductive XC{Y:Ry}(R:Rx Y)(H:Hp)(rn u la:Addr)(S:Rs)(dn:Nat)(l:List Str)(i:Nat)(σ:St)(Hx:Hp):Prop
 | mk(x:Option V)(A:Ra)(h1:σ=[some<|.ref rn,some<|.ref u,some<|.ref la,x])(h2:RunAt R Hx rn A ((l.take i).foldl Rs.come S) dn)(h3:Im Y.C H Hx)
theorem GU:∀(l:List Str)(S:Rs),(l.foldl Rs.come S).hr.length<=S.hr.length+↑l/\(l.foldl Rs.come S).lg.length<=S.lg.length+↑l
 | [],S=>⟨aY _,aY _⟩
 | k::l,S=>by
  have h:=GU l<|S.come k;have h1:(S.come k).hr.length<=S.hr.length+1/\(S.come k).lg.length<=S.lg.length+1:=by
   unfold Rs.come
   split
   .exact⟨jB _,jB _⟩
   .exact⟨by show(S.hr++[k]).length<=_;rw[bJ];exact aY _,by show(S.lg++[_]).length<=_;rw[bJ];exact aY _⟩
  rw[vJ,cL];lia
section
variable{Y:Ry}{mg:Str->Option Value}{base:Heap}{f:Addr}{fd:FuncData}
def scBr:bY ["run","due","line","name"] dE (bP HL):=cE
def zD{k:Nat}(F:Fun Y.K "do_bring" "do_bring" HL f fd)(Z:cT Y.K Y.C)(EL:aR Y.pr Y.w Y.K mg base k "elders" ["program","kind"] uT)(TB:aR Y.pr Y.w Y.K mg base k "turned_back" ["made","came"] tP)(FO:aR Y.pr Y.w Y.K mg base k "forms_of" ["made"] DW):aQ Y.pr Y.w Y.K mg base bQ (k+1) f fd dE (fM Y λd=>∃n a x m,d=.op n a (.bring x) m):=by
 refine F.ok scBr (λvs H Q E h=>?_) λa8 A outer s H vs Q E hr h=>?_
 .obtain⟨R,rn,u,A,S,dn,d,rfl,_⟩:=h;rfl
 obtain⟨R,rn,u,A,S,dn,d,rfl,h,hd,⟨n,a,x,m,rfl⟩,hb,hp,q⟩:=h;exists _,aG (sL 2 scBr.nd<|bC EL hr rfl<|aA (bU Z.r<|pv 0)<|aA (eT (bU Z.d<|pv 1) aN) aE)
  (aG (eC dW rfl (iC<|pv 2) (gL 3 scBr.nd)<|aV<|cK (cA (show OpR _ _ (jK Y.K true) from CY) (pv 3) (bU Z.r<|pv 0) rfl) (aG (dZ<|fI eX fQ fV fL (bU Z.r<|pv 0)<|aA (pv 3) aE)<|aG (dZ<|fI eX fQ fV fL (bU Z.r<|pv 0)<|aA (cX<|aA bR<|aA (pv 3) aE) aE)<|aV<|fS Z.r (pv 0)<|bC TB hr rfl<|aA (bU Z.r<|pv 0)<|aA (cX<|aA (pv 3) aE) aE) cO)<|aG (fS Z.r (pv 0)<|bC FO hr rfl<|aA (bU Z.r<|pv 0) aE)<|aV<|bL gH)
 ac_rfl
 cases hd with
 | @op _ _ _ _ p dx na _ hu hm hr' hb'=>
  obtain⟨tr,kq,hp⟩:=hp;have z:=hp.ln x<|hp.z0 x<|hb' x rfl;have ok:=hp.ok;have a6:=hp.l12;have k0:FrS [] R.H0 H:=λb o _ e=>h.kp b o e;have a5:↑(R.G.ln x)<=12:=by
   obtain⟨i,g,hi⟩:=z.at;have:=Up.len ok i x g _ hi z;have:=(wr1.mp hi).1;lia
  refine⟨_,rfl,rn,_,_,_,rfl,h.run,rfl,_,rfl,u,_,_,_,rfl,hu,rfl,a,_,_,_,rfl,rfl,SqT.of hr',rfl,R.pg,x,tr,_,rfl,hp.kn.keepT<|Tup.of0 k0,ok,a6,z,λla H1 f1 _ O=>?_⟩;have J:=h.keep0 f1;have i1:Im Y.C H H1:=λb o e _=>f1 b o aZ e;exists _,rfl,la,rfl,⟨_,SqT.of O⟩;refine lC (xs:=(R.G.ln x).reverse.map V.str) (XC R H1 rn u la S dn (R.G.ln x).reverse) ⟨_,A,rfl,J,Im.refl⟩ ?_ ?_ ?_
  .rintro i σ T hi ⟨_,_,_,_,f⟩;exact SqT.of<|f.tup _ _ O
  .rintro i v σ T hv ⟨_,l,rfl,g,f⟩;rw[bZ,wt0]at hv;obtain⟨y,hy,rfl⟩:=hv;have hi:i<↑(R.G.ln x):=by rw[<-iE];exact(wr1.mp hy).1
   have e:((R.G.ln x).reverse.take<|i+1).foldl Rs.come S=(((R.G.ln x).reverse.take i).foldl Rs.come S).come y:=by
    rw[fE,hy,DY];rfl
   have hl:=GU ((R.G.ln x).reverse.take i) S;rw[eS]at hl;have I:=hb.hr;have a7:=hb.lg;generalize ((R.G.ln x).reverse.take i).foldl Rs.come S=X at g e hl;exists _,rfl,_,rfl,rn,_,_,_,rfl,g.run,rfl,l.he,_,rfl,.inl<|SqL.of g.he,rfl,jS _,_,rfl;show if (!gU (.str y) (X.hr.map V.str))=true then _ else _
   rw[kU]
   by_cases c:y∈X.hr
   .rw[eE c];refine cP ⟨_,l,rfl,?_,f⟩;rw[e];unfold Rs.come;rw[bE c];exact g
   .rw[gA c];refine iV ?_;have j:=g.her y;exists _,rfl,rn,_,_,_,rfl,g.run,rfl,.inl ⟨rfl,_,SqL.of g.he⟩,_,rfl,_,_,_,rfl,rfl,g.he,lR (by rw[aI];lia);refine⟨_,rfl,rn,_,_,_,rfl,j.1.run,rfl,.inl ⟨rfl,_,SqL.of j.1.lo⟩,_,rfl,dM<|bO (by show 2<=_;decide),λt ht=>?_⟩;have N:=j.1.keep0<|FrS.new (o:=.tup [.str "came",.str y]) ht;have B:=N.say zb1;exists _,_,_,rfl,rfl,N.lo,lR (by rw[aI,<-g.im.lg.len];lia);refine⟨_,rfl,rn,_,_,_,rfl,B.1.run,rfl,_,rfl,dM<|bO (by show 1<=_;decide),λt2 L=>?_⟩;have W:=B.1.keep0<|FrS.new (o:=.tup [.str y]) L;refine⟨_,_,rfl,W.im.md,λa2 H5 M a4=>?_⟩;have P:=W.keep0 M;have g7:=P.mad a4;refine⟨_,rfl,rn,_,_,rfl,P.run,by show 12<1000;decide,_,(l.say t).mad a2,rfl,?_,((((f.trans j.2).trans<|Im.new ht).trans B.2).trans<|Im.new L).trans<|Im.trans (λb o e _=>M b o aZ e) g7.2⟩;rw[e];unfold Rs.come;rw[bD c];exact g7.1
  .rintro σ T ⟨_,l,rfl,g,f⟩;rw[aI,eM<|aY _]at g;refine⟨_,rfl,rn,_,_,_,rfl,g.run,rfl,l.md,rfl,g.im.md,λb I=>?_⟩;have J:=g.keep0<|FrS.new (o:=.dK []) I;have j:=g.frm I;exact⟨_,rfl,rn,_,_,rfl,J.run,by show 12<1000;decide,q _ _ j.1<|i1.trans<|f.trans j.2⟩
end
abbrev HH:Stmt:=top 14
abbrev FD:Stmt:=top 15
abbrev kW:Stmt:=top 16
def wJ(x:V)(xs:List V):dY (x::xs) 0=some x:=by
 unfold dY kB;simp
def lC{K:Fq}{a:Addr}{xs:List V}{g:TG}{tb:TS}{D:cU}{σ:St}{H:Hp}(b:Nat->St->Hp->Prop)(h0:b 0 σ H)(hl:∀i σ H,i<=↑xs->b i σ H->SqT K H a xs)
  (hs:∀i x σ H,xs[i]?=some x->b i σ H->g x σ H λσ2 H2=>tb {D with nx:=b<|i+1,ct:=b<|i+1,bk:=D.nx} σ2 H2) (hd:∀σ H,b ↑xs σ H->D.nx σ H):
  ∃W:Nat->Nat->St->Hp->Prop,(∃m,W 0 m σ H)/\∀i m σ H,W i m σ H->
   ((kJ K a).stop i H/\D.nx σ H)\/((kJ K a).go i H/\∃N:St->Hp->Prop,(∀σ' H',N σ' H'->∃m',m'<m/\W (i+1) m' σ' H')/\∀x H',(kJ K a).yld i H x H'->g x σ H' λσ2 H2=>tb {D with nx:=N,ct:=N,bk:=D.nx} σ2 H2):=by
 exists λi m σ H=>m=↑xs-i/\i<=↑xs/\b i σ H,⟨↑xs,by simp,bT _,h0⟩;rintro i m σ H ⟨rfl,hi,p⟩;have q:=hl i σ H hi p
 by_cases d:i<↑xs
 .refine .inr ⟨⟨xs,xs[i],q,bH d⟩,b<|i+1,λσ' H' f=>⟨↑xs-(i+1),by lia,rfl,d,f⟩,λx H' y=>?_⟩;obtain⟨e,y⟩:=y;subst e;exact hs i x σ _ (y xs q) p
 .have e:i=↑xs:=by lia
  subst e;exact .inl ⟨⟨xs,q,aY _⟩,hd σ H p⟩
def JB(d:Nat->St->Hp->Prop)(h0:d 0 σ0 H0)(hl:∀i σ H,i<=↑xs->d i σ H->SqT K H a xs)(hs:∀i x σ H,xs[i]?=some x->d i σ H->g x σ H λσ2 H2=>tt σ2 H2 λb H3=>if b=true then te σ2 H3 λv h=>∃ys,h D=some (.lst ys)/\↑ys<sizeLine/\d (i+1) σ2 (upd h D<|.lst<|ys++[v]) else d (i+1) σ2 H3)(hd:∀σ H,d ↑xs σ H->Q H):nA (kJ K a) g tt te D σ0 H0 Q:=by
 exists λi m σ H=>m=↑xs-i/\i<=↑xs/\d i σ H,⟨↑xs,by simp,bT _,h0⟩;rintro i m σ H ⟨rfl,hi,p⟩;have q:=hl i σ H hi p
 by_cases f:i<↑xs
 .refine .inr ⟨⟨xs,xs[i],q,by simp[f]⟩,d<|i+1,λσ' H' j=>⟨↑xs-(i+1),by lia,rfl,f,j⟩,λx H' y=>?_⟩;obtain⟨e,y⟩:=y;subst e;exact hs i x σ _ (y xs q) p
 .have e:i=↑xs:=by lia
  subst e;exact .inl ⟨⟨xs,q,aY _⟩,hd σ H p⟩
def QS(h:n<=1000000):n<sizeLine:=Nat.lt_of_le_of_lt h (by decide)
def EK(x:V)(rest:List V):cH (x::rest) (some 1) none=rest:=by
 unfold cH HT.sIx;simp
def lG(w:Str)(rest:List V):List V:=if w="either"\/w="again" then rest else []
inductive RV(vs:List V)(H:Hp)(Q:VK):Prop
 | mk(a:Addr)(w:Str)(rest:List V)(h1:vs=[.ref a])(h2:H a=some (.tup<|.str w::rest))(h3:∀p,H p=none->Q (.ref p) (upd H p<|.tup<|lG w rest)):RV vs H Q
def GI:Sp:=λvs H Q _=>RV vs H Q
def XG:bY ["row"] ["row"] (bP FD):=cE
def Aw(F:Fun K "rows_within" "rows_within" FD f fd)(i:mg "HOLDERS"=some (.ref ah))(e:∀H,SqT K H ah [.str "either",.str "again"]):aQ P w K mg base bQ (k+1) f fd ["row"] GI:=by
 refine F.ok XG (λvs H Q E h=>?_) λj A outer s H vs Q E hr h=>?_
 .obtain⟨a,w,rest,rfl,_⟩:=h;rfl
 obtain⟨a,w,rest,rfl,b,q⟩:=h;exists _,aG (cK (cA sD (eT (pv 0) aN) (kO (v:=.ref ah) rfl i rfl) rfl) (aV<|bL<|jE QF (pv 0) (jH aN) jA) cO)
  (aV<|bL<|cX aE)
 ac_rfl
 have d:gU (.str w) [.str "either",.str "again"]=decide (w="either"\/w="again"):=by
  have:=kU w ["either","again"];simpa using this
 exists _,rfl,a,_,_,.str w,rfl,rfl,SqT.of b,wJ _ _,ah,_,rfl,.inr<|e _,rfl,rfl,_,rfl;show if gU (.str w) [.str "either",.str "again"]=true then _ else _
 rw[d];refine bB (λc=>?_) λc=>?_
 .have c':=cS c;refine⟨_,rfl,_,rfl,a,_,rfl,SqT.of b,?_,λp hp=>?_⟩
  .intro z;have:=z.1;unfold HT.sIx at this;simp at this
  .have:=q p hp;unfold lG at this;rw[bE c']at this;rw[EK];exact this
 .have c':¬(w="either"\/w="again"):=λz=>c<|eE z;refine⟨bT _,λp hp=>?_⟩;have:=q p hp;unfold lG at this;rw[bD c']at this;exact this
abbrev Bz:=(Str×Str)×Dz
def jJ(y:Str×List Dz):List Bz:=y.2.map λz=>((y.1,z.1),z)
def dP(ks:List (Str×List Dz))(m0:Dz):List Bz:=(("",""),m0)::ks.flatMap jJ
def BT(K:Fq)(H:Hp)(bd:Addr)(n:Str×Str):Prop:=H bd=some (.tup [.str n.1,.str n.2])\/∀H',SqT K H' bd [.str n.1,.str n.2]
def BT.keep(h:BT K H bd n)(f:Tup H H'):BT K H' bd n:=h.imp (f _ _) id
def BT.sq(h:BT K H bd n):SqT K H bd [.str n.1,.str n.2]:=h.elim SqT.of λg=>g H
inductive BodyIs(K:Fq)(H:Hp)(q:Addr)(z:Bz):Prop
 | mk(bd:Addr)(h1:H q=some (.tup [.ref bd,.ref z.2.2.1]))(h2:BT K H bd z.1):BodyIs K H q z
theorem BodyIs.keep(h:BodyIs K H q z)(f:Tup H H'):BodyIs K H' q z:=by
 obtain⟨bd,h1,h2⟩:=h;exact⟨bd,f _ _ h1,h2.keep f⟩
def _root_.L2.A2.bkeep(h:A2 (BodyIs K H) qs L)(f:Tup H H'):A2 (BodyIs K H') qs L:=h.imp λ_ _ g=>g.keep f
inductive LM(K:Fq)(vs:List V)(H:Hp)(Q:VK):Prop
 | mk(p:Addr)(ks:List (Str×List Dz))(m0:Dz)(h1:vs=[.ref p])(h2:ProgIs Z H p ks m0)(h3:∀(b:Addr)(qs:List Addr)(H':Hp),FrS [] H H'->H' b=some (.tup<|qs.map V.ref)->A2 (BodyIs K H') qs (dP ks m0)->↑qs<=1000->Q (.ref b) H'):LM K vs H Q
def GR(K:Fq):Sp:=λvs H Q _=>LM K vs H Q
inductive OJ(K:Fq)(H1:Hp)(p fd:Addr)(L:List Bz)(c:Nat)(σ:St)(Hx:Hp):Prop
 | mk(a b d e g h i:Option V)(qs:List Addr)(hσ:σ=[some<|.ref p,some<|.ref fd,a,b,d,e,g,h,i])(fr:FrS [] H1 Hx)(hf:Hx fd=some (.lst<|qs.map V.ref))(ha:A2 (BodyIs K Hx) qs L)(hc:↑qs<=c):OJ K H1 p fd L c σ Hx
inductive MR(K:Fq)(H1:Hp)(p fd:Addr)(n:Str)(e:V)(dt:Addr)(L:List Bz)(c:Nat)(σ:St)(Hx:Hp):Prop
 | mk(a b d f:Option V)(qs:List Addr)(hσ:σ=[some<|.ref p,some<|.ref fd,some<|.str n,some e,some<|.ref dt,a,b,d,f])(fr:FrS [] H1 Hx)(hf:Hx fd=some (.lst<|qs.map V.ref))(ha:A2 (BodyIs K Hx) qs L)(hc:↑qs<=c):MR K H1 p fd n e dt L c σ Hx
def zk1:bY ["program","found","name","elder","deeds","deed","params","rows","gives"] qK (bP HH):=cE
def UT(F:Fun K "bodies" "bodies" HH f fd)(mM:mg "MAIN"=some (.ref am))(hM:∀H,SqT K H am [.str "",.str ""])(a9:mg "tuple"=none):aQ P w K mg base bQ (k+1) f fd qK (GR K):=by
 refine F.ok zk1 (λvs H Q E h=>?_) λac A outer s H vs Q E hr h=>?_
 .obtain⟨p,ks,l,rfl,_⟩:=h;rfl
 obtain⟨p,ks,l,rfl,⟨kt,us,lt,hp,T,a0,aa,hm,ad⟩,q⟩:=h;exists _,aG (sL 1 zk1.nd<|cW<|aA (cX<|aA (kO (v:=.ref am) rfl mM rfl)<|aA (eT (pv 0) aN) aE) aE)
  (aG (eC dW rfl (iC<|eT (pv 0) aN) (dS (n:=3) rfl<|bI (gL 2 zk1.nd)<|bI (gL 3 zk1.nd)<|bI (gL 4 zk1.nd) dV)<|aV<|eC dW rfl (iC<|pv 4) (dS (n:=4) rfl<|bI (gL 5 zk1.nd)<|bI (gL 6 zk1.nd)<|bI (gL 7 zk1.nd)<|bI (gL 8 zk1.nd) dV)<|aV<|dZ<|fI eX fQ fV fL (pv 1)<|aA (cX<|aA (cX<|aA (pv 2)<|aA (pv 5) aE)<|aA (pv 7) aE) aE)<|aV<|bL<|fG iB rfl a9 (by rfl')<|aA (pv 1) aE)
 ac_rfl
 have s2:2<=sizeLine:=dM (bO<|by decide);have s0:1<=sizeLine:=dM (bO<|by decide);refine⟨_,rfl,p,_,_,_,rfl,rfl,SqT.of hp,rfl,s2,λpt a7=>⟨s0,λfl N=>?_⟩⟩;have L:FrS [] H (upd (upd H pt<|.tup [.ref am,.ref l.2.1]) fl<|.lst<|[pt].map V.ref):=(FrS.new a7).trans<|FrS.new N;have a5:H fl=none:=EF (FrS.new a7) N;exists _,rfl,p,_,_,_,rfl,rfl,SqT.of<|L _ _ aZ hp,rfl,kt,rfl,⟨_,SqT.of<|L _ _ aZ T⟩;refine lC (xs:=us.map V.ref) (λi=>OJ K H p fl (dP (ks.take i) l)<|1+80*i) ⟨_,_,_,_,_,_,_,[pt],rfl,L,zb1,.cons ⟨am,(Tup.new N) _ _ zb1,.inr hM⟩ .nil,aY _⟩ ?_ ?_ ?_
 .rintro i σ W hi ⟨_,_,_,_,_,_,_,_,_,fr,_⟩;exact SqT.of<|fr _ _ aZ T
 .rintro i x σ W G ⟨_,_,_,_,_,_,_,qs,rfl,fr,M,a,B⟩;rw[bZ,wt0]at G;obtain⟨u,Y,rfl⟩:=G;have hi:i<↑ks:=by rw[<-a0];exact(wr1.mp Y).1
  have hy:ks[i]?=some ks[i]:=bH hi;obtain⟨e,X,ds,Z,d2,O,d4,d5⟩:=aa i u _ Y hy;have eL:dP (ks.take<|i+1) l=dP (ks.take i) l++jJ ks[i]:=by
   unfold dP;rw[fE,hy,List.flatMap_append,List.cons_append];simp
  rw[eL];generalize ks[i]=y at Z O d4;exists u,_,rfl,SqT.of<|fr _ _ aZ Z,rfl,_,_,rfl,_,_,rfl,_,_,rfl,rfl;exists _,rfl,X,rfl,⟨_,SqT.of<|fr _ _ aZ d2⟩;refine lC (xs:=ds.map V.ref) (λj=>MR K H p fl y.1 e X (dP (ks.take i) l++(jJ y).take j)<|1+80*i+j) ⟨_,_,_,_,qs,rfl,fr,M,by rw[List.take_zero,fO];exact a,B⟩ ?_ ?_ ?_
  .rintro j σ C hj ⟨_,_,_,_,_,_,d,_⟩;exact SqT.of<|d _ _ aZ d2
  .rintro j x σ C G ⟨_,_,_,_,qs,rfl,d,I,a,B⟩;rw[bZ,wt0]at G;obtain⟨g,hg,rfl⟩:=G;have hj:j<↑y.2:=by rw[<-O];exact(wr1.mp hg).1
   have hz:y.2[j]?=some y.2[j]:=bH hj;obtain⟨ae,ab,g1,_,g2⟩:=d4 j g _ hg hz;have eD:(jJ y).take (j+1)=(jJ y).take j++[((y.1,y.2[j].1),y.2[j])]:=by
    have:(jJ y)[j]?=some ((y.1,y.2[j].1),y.2[j]):=by unfold jJ;rw[bZ,hz];rfl
    rw[fE,this];rfl
   rw[eD,<-jG];generalize y.2[j]=z at g1 g2;exists g,_,rfl,SqT.of<|d _ _ aZ g1,rfl,_,_,rfl,_,_,rfl,_,_,rfl,_,_,rfl,rfl;refine⟨_,rfl,.inl ⟨rfl,_,SqL.of I⟩,_,rfl,_,rfl,s2,λm a8=>⟨_,rfl,s2,λr J=>?_⟩⟩;have tn:=(Tup.new (o:=.tup [V.str y.1,V.str z.1]) a8).trans<|Tup.new (o:=.tup [.ref m,.ref z.2.1]) J;have f2:FrS [] C (upd (upd C m<|.tup [V.str y.1,V.str z.1]) r<|.tup [.ref m,.ref z.2.1]):=(FrS.new a8).trans<|FrS.new J;have a6:=f2 _ _ aZ I;have tl:Tup _ (upd (upd (upd C m<|.tup [V.str y.1,V.str z.1]) r<|.tup [.ref m,.ref z.2.1]) fl<|.lst<|(qs++[r]).map V.ref):=Tup.lst a6;exists fl,_,_,rfl,rfl,a6,bO (by rw[aI];lia);rw[show qs.map V.ref++[V.ref r]=(qs++[r]).map V.ref by rw[bX];rfl];exact⟨_,_,_,_,qs++[r],rfl,(d.trans f2).put a5,zb1,(a.bkeep<|tn.trans tl).snoc ⟨m,tl _ _ zb1,.inl<|((Tup.new J).trans tl) _ _ zb1⟩,by rw[bJ,dQ];lia⟩
  .rintro σ C ⟨_,_,_,_,qs,rfl,d,I,a,B⟩;have el:(jJ y).take ↑(ds.map V.ref)=jJ y:=eM (by unfold jJ;rw[aI,aI];lia);rw[el]at a;rw[aI]at B;exact⟨_,_,_,_,_,_,_,qs,rfl,d,I,a,by lia⟩
 .rintro σ W ⟨_,_,_,_,_,_,_,qs,rfl,fr,M,a,B⟩;rw[aI,a0]at a B;rw[eM<|aY _]at a;refine⟨_,rfl,fl,_,rfl,.inl ⟨SqL.of M,λb hb=>?_⟩⟩;exact q b qs _ (fr.trans<|FrS.new hb) zb1 (a.bkeep<|Tup.new hb) (by lia)
abbrev IP:Stmt:=top 3
abbrev KH:Stmt:=top 4
abbrev IQ:Stmt:=top 5
abbrev EU:Stmt:=top 9
abbrev FL:Stmt:=top 10
def UW:Option Addr->V
 | none=>.non
 | some g=>.ref g
def NK{α:Type}{l:List α}{j:Nat}{x:α}(h:l[j]?=some x):l.take j++x::l.drop (j+1)=l:=by
 obtain⟨a,rfl⟩:=wr1.mp h;rw[<-BM a,List.take_append_drop]
def SJ{α:Type}{l:List α}{p:α->Bool}{j:Nat}{x:α}(h:(l.take j).find? p=none)(a:l[j]?=some x)(hp:p x=true):l.find? p=some x:=by
 have e:=NK a;rw[<-e,List.find?_append,h,kN,hp];rfl
def LV{α:Type}{l:List α}{p:α->Bool}{j:Nat}{x:α}(h:(l.take j).find? p=none)(a:l[j]?=some x)(hp:p x=false):(l.take<|j+1).find? p=none:=by
 rw[fE,a,List.find?_append,h];show none.or (List.find? p [x])=none;rw[kN,hp];rfl
def LZ{a:Kq}{i:Nat}{n d:Str}{z:Str×Option Str×List (Str×Addr)}(h:eV (a.take i) n d=none)(hz:a[i]?=some z)(b:(if z.1=n then(z.2.2.find? λe=>decide<|e.1=d).map (·.2) else none)=none):eV (a.take<|i+1) n d=none:=by
 unfold eV at *;rw[fE,hz,List.findSome?_append,h];show none.or (List.findSome? _ [z])=none;rw[CL,b];rfl
def Ak{a:Kq}{i:Nat}{n d:Str}{g:Addr}{z:Str×Option Str×List (Str×Addr)}(h:eV (a.take i) n d=none)(hz:a[i]?=some z)(b:(if z.1=n then(z.2.2.find? λe=>decide<|e.1=d).map (·.2) else none)=some g):eV a n d=some g:=by
 have e:=NK hz;unfold eV at *;rw[<-e,List.findSome?_append,h,CL,b];rfl
inductive ZR(vs:List V)(H:Hp)(Q:VK):Prop
 | mk(p:Addr)(n d:Str)(kq:Kq)(h1:vs=[.ref p,.str n,.str d])(h2:DeedsQ H p kq)(h3:Q (UW<|eV kq n d) H)
def EA:Sp:=λvs H Q _=>ZR vs H Q
inductive UZ(H:Hp)(p:Addr)(n d:Str)(kq:Kq)(i:Nat)(σ:St)(Hx:Hp):Prop
 | mk(a b c e:Option V)(h1:Hx=H)(h2:σ=[some<|.ref p,some<|.str n,some<|.str d,a,b,c,e])(h3:eV (kq.take i) n d=none)
inductive VG(H:Hp)(p dt:Addr)(n d m:Str)(v:V)(ds:List (Str×Addr))(j:Nat)(σ:St)(Hx:Hp):Prop
 | mk(e:Option V)(h1:Hx=H)(h2:σ=[some<|.ref p,some<|.str n,some<|.str d,some<|.str m,some v,some<|.ref dt,e])(h3:(ds.take j).find? (λe=>decide<|e.1=d)=none)
inductive pC(vs:List V)(H:Hp)(Q:VK):Prop
 | mk(p:Addr)(n d:Str)(kq:Kq)(tr:Tr)(l:List Str)(h1:vs=[.ref p,.str n,.str d])(h2:DeedsQ H p kq)(h3:KindsAt H p tr)(h4:TrOk tr)(h5:↑tr<=12)(h6:Up tr n l)(h7:∀(H':Hp),FrS [] H H'->Q (aS<|dH kq d l) H')
def sX:Sp:=λvs H Q _=>pC vs H Q
inductive pF(vs:List V)(H:Hp)(Q:VK):Prop
 | mk(p:Addr)(n d:Str)(kq:Kq)(tr:Tr)(l:List Str)(h1:vs=[.ref p,.str n,.str d])(h2:DeedsQ H p kq)(h3:KindsAt H p tr)(h4:TrOk tr)(h5:↑tr<=12)(h6:Up tr n l)(h7:∀(H':Hp),FrS [] H H'->Q (.int<|iS kq d l) H')
def vR:Sp:=λvs H Q _=>pF vs H Q
def iL(K:Fq)(sp:Sp):Sp:=λvs H Q E=>∃p fm k d,vs=[p,.ref fm,k,d]/\SqT K H fm [.str "plain"]/\sp [p,k,d] H Q E
inductive WN(H:Hp)(p:Addr)(n d:Str)(kq:Kq)(l:List Str)(i:Nat)(σ:St)(Hx:Hp):Prop
 | mk(e:Option V)(h1:Hx=H)(h2:σ=[some<|.ref p,some<|.str n,some<|.str d,e])(h3:(l.take i).find? (λx=>(eV kq x d).isSome)=none)
def zr6:bY ["program","kind","deed","name","elder","deeds","found"] qI (bP IP):=cE
def XL(F:Fun K "deed_of" "deed_of" IP f fd):aQ P w K mg base bQ (k+1) f fd qI EA:=by
 refine F.ok zr6 (λvs H Q E h=>?_) λa6 A outer s H vs Q E hr h=>?_
 .obtain⟨p,n,d,kd,rfl,_⟩:=h;rfl
 obtain⟨p,n,d,l,rfl,⟨M,ts,x,y,hp,G,J,X⟩,q⟩:=h;exists _,aG (eC dW rfl (iC<|eT (pv 0) aN) (dS (n:=3) rfl<|bI (gL 3 zr6.nd)<|bI (gL 4 zr6.nd)<|bI (gL 5 zr6.nd) dV)<|aV<|cK (cA fK (pv 3) (pv 1)<|cF _) (aV<|eC dW rfl (iC<|pv 5) (gL 6 zr6.nd)<|aV<|cK (cA fK (eT (pv 6) aN) (pv 2)<|cF _) (aV<|bL<|pv 6) cO) cO)
  (aV<|bL gH)
 ac_rfl
 exists _,rfl,p,_,_,_,rfl,rfl,SqT.of hp,rfl,M,rfl,⟨_,SqT.of G⟩;refine lC (xs:=ts.map V.ref) (UZ H p n d l) ⟨_,_,_,_,rfl,rfl,rfl⟩ (λi σ r _ h=>by obtain⟨_,_,_,_,rfl,_⟩:=h;exact SqT.of G) ?_ ?_
 .rintro i x σ r m ⟨Y,N,T,W,rfl,rfl,a⟩;rw[bZ,wt0]at m;obtain⟨t,L,rfl⟩:=m;have hi:i<↑l:=by rw[<-J];exact(wr1.mp L).1
  have hz:l[i]?=some l[i]:=bH hi;obtain⟨I,h1,h2,C⟩:=X i t _ L hz;generalize l[i]=z at hz h1 h2 C;exists t,_,rfl,SqT.of h1,rfl,_,_,rfl,_,_,rfl,_,_,rfl,rfl;exists _,rfl,_,rfl,rfl,_,rfl;refine bB (λc=>?_) λc=>?_
  .have en:z.1=n:=V.str.inj<|cS c;exists _,rfl,I,rfl,⟨_,SqT.of h2⟩;refine lC (xs:=z.2.2.map λd=>V.ref d.2) (VG r p I n d z.1 (aS z.2.1) z.2.2) ⟨_,rfl,rfl,rfl⟩ (λj σ B _ h=>by obtain⟨_,rfl,_⟩:=h;exact SqT.of h2) ?_ ?_
   .rintro j x σ B m ⟨Z,rfl,rfl,b⟩;rw[bZ,wt0]at m;obtain⟨g,u,rfl⟩:=m;obtain⟨rest,O⟩:=C g<|dC u;exists _,rfl,g.2,_,_,.str g.1,rfl,rfl,SqT.of O,wJ _ _,_,rfl,rfl,_,rfl;refine bB (λc=>?_) λc=>?_
    .have o:g.1=d:=V.str.inj<|cS c;have:z.2.2.find? (λe=>decide<|e.1=d)=some g:=SJ b u<|eE o;rw[Ak a hz (g:=g.2)<|by rw[bE en,this];rfl]at q;exact⟨_,rfl,q⟩
    .have o:g.1≠d:=λz=>c (eE<|by rw[z])
     exact⟨_,rfl,rfl,LV b u<|gA o⟩
   .rintro σ B ⟨Z,rfl,rfl,b⟩;rw[aI,eM<|aY _]at b;exact⟨_,_,_,_,rfl,rfl,LZ a hz<|by rw[bE en,b];rfl⟩
  .have en:z.1≠n:=λe=>c (eE<|by rw[e])
   exact⟨_,_,_,_,rfl,rfl,LZ a hz<|bD en⟩
 .rintro σ r ⟨Y,N,T,W,rfl,rfl,a⟩;rw[aI,J,eM<|aY _]at a;rw[a]at q;exact q
def yv2:bY ["program","kind","deed","name"] qI (bP KH):=cE
def WU{k:Nat}(F:Fun K "answer" "answer" KH f fd)(T:aR P w K mg base k "elders" ["program","kind"] uT)(C:aR P w K mg base k "deed_of" qI EA)(B:mg "reversed"=none):aQ P w K mg base bQ (k+1) f fd qI sX:=by
 refine F.ok yv2 (λvs H Q E h=>?_) λO A outer s H vs Q E hr h=>?_
 .obtain⟨p,n,d,j,tr,l,rfl,_⟩:=h;rfl
 obtain⟨p,n,d,j,tr,l,rfl,M,G,ok,I,L,q⟩:=h;exists _,aG (eC dW rfl (OF rfl B<|aA (bC T hr rfl<|aA (pv 0)<|aA (pv 1) aE) aE) (gL 3 yv2.nd)<|aV<|cK (jI<|uR<|bC C hr rfl<|aA (pv 0)<|aA (pv 3)<|aA (pv 2) aE) (aV<|bL<|pv 3) cO)
  (aV<|bL gH)
 ac_rfl
 refine⟨_,rfl,_,rfl,p,n,tr,l,rfl,G,ok,I,L,λa H' fr N o=>?_⟩;exists a,_,rfl,SqT.of o;refine NU (xs:=l.reverse.map V.str) (WN H' p n d j l) ⟨_,rfl,rfl,rfl⟩ (λi σ r _ h=>by obtain⟨_,rfl,_⟩:=h;exact SqT.of o) ?_ ?_
 .rintro i x σ r u ⟨J,rfl,rfl,m⟩;rw[<-List.map_reverse,List.reverse_reverse,bZ,wt0]at u;obtain⟨z,hz,rfl⟩:=u;exists _,rfl,_,rfl,_,rfl,p,z,d,j,rfl,M.keep<|Tup.of0 fr;have b:=q _ fr;cases e:eV j z d with
  | some g=>
   have:dH j d l=some z:=SJ m hz (by rw[e];rfl);rw[this]at b;exact⟨_,rfl,iV ⟨_,rfl,b⟩⟩
  | none=>
   exact⟨_,rfl,cP ⟨_,rfl,rfl,LV m hz<|by rw[e];rfl⟩⟩
 .rintro σ r ⟨J,rfl,rfl,m⟩;rw[aI,iE,eM<|aY _]at m;have b:=q _ fr;unfold dH at b;rw[m]at b;exact b
def yr3:bY ["program","kind","deed","line","found"] qI (bP IQ):=cE
def XT(h:dH kq d l=some z):z∈l:=qM h
def YV{k:Nat}(F:Fun K "asked" "asked" IQ f fd)(T:aR P w K mg base k "elders" ["program","kind"] uT)(TA:aR P w K mg base k "answer" qI sX)(u:mg "len"=none):aQ P w K mg base bQ (k+1) f fd qI vR:=by
 refine F.ok yr3 (λvs H Q E h=>?_) λJ A outer s H vs Q E hr h=>?_
 .obtain⟨p,n,d,j,tr,l,rfl,_⟩:=h;rfl
 obtain⟨p,n,d,j,tr,l,rfl,I,r,ok,B,o,q⟩:=h;exists _,aG (sL 3 yr3.nd<|bC T hr rfl<|aA (pv 0)<|aA (pv 1) aE)
  (aG (sL 4 yr3.nd<|bC TA hr rfl<|aA (pv 0)<|aA (pv 1)<|aA (pv 2) aE)<|aG (cK (jI<|pY<|pv 4) (aV<|bL<|eR gK rfl u gB<|aA (pv 3) aE) cO)<|aV<|bL<|cB lO (eR gK rfl u gB<|aA (pv 3) aE)<|tQ (pv 3) (pv 4) ⟨rfl,rfl,rfl,rfl⟩)
 ac_rfl
 refine⟨_,rfl,_,rfl,p,n,tr,l,rfl,r,ok,B,o,λa H1 m _ C=>?_⟩;refine⟨_,rfl,_,rfl,_,rfl,p,n,d,j,tr,l,rfl,I.keep<|Tup.of0 m,r.keepT<|Tup.of0 m,ok,B,o,λH2 x=>?_⟩;have b:=q _<|m.trans x;have i:=x _ _ aZ C;unfold iS at b;cases e:dH j d l with
 | none=>
  rw[e]at b;refine⟨_,rfl,_,rfl,iV ⟨_,rfl,a,_,rfl,.inr<|SqT.of i,?_⟩⟩;rw[aI,iE];exact b
 | some z=>
  rw[e]at b;have G:gU (.str z) (l.reverse.map V.str)=true:=by rw[kU,decide_eq_true_iff,vg6];exact XT e
  refine⟨_,rfl,_,rfl,cP ⟨_,rfl,a,_,rfl,.inr<|SqT.of i,_,rfl,a,_,rfl,.inl i,_,rfl,rfl,.inl i,jS _,G,_,_,rfl,rfl,?_⟩⟩;rw[aI,iE];exact b
abbrev lW:List Str:=["program","form","kind","deed"]
def Ce:bY lW lW (bP EU):=cE
def xW{k:Nat}(F:Fun K "found_by" "found_by" EU f fd)(TA:aR P w K mg base k "answer" qI sX):aQ P w K mg base bQ (k+1) f fd lW (iL K sX):=by
 refine F.ok Ce (λvs H Q E h=>?_) λe A outer s H vs Q E hr h=>?_
 .obtain⟨p,a,k,d,rfl,_⟩:=h;rfl
 obtain⟨p,a,k,d,rfl,b,h⟩:=h;exists _,aG (cK (cA fK (eT (pv 1) aN) bR<|cF _) (aV uX) cO)
  (aG (cK (cA fK (eT (pv 1) aN) bR<|cF _) (aV uX) cO)<|aV<|bL<|bC TA hr rfl<|aA (pv 0)<|aA (pv 2)<|aA (pv 3) aE)
 ac_rfl
 refine⟨_,rfl,a,_,_,_,rfl,rfl,b,rfl,rfl,_,rfl,bB (λc=>absurd c<|by rfl') λ_=>?_⟩;exact⟨_,rfl,a,_,_,_,rfl,rfl,b,rfl,rfl,_,rfl,bB (λc=>absurd c<|by rfl') λ_=>⟨_,rfl,_,rfl,_,rfl,h⟩⟩
def ZI:bY ["program","form","kind","deed","order"] lW (bP FL):=cE
def zV{k:Nat}(F:Fun K "cost_by" "cost_by" FL f fd)(TA:aR P w K mg base k "asked" qI vR):aQ P w K mg base bQ (k+1) f fd lW (iL K vR):=by
 refine F.ok ZI (λvs H Q E h=>?_) λe A outer s H vs Q E hr h=>?_
 .obtain⟨p,a,k,d,rfl,_⟩:=h;rfl
 obtain⟨p,a,k,d,rfl,b,h⟩:=h;exists _,aG (cK (cA fK (eT (pv 1) aN) bR<|cF _) (aV uX) cO)
  (aG (cK (cA fK (eT (pv 1) aN) bR<|cF _) (aG uX<|aV uX) cO)<|aV<|bL<|bC TA hr rfl<|aA (pv 0)<|aA (pv 2)<|aA (pv 3) aE)
 ac_rfl
 refine⟨_,rfl,a,_,_,_,rfl,rfl,b,rfl,rfl,_,rfl,bB (λc=>absurd c<|by rfl') λ_=>?_⟩;exact⟨_,rfl,a,_,_,_,rfl,rfl,b,rfl,rfl,_,rfl,bB (λc=>absurd c<|by rfl') λ_=>⟨_,rfl,_,rfl,_,rfl,h⟩⟩
abbrev IB:Stmt:=top 40
abbrev HC:Stmt:=top 39
def WB{K:Fq}{pt:Hp->Addr->V->V->(Hp->Prop)->Prop}{p:Bool}{a b D:Addr}{xs ys:List V}{g:TG}{tt:TT}{tk te:TE}{σ0:St}{H0:Hp}{Q:Hp->Prop}(d:Nat->St->Hp->Prop)(h0:d 0 σ0 H0)(hl:∀i σ H,d i σ H->hJ K p H a xs/\hJ K p H b ys)
  (hs:∀i x y T σ H,xs[i]?=some x->ys[i]?=some y->d i σ H->H T=none->g (.ref T) σ (upd H T<|.tup [x,y]) λσ2 H2=>tt σ2 H2 λb H3=>if b=true then tk σ2 H3 λj r=>te σ2 r λv s=>pt s D j v λn=>d (i+1) σ2 n else d (i+1) σ2 H3) (hd:∀i σ H,i=min ↑xs ↑ys->d i σ H->Q H):xO pt (vV K p p a b) g tt tk te D σ0 H0 Q:=by
 exists λi m σ H=>m=min ↑xs ↑ys-i/\i<=min ↑xs ↑ys/\d i σ H,⟨_,rfl,bT _,h0⟩;rintro i m σ H ⟨rfl,hi,q⟩;obtain⟨f,h⟩:=hl i σ H q
 by_cases o:i<min ↑xs ↑ys
 .have h1:i<↑xs:=by lia
  have h2:i<↑ys:=by lia
  refine .inr ⟨⟨xs,ys,_,_,f,h,bH h1,bH h2⟩,d<|i+1,λσ' H' w=>⟨_,by(clear hi;lia),rfl,o,w⟩,?_⟩;rintro x H' ⟨T,u,v,A,rfl,rfl,z,l⟩;exact hs i u v T σ H (z xs f) (l ys h) q A
 .have e:i=min ↑xs ↑ys:=by lia
  exact .inl ⟨⟨xs,ys,f,h,by lia⟩,hd i σ H e q⟩
def SH{Q:St->Hp->Prop}{σ σ':St}{H:Hp}{i:Nat}{v:V}(e:σ.set i (some v)=σ')(h:Q σ' H):cG i v σ H Q:=by show Q _ _;rw[e];exact h
def AI{Y:Ry}{R:Rx Y}{Q:St->Hp->Prop}{σ:St}{H H':Hp}(g:RunAt R H' rn A S dn)(h:Q σ H')(e:H=H':=by rfl):Q σ H:=by rw[e];exact h
inductive LG(Y:Ry)(vs:List V)(H:Hp)(Q:VK):Prop
 | mk(R:Rx Y)(rn u t:Addr)(A:Ra)(S:Rs)(dn n m j:Nat)(a:Addr)(x y k d:Str)(as:List Str)(h1:vs=[.ref rn,.ref u,.ref t])(h2:RunAt R H rn A S dn)(h3:DuAt Y.C R.Z A.δ H (.call n a x y k d as m) u)(h5:Bd R.G S)(h6:jT R)(hj:j<S.ts.length)(ht:cV A.θ (.int j)=.ref t)(hk:k∈R.G.ln (S.kind j))(h7:∀A' H',RunAt R H' rn A' (uJ R.G S n m x d as j) dn->Im Y.C H H'->Q .non H')
def rC(Y:Ry):Sp:=λvs H Q _=>LG Y vs H Q
def pE(S:Rs)(m:Nat)(l:List (Str×Str)):List (aJ×V):=l.foldl (λd z=>aO d (Sum.inr z.1)<|S.get m z.2) []
theorem MA{S:Rs}{m n:Nat}(h:∀x,VOk n<|S.get m x):∀(l:List (Str×Str))(d:List (aJ×V)),(∀z∈d,VOk n z.2)->∀z∈l.foldl (λd z=>aO d (Sum.inr z.1)<|S.get m z.2) d,VOk n z.2
 | [],d,hd=>hd
 | y::l,d,hd=>MA h l _<|LF hd<|h y.2
theorem DT{S:Rs}{m:Nat}:∀(l:List (Str×Str))(d:List (aJ×V)),↑(l.foldl (λd z=>aO d (Sum.inr z.1)<|S.get m z.2) d)<=↑d+↑l
 | [],d=>aY _
 | y::l,d=>by
  have h1:=DT (S:=S) (m:=m) l<|aO d (Sum.inr y.1)<|S.get m y.2;have h2:=jF d (Sum.inr y.1)<|S.get m y.2;rw[vJ,cL];lia
def tF{S:Rs}{m:Nat}(θ:List Addr)(l:List (Str×Str))(z:Str×Str):aO (cD θ<|pE S m l) (Sum.inr z.1) (cV θ<|S.get m z.2)=cD θ (pE S m<|l++[z]):=by
 rw[HR];unfold pE;rw[DY];rfl
inductive FS{Y:Ry}(R:Rx Y)(H:Hp)(D u:Addr)(θ:List Addr)(S:Rs)(m:Nat)(l:List (Str×Str))(i:Nat)(σ:St)(Hx:Hp):Prop
 | mk(x y:Option V)(h1:σ=[x,y,some<|.ref u])(h2:FrS [] H Hx)(h3:Hx D=some (.dK<|cD θ<|pE S m<|l.take i))
abbrev BJ:List Str:=["run","due","thing"]
abbrev TY:List Str:=["run","due","thing","word","x","y","kind","deed","args","form","found","name","params","rows","gives","names"]
section
variable{Y:Ry}{mg:Str->Option Value}{base:Heap}{f:Addr}{fd:FuncData}
def zh9:bY TY BJ (bP IB):=cE
def Ab{k:Nat}(F:Fun Y.K "start_call" "start_call" IB f fd)(Z:cT Y.K Y.C)(FB:aR Y.pr Y.w Y.K mg base (k+1) "found_by" lW (iL Y.K sX))(CB:aR Y.pr Y.w Y.K mg base (k+1) "cost_by" lW (iL Y.K vR))(DE:aR Y.pr Y.w Y.K mg base (k+1) "deed_of" qI EA)(AD:aR Y.pr Y.w Y.K mg base (k+1) "add_due" hH (uN Y))(M:fX Y mg base k "Due" Y.C.du hX (wZ Y.C.du))
  (mz:mg "zip"=none) (mP:mg "PLAIN"=some (.ref ap)) (hP:∀H,SqT Y.K H ap [.str "plain"]) (mO:∃tk,mg "OWN"=some (.str "own" tk)) (mB:∃tk,mg "BACK"=some (.str "back" tk)):aQ Y.pr Y.w Y.K mg base bQ (k+2) f fd BJ (rC Y):=by
 refine F.ok zh9 (λvs H Q E h=>?_) λbe A outer s H vs Q E hr h=>?_
 .obtain⟨R,rn,u,t,A,S,dn,n,m,j,a,x,y,k,d,as,rfl,_⟩:=h;rfl
 obtain⟨R,rn,u,t,A,S,dn,n,m,j,a,x,y,kd,d,as,rfl,h,hd,hb,⟨tr,kq,hp⟩,hj,ac,b3,q⟩:=h;obtain⟨tO,mO⟩:=mO;obtain⟨tB,mB⟩:=mB;have hu:=eU hr;have ak:(["param","arg","due"]:List Str).Nodup:=by rfl'
 exists _,aG (gP (bU Z.d<|pv 1)<|dS (n:=6) rfl<|bI (gL 3 zh9.nd)<|bI (gL 4 zh9.nd)<|bI (gL 5 zh9.nd)<|bI (gL 6 zh9.nd)<|bI (gL 7 zh9.nd)<|bI (gL 8 zh9.nd) dV)
  (aG (sL 9 zh9.nd<|SS hu (bU Z.r<|pv 0) (bU Z.d<|pv 1) (kO (v:=.ref ap) rfl mP rfl) ⟨rfl,rfl,rfl,rfl⟩)<|aG (sL 10 zh9.nd<|bC FB hr rfl<|aA (bU Z.r<|pv 0)<|aA (pv 9)<|aA (bU Z.t<|pv 2)<|aA (pv 7) aE)<|aG (gP (bC DE hr rfl<|aA (bU Z.r<|pv 0)<|aA (pv 10)<|aA (pv 7) aE)<|dS (n:=4) rfl<|bI (gL 11 zh9.nd)<|bI (gL 12 zh9.nd)<|bI (gL 13 zh9.nd)<|bI (gL 14 zh9.nd) dV)<|aG (SF (hp:=ET) (i:=15) (N':=["param","arg","due"]) (src:=[none,none,some 1]) rfl zh9.nd rfl rfl fH (SN (p:=true) rfl mz<|aA (pv 12)<|aA (pv 8) aE) (g:=eN Y.K 2<|eJ (cG 0)<|eJ (cG 1) eK) (λ_ _ _ _=>dS (n:=2) rfl<|bI (gL 0 ak)<|bI (gL 1 ak) dV) (λ_ _ _ _=>gT) (λ_ _ _ _=>pv 0) (te:=OU (SZ Y.C.du "names"<|aL 2)<|aL 1) λ_ _ _ _=>iT hu (bU Z.d<|pv 2) (pv 1) ⟨rfl,rfl,rfl,rfl⟩)<|aG (hB hu (pv 15) (kO (v:=.str "own") rfl mO ⟨_,rfl⟩) (pv 2) rfl)<|aG (dZ<|fI eX fQ fV fL (bU Z.r<|pv 0)<|aA (cX<|aA bR<|aA (bU Z.d<|pv 1)<|aA (bU Z.t<|pv 2)<|aA (pv 10) aE) aE)<|aG (AO (g:=λi j=>i+j) Z.r (pv 0) (bC CB hr rfl<|aA (bU Z.r<|pv 0)<|aA (pv 9)<|aA (bU Z.t<|pv 2)<|aA (pv 7) aE) CJ)<|aG (AO (g:=λi j=>i+j) Z.r (pv 0) aN CJ)<|aG (dZ<|fI eX fQ fV fL (bU Z.r<|pv 0)<|aA (DO M QB hr rfl<|aA gH<|aA (cX<|aA (kO (v:=.str "back") rfl mB ⟨_,rfl⟩)<|aA (pv 4)<|aA (pv 14)<|aA (pv 15) aE)<|aA (cX aE)<|aA (bU Z.d<|pv 1) aE) aE)<|aV<|dZ<|bC AD hr rfl<|aA (pv 0)<|aA (nE hu (bU Z.r<|pv 0) (cX<|aA (pv 10)<|aA (pv 7) aE) λ_ _=>rfl)<|aA (pv 15) aE)
 ac_rfl
 cases hd with
 | @call _ _ _ _ p dx na g _ _ _ _ _ hu' hm hr' hg hal hz=>
  obtain⟨t',dt,bt,L,ht,bb⟩:=h.thing hj;rw[ac]at L;cases L;have ab:S.kind j∈R.G.nm:=by
   unfold Rs.kind;have:S.ts.getD (j:Int).toNat ("",0)=S.ts[j]:=by show S.ts.getD j _=_;rw[fR,bH hj];rfl
   rw[this];exact hb.ts _<|gW hj
  obtain⟨dg,pt,dv,c1,c2,c3,c4,c5,c6,c7,c8⟩:=hp.ca kd d hz _ ab b3;have k0:FrS [] R.H0 H:=λb o _ e=>h.kp b o e;exists _,rfl,u,_,_,_,rfl,hu',rfl,a,_,rfl,SqT.of hr',rfl,_,_,rfl,_,_,rfl,_,_,rfl,_,_,rfl,_,_,rfl,_,_,rfl,rfl;exists _,rfl,rn,_,_,_,rfl,h.run,rfl,A.fo,rfl,.inl ⟨_,.inl h.fo⟩,_,rfl,u,_,_,_,rfl,hu',rfl,_,DGet.k (k:=(Sum.inl (n:Int):aJ)) h.fo;refine⟨_,rfl,rn,_,_,_,rfl,h.run,rfl,_,rfl,_,rfl,t,_,_,_,rfl,ht,rfl,_,rfl,_,ap,_,_,rfl,hP _,R.pg,S.kind j,d,kq,tr,_,rfl,hp.dq.keep<|Tup.of0 k0,hp.kn.keepT<|Tup.of0 k0,hp.ok,hp.l12,hp.ln _ ab,λH1 f1=>?_⟩;rw[c1];have g1:=h.keep0 f1;have k1:=k0.trans f1;have t1:=Tup.of0 f1;have i1:Im Y.C H H1:=λb o e _=>f1 b o aZ e;have ar:=i1 _ _ hu' Y.nd;exists _,rfl,rn,_,_,_,rfl,g1.run,rfl,_,rfl,_,rfl,R.pg,R.G.an (S.kind j) d,d,kq,rfl,hp.dq.keep<|Tup.of0 k1;rw[c2];exists dg,_,rfl,SqT.of<|k1 _ _ aZ c3,rfl,_,_,rfl,_,_,rfl,_,_,rfl,_,_,rfl,rfl;generalize hF:R.G.an (S.kind j) d=F at c1 c2 c3 c4 c5 c7 c8;have ax:=(h.dict hm).1;have ah:=k1 _ _ aZ c4;have aj:=t1 _ _ hg;refine⟨_,rfl,_,rfl,pt,g,_,_,rfl,SqT.of ah,SqT.of aj,λD hD=>?_⟩;have bc:↑((R.G.ps F d).zip as)<=1000:=by rw[vH];lia
  have b0:∀x,VOk S.ts.length (S.get m x):=λx=>h.got hm x;refine WB (p:=true) (xs:=(R.G.ps F d).map V.str) (ys:=as.map V.str) (FS R H1 D u A.θ S m<|(R.G.ps F d).zip as) ⟨_,_,rfl,FrS.new hD,zb1⟩ ?_ ?_ ?_
  .rintro i σ W ⟨_,_,_,N,_⟩;exact⟨SqT.of<|N _ _ aZ ah,SqT.of<|N _ _ aZ aj⟩
  .rintro i v1 v2 T σ W L e2 ⟨_,_,rfl,N,P⟩ hT;rw[bZ,wt0]at L e2;obtain⟨x1,L,rfl⟩:=L;obtain⟨X,e2,rfl⟩:=e2;have fT:=N.trans<|FrS.new (o:=.tup [.str x1,.str X]) hT;have ez:((R.G.ps F d).zip as)[i]?=some (x1,X):=by rw[DB];exact⟨L,e2⟩
   have ag:=fT _ _ aZ<|f1 _ _ aZ ax;exists T,_,rfl,SqT.of zb1,rfl,_,_,rfl,_,_,rfl,rfl;have hl:=DT (S:=S) (m:=m) (((R.G.ps F d).zip as).take i) [];rw[eS,iD]at hl;exists _,rfl,_,rfl,u,_,_,_,rfl,fT _ _ aZ ar,rfl,na,rfl,.inl ⟨_,.inl ag⟩,_,rfl,_,DGet.k (k:=(Sum.inr X:aJ)) ag,_,Sum.inr x1,rfl,(aC<|bA P hT).trans P,bO (by unfold cD pE;rw[aI];lia),_,_,rfl,fT.put hD;rw[zb1,mN];show some (HO.dK<|aO (cD A.θ _) _<|cV A.θ<|S.get m X)=_;rw[fE,ez];exact cM (λz=>some<|HO.dK z)<|tF A.θ _ (x1,X)
  .rintro i σ W hi ⟨_,_,rfl,N,P⟩;rw[aI,aI,<-vH]at hi;rw[hi,eM<|aY _]at P;have hl:=DT (S:=S) (m:=m) ((R.G.ps F d).zip as) [];rw[iD]at hl;refine SH (σ':=[some<|.ref rn,some<|.ref u,some<|.ref t,some<|.str "call",some<|.str x,some<|.str y,some<|.str kd,some<|.str d,some<|.ref g,some<|.ref ap,some<|.str F,some<|.str d,some<|.ref pt,some dv,some<|aS<|R.G.gv F d,some<|.ref D]) rfl ?_;exists _,rfl,_,rfl,D,_,rfl,DPut.k (k:=(Sum.inr "own":aJ)) P (lR<|by unfold cD pE;rw[aI];lia);have ec:aO (cD A.θ<|pE S m<|(R.G.ps F d).zip as) (Sum.inr "own") (.ref t)=cD A.θ (tV S m (R.G.ps F d) as j):=by
    rw[<-ac,HR];rfl
   rw[ec];have f3:FrS [] H1 (upd W D<|.dK<|cD A.θ<|tV S m (R.G.ps F d) as j):=N.put hD;have g3:=g1.dic2 hD f3 zb1<|LF (MA b0 _ _ λz hz=>nomatch hz)<|.inr ⟨j,rfl,hj⟩;have i3:Im Y.C H (upd W D<|.dK<|cD A.θ<|tV S m (R.G.ps F d) as j):=i1.trans λb o e _=>f3 b o aZ e;generalize upd W D (.dK<|cD A.θ<|tV S m (R.G.ps F d) as j)=H3 at g3 i3 f3;have k3:=k1.trans f3;have ay:=i3 _ _ hu' Y.nd;have b1:=i3 _ _ ht Y.nt;refine⟨_,rfl,rn,_,_,_,rfl,g3.run,rfl,.inl ⟨rfl,_,SqL.of g3.lo⟩,_,rfl,u,_,_,_,rfl,ay,rfl,_,rfl,t,_,_,_,rfl,b1,rfl,_,rfl,dM<|bO (by show 4<=_;decide),λtl am=>?_⟩;have g4:=g3.keep0<|FrS.new (o:=.tup [.str "did",.int n,.str<|S.kind j,.str F]) am;have O:=g4.say zb1;have ba:=hb.lg;exists _,_,_,rfl,rfl,g4.lo,lR (by rw[aI,<-g4.im.lg.len];show S.lg.length<=_;lia);have k5:FrS [] R.H0 _:=λb o _ e=>O.1.kp b o e;have i5:=(i3.trans<|Im.new (o:=.tup [.str "did",.int n,.str<|S.kind j,.str F]) am).trans O.2;generalize upd (upd H3 tl<|.tup [.str "did",.int n,.str<|S.kind j,.str F]) (A.dic D).lo (.lst<|(A.dic D).ls.map V.ref++[.ref tl])=H5 at O k5 i5;have av:=i5 _ _ ht Y.nt;refine⟨_,rfl,rn,_,_,_,rfl,O.1.run,rfl,_,rfl,rn,_,_,_,rfl,O.1.run,rfl,_,rfl,_,rfl,t,_,_,_,rfl,av,rfl,_,rfl,_,ap,_,_,rfl,hP _,R.pg,S.kind j,d,kq,tr,_,rfl,hp.dq.keep<|Tup.of0 k5,hp.kn.keepT<|Tup.of0 k5,hp.ok,hp.l12,hp.ln _ ab,λH6 f6=>?_⟩;have g6:=O.1.keep0 f6;rw[<-c6];have g7:=g6.num S.rd dn S.uw<|S.lk+R.G.co (S.kind j) d;refine⟨_,_,_,rfl,g6.run,by show 12<1000;decide,?_⟩;have B:=g7.1.num S.rd dn (S.uw+1)<|S.lk+R.G.co (S.kind j) d;refine⟨_,rfl,rn,_,_,_,rfl,g7.1.run,rfl,_,_,_,rfl,g7.1.run,by show 12<1000;decide,?_⟩;have i8:=i5.trans<|Im.trans (λb o e _=>f6 b o aZ e)<|g7.2.trans B.2;have B:=B.1;refine AI B ?_;generalize upd (upd H6 rn _) rn _=H8 at B i8 ⊢;have au:((A.dic D).say tl).δ[m]?=some na:=lV hm;have al:((A.dic D).say tl).δ[S.ds.length]?=some D:=by
    show(A.δ++[D])[S.ds.length]?=some D;rw[h.dc.len,iR<|aY _,vB];rfl
   have aw:=i8 _ _ hu' Y.nd;refine⟨_,rfl,rn,_,_,_,rfl,B.run,rfl,.inl ⟨rfl,_,SqL.of B.to⟩,_,rfl,_,rfl,_,rfl,dM<|bO (by show 4<=_;decide),λtb ao=>⟨bT _,λte ae=>?_⟩⟩;have f9:FrS [] H8 (upd (upd H8 tb<|.tup [.str "back",.str x,aS<|R.G.gv F d,.ref D]) te<|.tup []):=(FrS.new ao).trans<|FrS.new ae;have a2:upd (upd H8 tb<|.tup [.str "back",.str x,aS<|R.G.gv F d,.ref D]) te (.tup []) tb=some (.tup [.str "back",.str x,aS<|R.G.gv F d,.ref D]):=(Tup.new ae) _ _ zb1;generalize upd (upd H8 tb<|.tup [.str "back",.str x,aS<|R.G.gv F d,.ref D]) te (.tup [])=H9 at f9 a2;have g9:=B.keep0 f9;refine⟨_,rfl,u,_,_,_,rfl,f9 _ _ aZ aw,rfl,tb,te,na,_,rfl,λl I az b5 n2=>?_⟩;have a9:upd H9 I (.own l) l=none:=by rw[aC<|bW n2];exact az
   have a7:FrS [] H9 (upd (upd H9 I<|.own l) l<|.ins Y.C.du I<|dF .non tb te na):=(FrS.new b5).trans<|FrS.new a9;have a6:upd (upd H9 I<|.own l) l (.ins Y.C.du I<|dF .non tb te na) l=some (.ins Y.C.du I<|dF .non tb te na):=zb1;generalize upd (upd H9 I<|.own l) l (.ins Y.C.du I<|dF .non tb te na)=b7 at a7 a6;have a8:=g9.keep0 a7;have J:=a8.due (d:=.back x (R.G.gv F d) S.ds.length m)<|.back a6 au al<|a7 _ _ aZ a2;have bd:=hb.td;exists _,_,_,rfl,rfl,a8.to,lR (by rw[aI,iE,<-a8.im.ud.len];show S.td.length<=_;lia);have ad:=(i8.trans λb o e _=>a7 b o aZ<|f9 b o aZ e).trans J.2;have J:=J.1;generalize upd b7 _ _=af at J ad ⊢;obtain⟨qs,aa⟩:=J.im.bo;obtain⟨z,b9,b4⟩:=ws9.mp<|aa.k F d c5;cases hfd:qs.find? (λq=>decide<|q.1=(F,d))with
   | none=>exact absurd b4 (by simpa using vh0.mp hfd z b9)
   | some z2=>
    have aq:z2.1=(F,d):=by simpa using vT hfd
    obtain⟨es,b6,ai⟩:=aa.e z2<|qM hfd;rw[aq]at ai;refine⟨_,rfl,_,rfl,rn,_,_,_,rfl,J.run,rfl,_,rfl,_,rfl,dM<|bO (by show 2<=_;decide),λtk b8=>?_⟩;have a4:FrS [] af (upd af tk<|.tup [.str F,.str d]):=FrS.new b8;have b2:=J.keep0 a4;have a5:=aa.keep λb o e _=>a4 b o aZ e;refine⟨_,tk,qs,(F,d),z2,rfl,rfl,a5.d,a5.ok,SqT.of zb1,hfd,_,rfl,R,rn,z2.2.2,D,_,_,dn,S.ds.length,R.G.bo F d,es,rfl,b2,(Tup.of0 a4) _ _ b6,ai.keep<|Tup.of0 a4,al,by show(S.td.length+1)+_<=_;lia,λus H' g' f'=>?_⟩;subst hF;exact q _ H' g'<|ad.trans<|Im.trans (λb o e _=>a4 b o aZ e) f'
end
section
variable{Y:Ry}{mg:Str->Option Value}{base:Heap}{f:Addr}{fd:FuncData}
def zm6:bY ["run","due","word","x","y","kind","deed","args","thing"] dE (bP HC):=cE
def ZM{k:Nat}(F:Fun Y.K "do_call" "do_call" HC f fd)(Z:cT Y.K Y.C)(BE:aR Y.pr Y.w Y.K mg base k "is_below" ["program","one","other"] IE)(ST:aR Y.pr Y.w Y.K mg base k "start_call" BJ (rC Y))(N:∃tk,mg "MOST_UNDER_WAY"=some (.int 40 tk)):aQ Y.pr Y.w Y.K mg base bQ (k+1) f fd dE (fM Y λd=>∃n a x y q d' as m,d=.call n a x y q d' as m):=by
 refine F.ok zm6 (λvs H Q E h=>?_) λa5 A outer s H vs Q E hr h=>?_
 .obtain⟨R,rn,u,A,S,dn,d,rfl,_⟩:=h;rfl
 obtain⟨R,rn,u,A,S,dn,d,rfl,h,hd,⟨n,a,x,y,kd,d',as,m,rfl⟩,P,hp,q⟩:=h;obtain⟨tM,N⟩:=N;have hu:=eU hr;exists _,aG (gP (bU Z.d<|pv 1)<|dS (n:=6) rfl<|bI (gL 2 zm6.nd)<|bI (gL 3 zm6.nd)<|bI (gL 4 zm6.nd)<|bI (gL 5 zm6.nd)<|bI (gL 6 zm6.nd)<|bI (gL 7 zm6.nd) dV)
  (aG (sL 8 zm6.nd<|iT hu (bU Z.d<|pv 1) (pv 4) ⟨rfl,rfl,rfl,rfl⟩)<|aG (cK (jI<|pY<|pv 8) (aV<|bL bR) cO)<|aG (cK (SI<|KC<|bC BE hr rfl<|aA (bU Z.r<|pv 0)<|aA (bU Z.t<|pv 8)<|aA (pv 5) aE) (aV<|bL bR) cO)<|aG (cK (cA JF (bU Z.r<|pv 0) (kO (v:=.int 40) rfl N ⟨_,rfl⟩)<|cF _) (aV<|bL bR) cO)<|aG (dZ<|bC ST hr rfl<|aA (pv 0)<|aA (pv 1)<|aA (pv 8) aE)<|aV<|bL gH)
 ac_rfl
 have a4:=hd;cases hd with
 | @call _ _ _ _ p dx na g _ _ _ _ _ hu' hm hr' hg hal hz=>
  obtain⟨O,_,_⟩:=h.dict hm;exists _,rfl,u,_,_,_,rfl,hu',rfl,a,_,rfl,SqT.of hr',rfl,_,_,rfl,_,_,rfl,_,_,rfl,_,_,rfl,_,_,rfl,_,_,rfl,rfl;exists _,rfl,u,_,_,_,rfl,hu',rfl,na,rfl,.inl ⟨_,.inl O⟩,_,rfl,_,DGet.k (k:=(Sum.inr y:aJ)) O;rw[mN];have I:∀J H',RunAt R H' rn J (S.thing (S.get m y) λj=>if kd∈R.G.ln (S.kind j) then if 40<=S.uw then(S,some "deep") else(uJ R.G S n m x d' as j,none) else(S,some "unfit")).1 dn->Im Y.C H H'->Q (aS (S.thing (S.get m y) λj=>if kd∈R.G.ln (S.kind j) then if 40<=S.uw then(S,some "deep") else(uJ R.G S n m x d' as j,none) else(S,some "unfit")).2) H':=q;refine SH (σ':=[some<|.ref rn,some<|.ref u,some<|.str "call",some<|.str x,some<|.str y,some<|.str kd,some<|.str d',some<|.ref g,some<|cV A.θ<|S.get m y]) rfl ?_;rcases h.got hm y with e | ⟨j,e,hj⟩
  .rw[e]at I ⊢;exact⟨_,rfl,_,rfl,bB (λ_=>I A H h Im.refl) λc=>absurd rfl c⟩
  .rw[e]at I ⊢;obtain⟨t,dt,b,X,ht,a6⟩:=h.thing hj;have a3:=X;rw[X];refine⟨_,rfl,_,rfl,cP ?_⟩;have a1:=hp;obtain⟨tr,kq,hp⟩:=hp;have a2:S.kind j∈R.G.nm:=by
    unfold Rs.kind;have:S.ts.getD (j:Int).toNat ("",0)=S.ts[j]:=by show S.ts.getD j _=_;rw[fR,bH hj];rfl
    rw[this];exact P.ts _<|gW hj
   have k0:FrS [] R.H0 H:=λb o _ e=>h.kp b o e;refine⟨_,rfl,rn,_,_,_,rfl,h.run,rfl,_,rfl,t,_,_,_,rfl,ht,rfl,_,rfl,R.pg,S.kind j,kd,tr,_,rfl,hp.kn.keepT<|Tup.of0 k0,hp.ok,hp.l12,hp.ln _ a2,λH1 W=>⟨_,rfl,?_⟩⟩;have M:=h.keep0 W;have L:Im Y.C H H1:=λb o e _=>W b o aZ e
   by_cases c:kd∈R.G.ln (S.kind j)
   .rw[eE c];refine cP ?_;have B:∀J H',RunAt R H' rn J (if 40<=S.uw then(S,some "deep") else(uJ R.G S n m x d' as j,none):Rs×Option Str).1 dn->Im Y.C H H'->Q (aS (if 40<=S.uw then(S,some "deep") else(uJ R.G S n m x d' as j,none):Rs×Option Str).2) H':=by
     have:=I;simp only[Rs.thing,bE c]at this;exact this
    exists _,rfl,rn,_,_,_,rfl,M.run,rfl,_,_,rfl,rfl,_,rfl;refine bB (λi=>?_) λi=>?_
    .have i:40<=S.uw:=cS i;rw[bE i]at B;exact B A H1 M L
    .have i:¬40<=S.uw:=λz=>i<|eE z;rw[bD i]at B;have T:=a4.keep (l:=[]) Y.nd L;rw[fO]at T;exact⟨_,rfl,_,rfl,_,rfl,R,rn,u,t,A,S,dn,n,m,j,a,x,y,kd,d',as,rfl,M,T,P,a1,hj,a3,c,λJ H' g' f'=>B J H' g'<|L.trans f'⟩
   .rw[gA c];refine iV ?_;have B:=I A H1;simp only[Rs.thing,bD c]at B;exact B M L
end
end Gn
end
section
local macro_rules|`(tactic|ac_rfl)=>`(tactic|first|dsimp only[L2.gM,L2.Cx.nox]|skip)
namespace Gn
open PySem PySem.Spec L2
def oV(P:Program)(w:World)(K:Fq)(mg:Str->Option Value)(base:Heap)(k:Nat)(ps:List Str)(g:Addr)(sp:Sp):Prop:=∃gd,aQ P w K mg base bQ k g gd ps sp/\Binds K gd ps []/\PySem.W.keepIn K (.ref g)=true
inductive UF(P:Program)(w:World)(K:Fq)(mg:Str->Option Value)(base:Heap)(k:Nat)(ps:List Str)(t:TA)(v:V)(σ:St)(H:Hp)(Q:VK):Prop
 | mk(g:Addr)(sp:Sp)(h1:v=.ref g)(h2:oV P w K mg base k ps g sp)(q:t σ H λvs H2=>sp vs H2 Q E0)
def VZ(P:Program)(w:World)(K:Fq)(mg:Str->Option Value)(base:Heap)(k:Nat)(ps:List Str)(tx:TE)(t:TA):TE:=λσ H Q=>tx σ H λv H1=>UF P w K mg base k ps t v σ H1 Q
def xL{X:Cx}{x:Str}{p pos:Pos}{e:Expr}{es:List Expr}{tx:TE}{t:TA}{k:Nat}{ps:List Str}(hr:Room k X.A)(o:PE X (.Name x p) tx)(f:PA X (e::es) t)(he:starEach (e::es) X.env=(false,eval e X.env)::starEach es X.env:=by rfl)(i:(backTo pos<|starEach es X.env).any (·.1)=false:=by rfl):
  PE X (.Call (.Name x p) (e::es) [] pos) (VZ X.prog X.w X.K X.mg X.base k ps tx t):=by
 intro a s σ H Q I h;refine vP<|aX (o a s σ H _ I h) ?_;rintro u m ⟨v,H1,j,n,g,sp,rfl,⟨gd,G,b,l⟩,q⟩;obtain rfl:u=Value.ref g:=n;refine PySem.W.callWith_K (h₀:=X.base) I.ok.mod.kin l (aX (f pos a m σ H1 _ j q) ?_) he i;rintro us s2 ⟨vs,H2,d,r,z⟩;exact⟨d.kIn,NZ (dvs:=[]) G hr b .nil FF d r<|by rw[fO];exact z⟩
def IA(P:Program)(w:World)(K:Fq)(a:Addr)(kvs:List (aJ×Value)):Prop:=∃o,K.lookup a=some o/\∀h:Heap,h.get? a=some o->h.DictOf (cI P w) a kvs
inductive UM(P:Program)(w:World)(K:Fq)(x y:V)(H:Hp)(Q:VK):Prop
 | mk(a g:Addr)(kvs:List (aJ×Value))(k:aJ)(h1:x=.ref a)(h2:y=kV k)(h3:IA P w K a kvs)(h4:valueAt kvs k=some (.ref g))(q:Q (.ref g) H)
def ZJ(P:Program)(w:World)(K:Fq)(td ty:TE):TE:=λσ H Q=>td σ H λx H1=>ty σ H1 λy H2=>UM P w K x y H2 Q
def AF{X:Cx}{o i:Expr}{td ty:TE}{pos:Pos}(q:PE X o td)(hi:PE X i ty)(hs:mG i:=by exact λ_ _=>rfl):PE X (.Subscript o i pos) (ZJ X.prog X.w X.K td ty):=by
 intro d s σ H Q I h;refine EZ vj7.lookup hs<|aX (q d s σ H _ I h) λu r ⟨x,H1,l,j,m⟩=>aX (hi d r σ H1 _ l m) ?_;rintro C s2 ⟨y,H2,e,z,a,g,kvs,k,ex,f,⟨E,n,hd⟩,B,A⟩;subst ex f;obtain rfl:u=Value.ref a:=j;have b:=hd s2.heap<|e.kIn _ _ n;exact⟨b.typeIs,wpAny_getItem_of (kL z) b.mapOf B ⟨.ref g,H2,e.tok _,rfl,A⟩⟩
abbrev FR:Stmt:=top 43
abbrev EV:Stmt:=top 44
def Rw.wd:Rw->Str
 | .make _ _=>"make"
 | .copy _ _=>"copy"
 | .put _ _ _=>"put"
 | .take _ _ _=>"take"
 | .say _=>"say"
 | .bring _=>"bring"
def Du.wd:Du->Str
 | .op _ _ r _=>r.wd
 | .call _ _ _ _ _ _ _ _=>"call"
 | .either _ _ _ _ _=>"either"
 | .again _ _ _ _=>"again"
 | .back _ _ _ _=>"back"
def Rw.hd(r:Rw):∃rest,r.vs=.str r.wd::rest:=by cases r <;> exact⟨_,rfl⟩
theorem DuAt.hd(h:DuAt C Z δ H d u):∃dx a p na v rest,H u=some (.ins C.du dx<|dF v a p na)/\H a=some (.tup<|.str d.wd::rest)/\∀n,d.num=some n->v=.int n:=by
 cases h with
 | op h hm hr hb=>
  obtain⟨rest,e⟩:=Rw.hd ‹_›;rw[e]at hr;exact⟨_,_,_,_,_,_,h,hr,λn z=>by cases z;rfl⟩
 | call h hm hr hg hl hz=>exact⟨_,_,_,_,_,_,h,hr,λn z=>by cases z;rfl⟩
 | either h hm hr=>exact⟨_,_,_,_,_,_,h,hr,λn z=>by cases z;rfl⟩
 | again h hm hr=>exact⟨_,_,_,_,_,_,h,hr,λn z=>by cases z;rfl⟩
 | back h hm hs hr=>exact⟨_,_,_,_,_,_,h,hr,λn z=>nomatch z⟩
def nU(Y:Ry)(mg:Str->Option Value)(base:Heap)(k:Nat):Prop:=∃ad kvs,mg "DOERS"=some (.ref ad)/\IA Y.pr Y.w Y.K ad kvs/\∀d:Du,d.num.isSome->d.size<=80->∃g ok,valueAt kvs (Sum.inr d.wd)=some (.ref g)/\oV Y.pr Y.w Y.K mg base k dE g (fM Y ok)/\ok d
inductive qL(Y:Ry)(vs:List V)(H:Hp)(Q:VK):Prop
 | mk(R:Rx Y)(rn u:Addr)(A:Ra)(S:Rs)(dn mo:Nat)(d:Du)(h1:vs=[.ref rn,.ref u,.int mo])(h2:RunAt R H rn A S dn)(h3:DuAt Y.C R.Z A.δ H d u)(h4:d.num.isSome)(h5:d.size<=80)(h6:Bd R.G S)(h7:jT R)(h8:mo<=dn->Q (.str "long") H)(h9:dn<mo->∀A' H',RunAt R H' rn A' (doR R.G S d).1 (dn+1)->Im Y.C H H'->Q (aS (doR R.G S d).2) H')
def IN(Y:Ry):Sp:=λvs H Q _=>qL Y vs H Q
section
variable{Y:Ry}{mg:Str->Option Value}{base:Heap}{f:Addr}{fd:FuncData}
def xq6:bY ["run","due","most","doer"] ["run","due","most"] (bP FR):=cE
def Cf{k:Nat}(F:Fun Y.K "do_row" "do_row" FR f fd)(Z:cT Y.K Y.C)(D:nU Y mg base k):aQ Y.pr Y.w Y.K mg base bQ (k+1) f fd ["run","due","most"] (IN Y):=by
 refine F.ok xq6 (λvs H Q E h=>?_) λa4 A outer s H vs Q E hr h=>?_
 .obtain⟨R,rn,u,A,S,dn,b,d,rfl,_⟩:=h;rfl
 obtain⟨R,rn,u,A,S,dn,b,d,rfl,h,hd,N,hz,L,hp,B,X⟩:=h;obtain⟨m,kvs,x,T,M⟩:=D;exists _,aG (cK (cA JF (bU Z.r<|pv 0) (pv 2)<|cF _) (aV<|bL bR) cO)
  (aG (AO (g:=λi j=>i+j) Z.r (pv 0) aN CJ)<|aG (sL 3 xq6.nd<|AF (kO (v:=.ref m) rfl x rfl)<|eT (bU Z.d<|pv 1) aN)<|aV<|bL<|xL (ps:=dE) hr (pv 3)<|aA (pv 0)<|aA (pv 1) aE)
 ac_rfl
 exists _,rfl,rn,_,_,_,rfl,h.run,rfl,_,rfl,_,_,rfl,rfl,_,rfl;refine bB (λc=>?_) λc=>?_
 .have c:(b:Int)<=dn:=cS c;exact B (by lia)
 .have c:¬(b:Int)<=dn:=λz=>c<|eE z;have g:=h.num S.rd (dn+1) S.uw S.lk;obtain⟨dx,a,p,na,v,rest,O,q,_⟩:=hd.hd;have I:=g.2 _ _ O Y.nd;have o:=g.2.tup _ _ q;obtain⟨e,ok,hv,W,G⟩:=M d N hz;have n:=hd.keep (l:=[]) Y.nd g.2;rw[fO]at n;refine⟨_,rfl,rn,_,_,_,rfl,h.run,rfl,_,_,_,rfl,h.run,by show 12<1000;decide,?_⟩;refine AI g.1 ?_;exists _,rfl,u,_,_,_,rfl,I,rfl,a,_,_,_,rfl,rfl,SqT.of o,wJ _ _,m,e,kvs,Sum.inr d.wd,rfl,rfl,T,hv;exact⟨_,rfl,e,_,rfl,W,_,rfl,_,rfl,R,rn,u,A,S,dn+1,d,rfl,g.1,n,G,L,hp,λJ H' g' P=>X (by lia) J H' g'<|g.2.trans P⟩
end
structure Pz(G:Pg):Prop where
 bo:∀f d,(G.bo f d).size<=80
 ps:∀f d,↑(G.ps f d)<=1000
 ln:∀k,↑(G.ln k)<=12
 nm:∀k,∀x∈G.ln k,x∈G.nm
structure Wf(G:Pg)(S:Rs)(dn:Nat):Prop where
 td:S.td.length<=800*(dn+1)
 sz:∀d∈S.td,d.size<=80
 bk:bM S.td<=dn
 lg:S.lg.length<=12*dn
 hl:S.hr.length<=12+12*dn
 hn:∀k∈S.hr,k∈G.nm
 ts:∀z∈S.ts,z.1∈G.nm
 ds:∀d∈S.ds,↑d+bM S.td<=1001+2*dn
def Wf.bd(h:Wf G S dn)(hd:dn<=121):Bd G S:=⟨by have:=h.td;lia,by have:=h.lg;lia,by have:=h.hl;lia,λd a=>by have:=h.ds d a;lia,h.hn,h.ts⟩
theorem rT(m:Nat):∀l:LL,l.size<=80->∀d∈l.dues m,d.size<=80
 | .nil,_=>λd h=>nomatch h
 | .op n a r t,h=>λd hd=>by
  simp only[LL.size]at h;rcases wr5.mp hd with rfl | hd
  .exact bT _
  .exact rT m t (by lia) d hd
 | .call n a x y k d' as t,h=>λd hd=>by
  simp only[LL.size]at h;rcases wr5.mp hd with rfl | hd
  .exact bT _
  .exact rT m t (by lia) d hd
 | .either n a p q t,h=>λd hd=>by
  simp only[LL.size]at h;rcases wr5.mp hd with rfl | hd
  .show p.size+q.size<=80;lia
  .exact rT m t (by lia) d hd
 | .again n a p t,h=>λd hd=>by
  simp only[LL.size]at h;rcases wr5.mp hd with rfl | hd
  .show p.size<=80;lia
  .exact rT m t (by lia) d hd
def Wf.pop(h:Wf G S dn)(e:S.td=d::r)(f:d.num=some n):Wf G {S with td:=r} dn:=by
 have b:bM S.td=bM r:=by
  rw[e];cases d with
  | back x g s m=>cases f
  | _=>simp only[bM,dB,iP,iG,uL]
 exact⟨by have:=h.td;rw[e,cL]at this;show ↑r<=_;lia,λd' a=>h.sz d' (by rw[e];exact .tail _ a),by show bM r<=_;rw[<-b];exact h.bk,h.lg,h.hl,h.hn,h.ts,λd' a=>by show _+bM r<=_;rw[<-b];exact h.ds d' a⟩
def Wf.more(h:Wf G S dn):Wf G S (dn+1):=⟨by have:=h.td;lia,h.sz,by have:=h.bk;lia,by have:=h.lg;lia,by have:=h.hl;lia,h.hn,h.ts,λd hd=>by have:=h.ds d hd;lia⟩
theorem Wf.put(h:Wf G S dn)(m:Nat)(x:Str)(v:V):Wf G (S.put m x v) (dn+1):=by
 refine⟨by have:=h.td;show S.td.length<=_;lia,h.sz,by have:=h.bk;show bM S.td<=_;lia,by have:=h.lg;show S.lg.length<=_;lia,by have:=h.hl;show S.hr.length<=_;lia,h.hn,h.ts,λd hd=>?_⟩;show ↑d+bM S.td<=_;rcases KI hd with hd | rfl
 .have:=h.ds d hd;lia
 .have hl:=jF (S.ds.getD m []) (Sum.inr x) v;rw[fR]at hl ⊢;cases e:S.ds[m]? with
  | none=>
   rw[e]at hl;have:=h.bk;simp only[Option.getD_none,iD]at hl ⊢;lia
  | some d'=>
   rw[e]at hl;have:=h.ds d'<|dC e;simp only[Option.getD_some]at hl ⊢;lia
theorem Wf.push(h:Wf G S dn)(hl:l.size<=80)(m:Nat)(hd:S.td.length+80<=800*(dn+1)):Wf G (S.push l m) dn:=by
 have a:bM (l.dues m++S.td)=bM S.td:=by rw[AA,jR,uL]
 refine⟨?_,λd hd=>?_,by show bM (l.dues m++S.td)<=_;rw[a];exact h.bk,h.lg,h.hl,h.hn,h.ts,λd hd=>by show _+bM (l.dues m++S.td)<=_;rw[a];exact h.ds d hd⟩
 .show(l.dues m++S.td).length<=_;have:=kT m l;rw[bJ];lia
 .rcases wt2.mp hd with hd | hd
  .exact rT m l hl d hd
  .exact h.sz d hd
theorem Wf.pushN(hl:l.size<=80)(m:Nat):∀(i:Nat)(S:Rs),Wf G S dn->S.td.length+80*i<=800*(dn+1)->Wf G (pushN l m i S) dn
 | 0,S,h,_=>h
 | i+1,S,h,hd=>by
  refine Wf.pushN hl m i _ (h.push hl m<|by lia) ?_;show(l.dues m++S.td).length+_<=_;have:=kT m l;rw[bJ];lia
theorem OM:∀(l:List Str)(S:Rs),(l.foldl Rs.come S).ts=S.ts/\(l.foldl Rs.come S).ds=S.ds/\∀x∈(l.foldl Rs.come S).hr,x∈S.hr\/x∈l
 | [],S=>⟨rfl,rfl,λx h=>.inl h⟩
 | y::l,S=>by
  obtain⟨h1,h2,a⟩:=OM l<|S.come y;have e:(S.come y).ts=S.ts/\(S.come y).ds=S.ds/\∀x∈(S.come y).hr,x∈S.hr\/x=y:=by
   unfold Rs.come
   split
   .exact⟨rfl,rfl,λx h=>.inl h⟩
   .exact⟨rfl,rfl,λx h=>(wt2.mp h).imp id λz=>wr8.mp z⟩
  rw[vJ,h1,h2];refine⟨e.1,e.2.1,λx b=>?_⟩;rcases a x b with h | h
  .rcases e.2.2 x h with h | rfl
   .exact .inl h
   .exact .inr<|.head _
  .exact .inr<|.tail _ h
theorem Wf.thing(h:Wf G S dn)(a:∀j,Wf G (f j).1<|dn+1):Wf G (S.thing v f).1 (dn+1):=by
 cases v with
 | int j=>exact a j
 | _=>exact h.more
theorem Wf.doR(e:Pz G)(h:Wf G S dn)(hz:d.size<=80)(hd:d.num=some n)(N:S.td.length<=800*(dn+1)):Wf G (doR G S d).1 (dn+1):=by
 cases d with
 | op n a r m=>
  cases r with
  | make x k=>
   show Wf G (if k∈S.hr then(((S.make k).put m x<|.int S.ts.length),none) else(S,some "absent"):Rs×Option Str).1 _
   by_cases c:k∈S.hr
   .rw[bE c];refine Wf.put (S:=S.make k) ⟨h.td,h.sz,h.bk,h.lg,h.hl,h.hn,λz hz=>?_,λd hd=>?_⟩ m x _
    .rcases wt2.mp hz with hz | hz
     .exact h.ts z hz
     .rw[wr8.mp hz];exact h.hn k c
    .rcases wt2.mp hd with hd | hd
     .exact h.ds d hd
     .rw[wr8.mp hd];have:=h.bk;show 0+bM S.td<=_;lia
   .rw[bD c];exact h.more
  | copy x y=>exact h.put m x _
  | put x f y=>exact h.thing λj=>h.put _ f _
  | take x y f=>exact h.thing λj=>h.put m x _
  | say w=>exact⟨by have:=h.td;show S.td.length<=_;lia,h.sz,by have:=h.bk;show bM S.td<=_;lia,by have:=h.lg;show(S.lg++[_]).length<=_;rw[bJ,dQ];lia,by have:=h.hl;show S.hr.length<=_;lia,h.hn,h.ts,λd hd=>by have:=h.ds d hd;show _+bM S.td<=_;lia⟩
  | bring k=>
   have hl:=GU (G.ln k).reverse S;obtain⟨K,H,u⟩:=OM (G.ln k).reverse S;have i:=HM (G.ln k).reverse S;have O:=e.ln k;rw[iE]at hl;have o:=h.td;have B:=h.lg;have E:=h.hl;have A:=h.bk;show Wf G ((G.ln k).reverse.foldl Rs.come S) _;refine⟨by rw[i];lia,by rw[i];exact h.sz,by rw[i];lia,by lia,by lia,λx I=>?_,by rw[K];exact h.ts,λd hd=>?_⟩
   .rcases u x I with h' | h'
    .exact h.hn x h'
    .exact e.nm k x<|vg6.mp h'
   .rw[H]at hd;rw[i];have:=h.ds d hd;lia
 | call n a x y k d as m=>
  refine h.thing λj=>?_
  split
  .split
   .exact h.more
   .have J:=e.bo (G.an (S.kind j) d) d;have hp:=e.ps (G.an (S.kind j) d) d;have o:=kT S.ds.length<|G.bo (G.an (S.kind j) d) d;have B:=h.td;have E:=h.lg;have A:=h.hl;have L:=h.bk;have l:bM ((G.bo (G.an (S.kind j) d) d).dues S.ds.length++.back x (G.gv (G.an (S.kind j) d) d) S.ds.length m::S.td)=bM S.td+1:=by
     rw[AA,jR];simp only[bM,dB,iP,iG];lia
    refine⟨?_,λd' b=>?_,?_,?_,?_,h.hn,h.ts,λd' b=>?_⟩
    .show(_++_::S.td).length<=_;rw[bJ,cL];lia
    .rcases wt2.mp b with b | b
     .exact rT _ _ J d' b
     .rcases wr5.mp b with rfl | b
      .exact bT _
      .exact h.sz d' b
    .show bM (_++_::S.td)<=_;rw[l];lia
    .show(S.lg++[_]).length<=_;rw[bJ,dQ];lia
    .show S.hr.length<=_;lia
    .show _+bM (_++_::S.td)<=_;rw[l];rcases wt2.mp b with b | b
     .have:=h.ds d' b;lia
     .rw[wr8.mp b];unfold tV;have P:=jF (((G.ps (G.an (S.kind j) d) d).zip as).foldl (λ(d:List (aJ×V)) (z:Str×Str)=>aO d (Sum.inr z.1)<|S.get m z.2) []) (Sum.inr ("own":Str))<|.int j;have C:=DT (S:=S) (m:=m) ((G.ps (G.an (S.kind j) d) d).zip as) [];rw[vH,iD]at C;lia
  .exact h.more
 | either n a p q m=>
  have hz:p.size+q.size<=80:=hz;have h':Wf G {S with rd:=S.rd+1} (dn+1):=Wf.more ⟨h.td,h.sz,h.bk,h.lg,h.hl,h.hn,h.ts,h.ds⟩;show Wf G (Rs.push {S with rd:=S.rd+1} (if S.pick G=0 then p else q) m) _;refine h'.push (by split <;> lia) m ?_;show S.td.length+80<=_;lia
 | again n a p m=>
  have h':Wf G {S with rd:=S.rd+1} (dn+1):=Wf.more ⟨h.td,h.sz,h.bk,h.lg,h.hl,h.hn,h.ts,h.ds⟩;refine Wf.pushN hz m _ _ h' ?_;have M:(min (S.pick G) 9).toNat<=9:=by lia
  show S.td.length+_<=_;lia
 | back x g s m=>cases hd
theorem Wf.back(h:Wf G S dn)(e:S.td=.back x g s m::r):Wf G (AV {S with td:=r} x g s m) dn:=by
 have b:bM S.td=bM r+1:=by rw[e];simp only[bM,dB,iP,iG];lia
 have a:=h.td;have f:=h.bk;rw[e,cL]at a;refine⟨by show ↑r<=_;lia,λd hd=>h.sz d (by rw[e];exact .tail _ hd),by show bM r<=_;lia,h.lg,h.hl,h.hn,h.ts,λd hd=>?_⟩;show ↑d+bM r<=_;rcases KI hd with hd | rfl
 .have:=h.ds d hd;lia
 .have hl:=jF (S.ds.getD m []) (Sum.inr x)<|Rs.giv {S with td:=r} s g;show(aO (S.ds.getD m []) (Sum.inr x)<|Rs.giv {S with td:=r} s g).length+_<=_;rw[fR]at hl ⊢;cases e2:S.ds[m]? with
  | none=>
   rw[e2]at hl;simp only[Option.getD_none,iD]at hl ⊢;lia
  | some d'=>
   rw[e2]at hl;have:=h.ds d'<|dC e2;simp only[Option.getD_some]at hl ⊢;lia
inductive KP(Y:Ry)(vs:List V)(H:Hp)(Q:VK):Prop
 | mk(R:Rx Y)(rn:Addr)(A:Ra)(S S':Rs)(dn m mo:Nat)(e:Str)(v:V)(h1:vs=[.ref rn,.int mo])(h2:RunAt R H rn A S dn)(h3:Wf R.G S dn)(h4:jT R)(h5:Pz R.G)(h6:dn<=m)(h7:m<=120)(h8:m=mo\/e≠"long"/\m<=mo)(t:Rn R.G m dn S S' e v)(q:∀A' H' l dn',RunAt R H' rn A' S' dn'->Im Y.C H H'->H' l=some (.tup [.str e,v])->Q (.ref l) H')
def pG(Y:Ry):Sp:=λvs H Q _=>KP Y vs H Q
inductive OT{Y:Ry}(R:Rx Y)(H:Hp)(rn:Addr)(mo m:Nat)(S':Rs)(e:Str)(v:V)(c:Nat)(σ:St)(Hx:Hp):Prop
 | mk(x y:Option V)(A:Ra)(S:Rs)(dn:Nat)(h1:σ=[some<|.ref rn,some<|.int mo,x,y])(h2:RunAt R Hx rn A S dn)(h3:Im Y.C H Hx)(h4:Wf R.G S dn)(h5:dn<=m)(h6:Rn R.G m dn S S' e v)(h7:2*(m-dn)+bM S.td=c)
section
variable{Y:Ry}{mg:Str->Option Value}{base:Heap}{f:Addr}{fd:FuncData}
def yp8:bY ["run","most","due","ending"] ["run","most"] (bP EV):=cE
def Av{k:Nat}(F:Fun Y.K "run_on" "run_on" EV f fd)(Z:cT Y.K Y.C)(EC:aR Y.pr Y.w Y.K mg base k "end_call" dE (JK Y))(DR:aR Y.pr Y.w Y.K mg base k "do_row" ["run","due","most"] (IN Y))(O:∃tk,mg "BACK"=some (.str "back" tk)):aQ Y.pr Y.w Y.K mg base bQ (k+1) f fd ["run","most"] (pG Y):=by
 refine F.ok yp8 (λvs H Q E h=>?_) λai A outer s H vs Q E hr h=>?_
 .obtain⟨R,rn,A,S,W,dn,m,L,e,v,rfl,_⟩:=h;rfl
 obtain⟨R,rn,A,S,W,dn,m,L,e,v,rfl,h,o,hp,hz,P,hm,i,t,q⟩:=h;obtain⟨tB,O⟩:=O;exists _,aG (JN dW (Bp (bU Z.r<|pv 0) λ_=>rfl)<|aG (sL 2 yp8.nd<|sT eX PySem.F.slot_list_pop PySem.F.type_list_pop rN<|bU Z.r<|pv 0)<|aV<|cK (cA fK (eT (bU Z.d<|pv 2) aN) (kO (v:=.str "back") rfl O ⟨_,rfl⟩)<|cF _) (aV<|dZ<|bC EC hr rfl<|aA (pv 0)<|aA (pv 2) aE)<|aG (sL 3 yp8.nd<|bC DR hr rfl<|aA (pv 0)<|aA (pv 2)<|aA (pv 1) aE)<|aV<|cK (jI<|uR<|pv 3) (aV<|bL<|cX<|aA (pv 3)<|aA (bU Z.d<|pv 2) aE) cO)
  (aV<|bL<|cX<|aA bR<|aA gH aE)
 ac_rfl
 have s2:2<=sizeLine:=dM (bO<|by decide);exists OT R H rn L m W e v,⟨_,_,_,A,S,dn,rfl,h,Im.refl,o,P,t,rfl⟩;rintro c σ X ⟨_,_,A,S,dn,rfl,h,f,o,P,t,rfl⟩;exists _,rfl,rn,_,_,_,rfl,h.run,rfl,_,.inl ⟨_,SqL.of h.to,rfl⟩;have j:=h.im.ud;cases hus:A.us with
 | nil=>
  have b:S.td=[]:=by
   rw[hus]at j;cases hud':S.td with
   | nil=>rfl
   | cons d r=>rw[hud']at j;cases j
  refine cP ⟨s2,λl hl=>?_⟩;cases t with
  | done _=>exact q A _ l dn (h.keep0<|FrS.new hl) (f.trans<|Im.new hl) zb1
  | back h' _=>rw[b]at h';cases h'
  | long h' _ _=>rw[b]at h';cases h'
  | stop h' _ _ _=>rw[b]at h';cases h'
  | go h' _ _ _ _=>rw[b]at h';cases h'
 | cons u us=>
  obtain⟨d,r,b⟩:∃d r,S.td=d::r:=by
   rw[hus]at j;cases hud':S.td with
   | nil=>rw[hud']at j;cases j
   | cons d r=>exact⟨d,r,rfl⟩
  have g:=h.pop b hus;have hb:(!((u::us).reverse.map V.ref).isEmpty)=true:=by simp
  rw[hb];refine iV ⟨λσ' H'=>∃c',c'<2*(m-dn)+bM S.td/\OT R H rn L m W e v c' σ' H',λσ' H' z=>z,?_⟩;have a9:X A.to=some (.lst<|us.reverse.map V.ref++[V.ref u]):=by
   have:=h.to;rw[hus,CQ,bX]at this;exact this
  have a4:(us.reverse.map V.ref++[V.ref u])[↑(us.reverse.map V.ref++[V.ref u])-1]?=some (V.ref u):=by
   rw[bJ,dQ,Nat.add_sub_cancel,iR<|aY _,vB];rfl
  exists _,rfl,rn,_,_,_,rfl,h.run,rfl,.inl ⟨rfl,_,SqL.of a9⟩,A.to,_,.ref u,rfl,rfl,a9,a4;rw[List.dropLast_concat];obtain⟨g,f1,hd⟩:=g;generalize upd X A.to (.lst<|us.reverse.map V.ref)=H1 at g f1 hd;have M:=f.trans f1;obtain⟨dx,a,p,na,vn,rest,N,ha,a6⟩:=hd.hd;exists _,rfl,u,_,_,_,rfl,N,rfl,a,_,_,_,rfl,rfl,SqT.of ha,wJ _ _,rfl,_,rfl;have B:=o.bd (by lia);have ab:Bd R.G (S.pop r):=⟨by have:=B.td;rw[b,cL]at this;show ↑r<=_;lia,B.lg,B.hr,B.ds,B.hn,B.ts⟩;cases hdn:d.num with
  | none=>
   cases d with
   | back x gi s m'=>
    refine bB (λ_=>?_) λc=>absurd (eE rfl) c;refine⟨_,rfl,_,rfl,R,rn,u,A.pop us,S.pop r,dn,x,gi,s,m',rfl,g,hd,ab,λH2 I J=>?_⟩;cases t with
    | done h'=>rw[b]at h';cases h'
    | back h' t'=>
     rw[b]at h';cases h';refine⟨_,?_,_,_,_,_,dn,rfl,I,M.trans J,o.back b,P,t',rfl⟩;show 2*(m-dn)+bM r<_;rw[b];simp only[bM,dB,iP,iG];lia
    | long h' hn _=>rw[b]at h';cases h';cases hn
    | stop h' hn _ _=>rw[b]at h';cases h';cases hn
    | go h' hn _ _ _=>rw[b]at h';cases h';cases hn
   | _=>cases hdn
  | some n=>
   have af:d.wd≠"back":=by
    cases d with
    | op n a r m=>cases r <;> (simp only[Du.wd,Rw.wd];rfl')
    | call n a x y k d as m=>simp only[Du.wd];rfl'
    | either n a p q m=>simp only[Du.wd];rfl'
    | again n a p m=>simp only[Du.wd];rfl'
    | back x g s m=>cases hdn
   refine bB (λc=>absurd (V.str.inj<|cS c) af) λ_=>?_;have hsz:=o.sz d (by rw[b];exact .head _);have aa:=o.pop b hdn;have ae:=a6 n hdn;subst ae;refine⟨_,rfl,_,rfl,_,rfl,R,rn,u,A.pop us,S.pop r,dn,L,d,rfl,g,hd,by rw[hdn];rfl,hsz,ab,hp,λac=>?_,λag A' H2 I J=>?_⟩
   .refine⟨_,rfl,_,rfl,bB (λ_=>⟨_,rfl,_,rfl,u,_,_,_,rfl,N,rfl,s2,λl hl=>?_⟩) λc=>absurd rfl c⟩;cases t with
    | done h'=>rw[b]at h';cases h'
    | back h' t'=>rw[b]at h';cases h';cases hdn
    | long h' hn _=>
     rw[b]at h';cases h';rw[hdn]at hn;cases hn;exact q _ _ l dn (g.keep0<|FrS.new hl) (M.trans<|Im.new hl) zb1
    | stop h' hn hl' z=>rcases i with i | i <;> lia
    | go h' hn hl' z t'=>rcases i with i | i <;> lia
   .have ad:=J _ _ N Y.nd;cases t with
    | done h'=>rw[b]at h';cases h'
    | back h' t'=>rw[b]at h';cases h';cases hdn
    | long h' hn hl'=>
     rcases i with i | i
     .lia
     .exact absurd rfl i.1
    | stop h' hn hl' z=>
     rw[b]at h';cases h';rw[hdn]at hn;cases hn;rw[show doR R.G (S.pop r) d=_ from z]at I ⊢;refine⟨_,rfl,_,rfl,iV ⟨_,rfl,_,rfl,u,_,_,_,rfl,ad,rfl,s2,λl hl=>?_⟩⟩;exact q _ _ l (dn+1) (I.keep0<|FrS.new hl) ((M.trans J).trans<|Im.new hl) zb1
    | @go _ _ _ S1 _ _ _ _ _ h' hn hl' z t'=>
     rw[b]at h';cases h';have a8:=aa.doR hz hsz hdn aa.td;rw[show doR R.G (S.pop r) d=_ from z]at I ⊢;rw[z]at a8;have T:=QD R.G (S.pop r) d;rw[show doR R.G (S.pop r) d=_ from z]at T;refine⟨_,rfl,_,rfl,cP ⟨2*(m-(dn+1))+bM S1.td,?_,_,_,A',S1,dn+1,rfl,I,M.trans J,a8,hl',t',rfl⟩⟩;have ah:bM S.td=bM r:=by
      rw[b];cases d with
      | back x g s m=>cases hdn
      | _=>simp only[bM,dB,iP,iG,uL]
     have T:bM S1.td<=bM r+1:=T;lia
end
inductive Ly(Z:Str->Option Str->Prop)(H:Hp):Nat->Nat->List Addr->LL->Nat->Prop
 | nil {n k:Nat}:Ly Z H n k [] .nil k
 | op {n k k':Nat} {a:Addr} {r:Rw} {rs:List Addr} {L:LL} (h:H a=some (.tup r.vs)) (hb:∀x,r=.bring x->Z x none) (t:Ly Z H n (k+1) rs L k'):Ly Z H n k (a::rs) (.op k a r L) k'
 | call {n k k':Nat} {a g:Addr} {x y q d:Str} {as:List Str} {rs:List Addr} {L:LL} (h:H a=some (.tup [.str "call",.str x,.str y,.str q,.str d,.ref g])) (hg:H g=some (.tup<|as.map V.str)) (hl:↑as<=1000) (hz:Z q (some d)) (t:Ly Z H n (k+1) rs L k'):Ly Z H n k (a::rs) (.call k a x y q d as L) k'
 | again {n k k1 k':Nat} {a l:Addr} {rs1 rs:List Addr} {L1 L:LL} (h:H a=some (.tup [.str "again",.ref l])) (hl:H l=some (.tup<|rs1.map V.ref)) (s:Ly Z H n (k+1) rs1 L1 k1) (t:Ly Z H (n+1) k1 rs L k'):Ly Z H (n+1) k (a::rs) (.again k a L1 L) k'
 | either {n k k1 k2 k':Nat} {a l1 l2:Addr} {rs1 rs2 rs:List Addr} {L1 L2 L:LL} (h:H a=some (.tup [.str "either",.ref l1,.ref l2])) (h1:H l1=some (.tup<|rs1.map V.ref)) (h2:H l2=some (.tup<|rs2.map V.ref)) (s1:Ly Z H n (k+1) rs1 L1 k1) (s2:Ly Z H n k1 rs2 L2 k2) (t:Ly Z H (n+1) k2 rs L k'):Ly Z H (n+1) k (a::rs) (.either k a L1 L2 L) k'
def Ly.keep(h:Ly Z H n k rs L k')(f:Tup H H'):Ly Z H' n k rs L k':=by
 induction h with
 | nil=>exact .nil
 | op h hb _ ih=>exact .op (f _ _ h) hb ih
 | call h hg hl hz _ ih=>exact .call (f _ _ h) (f _ _ hg) hl hz ih
 | again h hl _ _ i1 i2=>exact .again (f _ _ h) (f _ _ hl) i1 i2
 | either h h1 h2 _ _ _ i1 i2 i3=>exact .either (f _ _ h) (f _ _ h1) (f _ _ h2) i1 i2 i3
def Ly.len(h:Ly Z H n k rs L k'):k'=k+L.size:=by
 induction h with
 | nil=>rfl
 | op h hb _ ih=>simp only[LL.size];lia
 | call h hg hl hz _ ih=>simp only[LL.size];lia
 | again h hl _ _ i1 i2=>simp only[LL.size];lia
 | either h h1 h2 _ _ _ i1 i2 i3=>simp only[LL.size];lia
def Ly.rl(h:Ly Z H n k rs L k'):k+↑rs<=k':=by
 induction h with
 | nil=>exact aY _
 | op h hb _ ih=>rw[cL];lia
 | call h hg hl hz _ ih=>rw[cL];lia
 | again h hl _ _ i1 i2=>rw[cL];lia
 | either h h1 h2 _ _ _ i1 i2 i3=>rw[cL];lia
def Fl.ly(h:Fl Z H n rs fs):∀k,∃L,Ly Z H n k rs L (k+↑fs):=by
 induction h with
 | nil=>exact λk=>⟨_,.nil⟩
 | @one n a rs fs h _ ih=>
  intro k;obtain⟨L,t⟩:=ih<|k+1;rw[cL,show k+(↑fs+1)=k+1+↑fs by lia];rcases h with ⟨r,h,hb⟩ | ⟨x,y,q,d,g,as,h,hg,hl,hz⟩
  .exact⟨_,.op h hb t⟩
  .exact⟨_,.call h hg hl hz t⟩
 | @again n a l rs1 fs1 rs fs h hl _ _ i1 i2=>
  intro k;obtain⟨e,b⟩:=i1<|k+1;obtain⟨L,t⟩:=i2<|k+1+↑fs1;rw[cL,bJ,show k+(↑fs1+↑fs+1)=k+1+↑fs1+↑fs by lia];exact⟨_,.again h hl b t⟩
 | @either n a l1 l2 rs1 fs1 rs2 fs2 rs fs h h1 h2 _ _ _ i1 i2 i3=>
  intro k;obtain⟨e,b⟩:=i1<|k+1;obtain⟨i,f⟩:=i2<|k+1+↑fs1;obtain⟨L,t⟩:=i3<|k+1+↑fs1+↑fs2;rw[cL,bJ,bJ,show k+(↑fs1+(↑fs2+↑fs)+1)=k+1+↑fs1+↑fs2+↑fs by lia];exact⟨_,.either h h1 h2 b f t⟩
def LL.app:LL->LL->LL
 | .nil,M=>M
 | .op n a r t,M=>.op n a r<|t.app M
 | .call n a x y k d as t,M=>.call n a x y k d as<|t.app M
 | .either n a p q t,M=>.either n a p q<|t.app M
 | .again n a p t,M=>.again n a p<|t.app M
theorem Ens.app(h:Ens Z H L es)(g:Ens Z H M fs):Ens Z H (L.app M) (es++fs):=by
 induction h with
 | nil=>exact g
 | op h hp hr hb _ ih=>exact .op h hp hr hb ih
 | call h hp hr hg hl hz _ ih=>exact .call h hp hr hg hl hz ih
 | either h hp hr h1 h2 s1 s2 _ _ _ ih=>exact .either h hp hr h1 h2 s1 s2 ih
 | again h hp hr h1 s1 _ _ ih=>exact .again h hp hr h1 s1 ih
def Ah(L:LL):L.app .nil=L:=by
 induction L with
 | nil=>rfl
 | op n a r t ih=>exact cM (LL.op n a r) ih
 | call n a x y k d as t ih=>exact cM (LL.call n a x y k d as) ih
 | either n a p q t _ _ ih=>exact cM (LL.either n a p q) ih
 | again n a p t _ ih=>exact cM (LL.again n a p) ih
def UC(M N:LL)(L:LL):(L.app M).app N=L.app (M.app N):=by
 induction L with
 | nil=>rfl
 | op n a r t ih=>exact cM (LL.op n a r) ih
 | call n a x y k d as t ih=>exact cM (LL.call n a x y k d as) ih
 | either n a p q t _ _ ih=>exact cM (LL.either n a p q) ih
 | again n a p t _ ih=>exact cM (LL.again n a p) ih
inductive US(Z:Str->Option Str->Prop)(H:Hp)(n k:Nat)(a:Addr)(rs:List Addr)(L:LL)(k':Nat):Prop
 | mk(w:Str)(rest:List V)(ls:List (Addr×List Addr×LL×Nat×Nat))(k1:Nat)(Lr:LL)(M:LL)(h1:H a=some (.tup<|.str w::rest))(h2:lG w rest=ls.map λz=>V.ref z.1)
  (h3:∀z∈ls,H z.1=some (.tup<|z.2.1.map V.ref)/\∃n',n=n'+1/\Ly Z H n' z.2.2.2.1 z.2.1 z.2.2.1 z.2.2.2.2) (h4:∀(i:Nat) z,ls[i]?=some z->z.2.2.2.1=(if i=0 then k+1 else((ls[i-1]?).map λy=>y.2.2.2.2).getD 0)) (h5:k1=((ls.getLast?).map λy=>y.2.2.2.2).getD (k+1)) (h6:↑ls<=2)
  (h7:L=M.app Lr) (h8:∀(e p:Addr)(ts:List Addr)(H':Hp),Tup H H'->H' e=some (.tup [.int k,.ref a,.ref p])->H' p=some (.tup<|ts.map V.ref)->A2 (λz t=>∃es:List Addr,H' t=some (.tup<|es.map V.ref)/\Ens Z H' z.2.2.1 es) ls ts->Ens Z H' M [e]) (h9:Ly Z H n k1 rs Lr k')
theorem Ly.hd(h:Ly Z H n k (a::rs) L k'):US Z H n k a rs L k':=by
 have w:¬(("call":Str)="either"\/("call":Str)="again"):=by rfl'
 cases h with
 | @op _ _ _ _ r _ L h hb t=>
  obtain⟨rest,e⟩:=r.hd;have B:¬(r.wd="either"\/r.wd="again"):=by cases r <;> (simp only[Rw.wd];rfl')
  refine⟨r.wd,rest,[],k+1,L,.op k a r .nil,by rw[h,e],by unfold lG;rw[bD B];rfl,(λz hz=>nomatch hz),(λi z hz=>nomatch hz),rfl,bT _,rfl,λj p ts H' f he hp b=>?_,t⟩;cases b;exact .op he hp (f _ _ h) hb .nil
 | @call _ _ _ _ g x y q d as _ L h hg hl hz t=>
  refine⟨"call",_,[],k+1,L,.call k a x y q d as .nil,h,by unfold lG;rw[bD w];rfl,(λz hz=>nomatch hz),(λi z hz=>nomatch hz),rfl,bT _,rfl,λj p ts H' f he hp b=>?_,t⟩;cases b;exact .call he hp (f _ _ h) (f _ _ hg) hl hz .nil
 | @again n _ k1 _ _ l rs1 _ L1 L h hl s t=>
  refine⟨"again",_,[(l,rs1,L1,k+1,k1)],k1,L,.again k a L1 .nil,h,by unfold lG;rw[bE<|.inr rfl];rfl,λz hz=>?_,λi z hz=>?_,rfl,by first | (show 1<=2;decide) | (show 2<=2;decide),rfl,λj p ts H' f he hp b=>?_,t⟩
  .rw[wr8.mp hz];exact⟨hl,n,rfl,s⟩
  .cases i with
   | zero=>cases hz;rfl
   | succ i=>cases hz
  .cases b with
   | cons r tl=>
    cases tl;obtain⟨es,o,m⟩:=r;exact .again he hp (f _ _ h) o m .nil
 | @either n _ k1 k2 _ _ l1 l2 rs1 rs2 _ L1 L2 L h h1 h2 s1 s2 t=>
  refine⟨"either",_,[(l1,rs1,L1,k+1,k1),(l2,rs2,L2,k1,k2)],k2,L,.either k a L1 L2 .nil,h,by unfold lG;rw[bE<|.inl rfl];rfl,λz hz=>?_,λi z hz=>?_,rfl,by first | (show 1<=2;decide) | (show 2<=2;decide),rfl,λj p ts H' f he hp b=>?_,t⟩
  .rcases wr5.mp hz with rfl | hz
   .exact⟨h1,n,rfl,s1⟩
   .rw[wr8.mp hz];exact⟨h2,n,rfl,s2⟩
  .match i,hz with
   | 0,hz=>cases hz;rfl
   | 1,hz=>cases hz;rfl
  .cases b with
   | cons r tl=>
    cases tl with
    | cons r2 tl=>
     cases tl;obtain⟨es,o,m⟩:=r;obtain⟨C,A,u⟩:=r2;exact .either he hp (f _ _ h) o A m u .nil
abbrev Lt:=Addr×List Addr×LL×Nat×Nat
inductive HY(n:Nat)(vs:List V)(H:Hp)(Q:VK):Prop
 | mk(Z:Str->Option Str->Prop)(bd l fd:Addr)(rs es:List Addr)(L:LL)(k':Nat)(h1:vs=[.ref bd,.ref l,.ref fd])(h2:H l=some (.tup<|rs.map V.ref))(h3:Ly Z H n ↑es rs L k')(h4:H fd=some (.lst<|es.map V.ref))(h5:k'<=1000000)
  (h6:∀(x:Addr)(xs ns:List Addr)(H':Hp),FrS [fd] H H'->H' fd=some (.lst<|(es++ns).map V.ref)->↑(es++ns)=k'->H' x=some (.tup<|xs.map V.ref)->Ens Z H' L xs->Q (.ref x) H')
def jP(n:Nat):Sp:=λvs H Q _=>HY n vs H Q
def GV:Nat->Sp
 | 0=>λ_ _ _ _=>False
 | n+1=>jP n
inductive VO(Z:Str->Option Str->Prop)(n:Nat)(H:Hp)(bd l fd tl:Addr)(rs es:List Addr)(L:LL)(k' i:Nat)(σ:St)(Hx:Hp):Prop
 | mk(a b:Option V)(ts ns:List Addr)(L1 L2:LL)(hσ:σ=[some<|.ref bd,some<|.ref l,some<|.ref fd,some<|.ref tl,a,b])(fr:FrS [fd] H Hx)(hf:Hx fd=some (.lst<|(es++ns).map V.ref))(ht:Hx tl=some (.lst<|ts.map V.ref))(hn:↑ts<=i)(he:L=L1.app L2)(hl:Ly Z Hx n ↑(es++ns) (rs.drop i) L2 k')(hE:Ens Z Hx L1 ts)
def CS(k:Nat)(ls:List Lt)(j:Nat):Nat:=if j=0 then k+1 else((ls[j-1]?).map λy=>y.2.2.2.2).getD 0
inductive UE(Z:Str->Option Str->Prop)(k:Nat)(H1 H2:Hp)(bd fd Dl:Addr)(es:List Addr)(ls:List Lt)(j:Nat)(σ:St)(Hx:Hp):Prop
 | mk(a:Option V)(zs ns:List Addr)(hσ:σ=[a,some<|.ref bd,some<|.ref fd])(fr:FrS [fd] H1 Hx)(tp:Tup H2 Hx)(hf:Hx fd=some (.lst<|(es++ns).map V.ref))(hc:↑(es++ns)=CS k ls j)(hD:Hx Dl=some (.lst<|zs.map V.ref))(hE:A2 (λ(z:Lt) t=>∃es:List Addr,Hx t=some (.tup<|es.map V.ref)/\Ens Z Hx z.2.2.1 es) (ls.take j) zs)
def FrS.tup1(f:FrS [a] H H')(h:H a=some (.lst ys)):Tup H H':=FrS.tup f λb d xs e=>by
 have:b=a:=by simpa using d
 subst this;rw[h]at e;cases e
abbrev oN:List Str:=["body","rows","found"]
def scLy:bY ["body","rows","found","told","row","number"] oN (bP kW):=cE
def nH{n k:Nat}(F:Fun K "lay" "lay" kW f fd)(WI:aR P w K mg base k "rows_within" ["row"] GI)(LA:aR P w K mg base k "lay" oN (GV n))(ml:mg "len"=none)(b3:mg "tuple"=none):aQ P w K mg base bQ (k+1) f fd oN (jP n):=by
 refine F.ok scLy (λvs H Q E h=>?_) λbz A outer s H vs Q E hr h=>?_
 .obtain⟨Z,bd,l,fl,rs,es,L,X,rfl,_⟩:=h;rfl
 obtain⟨Z,bd,l,fl,rs,es,L,X,rfl,hl,hF,am,hb,q⟩:=h;have bq:(["inner","body","found"]:List Str).Nodup:=by rfl'
 exists _,aG (sL 3 scLy.nd<|cW aE)
  (aG (eC dW rfl (iC<|pv 1) (gL 4 scLy.nd) (aG (sL 5 scLy.nd<|eR gK rfl ml gB<|aA (pv 2) aE) (aG (dZ<|fI eX fQ fV fL (pv 2)<|aA (cX<|aA (pv 5)<|aA (pv 0)<|aA (pv 4) aE) aE) (aV (dZ (fI eX fQ fV fL (pv 3) (aA (cX (aA (pv 5) (aA (pv 4) (aA (fG iB rfl b3 (by rfl') (aA (jZ (N':=["inner","body","found"]) (src:=[none,some 0,some 2]) rfl fH (iC<|bC WI hr rfl<|aA (pv 4) aE)
     (g:=cG 0) (λ_ _ _ _=>gL 0 bq) (λ_ _ _ _=>gT)
     (te:=gE (GV n) [] E0<|bG (aL 1)<|bG (aL 0)<|bG (aL 2) bK)
     (λ_ _ _ _=>bC LA hr rfl<|aA (pv 1)<|aA (pv 0)<|aA (pv 2) aE)) aE)) aE)))) aE)))))))
  (aV<|bL<|fG iB rfl b3 (by rfl')<|aA (pv 3) aE))
 ac_rfl
 have s3:3<=sizeLine:=dM (bO<|by decide);refine⟨bT _,λtl aj=>?_⟩;have bc:Tup H (upd H tl<|.lst []):=Tup.new aj;have ah:fl≠tl:=bA am aj;exists _,rfl,l,rfl,⟨_,SqT.of<|bc _ _ hl⟩;refine lC (xs:=rs.map V.ref) (VO Z n H bd l fl tl rs es L X) ⟨_,_,[],[],.nil,L,rfl,FrS.new aj,by rw[aC ah,fO];exact am,zb1,aY _,rfl,by rw[fO];exact hF.keep bc,.nil⟩ ?_ ?_ ?_
 .rintro i σ r hi ⟨_,_,_,_,_,_,_,fr,_⟩;exact SqT.of<|fr.tup1 am _ _ hl
 .rintro i x σ r C ⟨a0,b0,ts,b,L1,L2,rfl,fr,Y,ad,bu,rfl,I,hE⟩;rw[bZ,wt0]at C;obtain⟨a,ha,rfl⟩:=C;obtain⟨hi,rfl⟩:=wr1.mp ha;rw[BM hi]at I;have ax:=I.len;have bx:↑(es++b)+1<=X:=by
   cases I <;> simp only[LL.size]at ax <;> lia
  obtain⟨w,rest,ls,k1,Lr,M,h1,h2,h3,h4,h5,h6,rfl,h8,h9⟩:=I.hd;generalize rs[i]=a at h1 h8;exists _,rfl,fl,_,rfl,.inl<|SqL.of Y;refine⟨_,rfl,.inl ⟨rfl,_,SqL.of Y⟩,_,rfl,_,rfl,_,rfl,s3,λd ag=>?_⟩;have ak:=(FrS.new (S:=[]) (o:=.tup [.int (↑((es++b).map V.ref):Nat),.ref bd,.ref a]) ag) _ _ aZ Y;exists fl,_,_,rfl,rfl,ak,QS (by rw[aI];lia);have ar:(↑((es++b).map V.ref):Nat)=↑(es++b):=List.length_map _;rw[ar]at ak ⊢;have as:(es++b).map V.ref++[V.ref d]=((es++(b++[d])).map V.ref):=by rw[<-jG,bX (l₂:=[d])];rfl
  rw[as];have a9:Tup r (upd (upd r d<|.tup [.int (↑(es++b):Nat),.ref bd,.ref a]) fl<|.lst<|(es++(b++[d])).map V.ref):=(Tup.new ag).trans<|Tup.lst ak;have ba:FrS [fl] H (upd (upd r d<|.tup [.int (↑(es++b):Nat),.ref bd,.ref a]) fl<|.lst<|(es++(b++[d])).map V.ref):=(fr.trans<|FrS.new ag).put'<|.head _;have ae:upd (upd r d<|.tup [.int (↑(es++b):Nat),.ref bd,.ref a]) fl (.lst<|(es++(b++[d])).map V.ref) tl=some (.lst<|ts.map V.ref):=by rw[aC<|bW ah,aC<|bA ad ag];exact ad
  have al:upd (upd r d<|.tup [.int (↑(es++b):Nat),.ref bd,.ref a]) fl (.lst<|(es++(b++[d])).map V.ref) fl=some (.lst<|(es++(b++[d])).map V.ref):=zb1;generalize upd (upd r d<|.tup [.int (↑(es++b):Nat),.ref bd,.ref a]) fl (.lst<|(es++(b++[d])).map V.ref)=H1 at ba ae al a9;have bm:=a9 _ _ h1;refine⟨_,rfl,.inl ⟨rfl,_,SqL.of ae⟩,_,rfl,_,rfl,_,rfl,a,w,rest,rfl,bm,λW b5=>⟨W,rfl,⟨_,SqT.of zb1⟩,λm a8=>?_⟩⟩;rw[h2];have J:FrS [] H1 (upd (upd H1 W<|.tup<|lG w rest) m<|.lst []):=(FrS.new b5).trans<|FrS.new a8;have a7:H1 m=none:=EF (FrS.new b5) a8;rw[h2]at J a8;have bb:fl≠m:=bA al a7;have b8:upd (upd H1 W<|.tup<|ls.map λz=>V.ref z.1) m (.lst []) W=some (.tup<|ls.map λz=>V.ref z.1):=by rw[aC λz=>by rw[<-z,zb1]at a8;cases a8];exact zb1
  have b4:=J _ _ aZ al;have bi:=J _ _ aZ ae;have ap:=Tup.of0 J;have b9:upd (upd H1 W<|.tup<|ls.map λz=>V.ref z.1) m (.lst []) m=some (.lst []):=zb1;generalize upd (upd H1 W<|.tup<|ls.map λz=>V.ref z.1) m (.lst [])=H2 at J b8 b4 bi ap b9;have bo:∀z∈ls,H1 z.1=some (.tup<|z.2.1.map V.ref)/\∃O,n=O+1/\Ly Z H1 O z.2.2.2.1 z.2.1 z.2.2.1 z.2.2.2.2:=λz hz=>let ⟨x1,O,x2,x3⟩:=h3 z hz;⟨a9 _ _ x1,O,x2,x3.keep a9⟩
  have ao:∀z∈ls,z.2.2.2.2<=X:=λz hz=>by
   obtain⟨j,hj⟩:=wv6.mp hz;have bw:=h9.len;have c0:=(wr1.mp hj).1;have aa:∀(u:Lt),ls[↑ls-1]?=some u->u.2.2.2.2<=X:=λu hu=>by
    rw[List.getLast?_eq_getElem?,hu]at h5;have:k1=u.2.2.2.2:=h5;lia
   by_cases e:j=↑ls-1
   .exact aa z (by rw[<-e];exact hj)
   .have br:j+1=↑ls-1:=by lia
    have hu:ls[j+1]?=some ls[j+1]:=bH (by lia);have e4:=h4 (j+1) _ hu;rw[bD (by lia),Nat.add_sub_cancel,hj]at e4;have e4:ls[j+1].2.2.2.1=z.2.2.2.2:=e4;obtain⟨_,O,_,bf⟩:=h3 _<|gW (by lia:j+1<↑ls);have:=bf.len;have:=aa _ (by rw[<-br];exact hu);lia
  refine JB (xs:=ls.map λz=>V.ref z.1) (UE Z ↑(es++b) H1 H2 bd fl m (es++(b++[d])) ls) ⟨_,[],[],rfl,J.mono λ_ h=>absurd h aZ,(λ_ _ h=>h),by rw[fO];exact b4,?_,b9,.nil⟩ ?_ ?_ ?_
  .show(es++(b++[d])++[]).length=↑(es++b)+1;rw[fO,<-jG,bJ (bs:=[d])];rfl
  .rintro j σ G hj ⟨_,_,_,_,_,ty,_⟩;exact SqT.of<|ty _ _ b8
  .rintro j x σ G C ⟨x0,zs,N,rfl,fy,ty,ai,af,au,T⟩;rw[bZ,wt0]at C;obtain⟨z,hz,rfl⟩:=C;have b1:Tup H1 G:=ap.trans ty;have b2:=dC hz;obtain⟨z1,O,rfl,z2⟩:=bo z b2;have bt:=h4 j z hz;have bg:↑(es++(b++[d])++N)=z.2.2.2.1:=af.trans bt.symm;refine⟨_,rfl,_,rfl,_,rfl,Z,bd,z.1,fl,z.2.1,es++(b++[d])++N,z.2.2.1,z.2.2.2.2,rfl,b1 _ _ z1,by rw[bg];exact z2.keep b1,ai,by have:=ao z b2;lia,λx xs nx Hz fz bh ay bl bk=>?_⟩;have b7:=fz _ _ (by simpa using bW bb) au;have av:=fz.tup1 ai;have ac:Tup Hz (upd Hz m<|.lst<|zs.map V.ref++[.ref x]):=Tup.lst b7;have bv:↑zs<=2:=by rw[<-T.len,eS];lia
   exists _,b7,bO (by rw[aI];lia),_,zs++[x],N++nx,rfl,(fy.trans fz).put a7,(ty.trans av).trans ac,by rw[aC bb,<-jG];exact bh,?_,by rw[zb1,bX];rfl
   .rw[<-jG,ay];show _=CS _ ls (j+1);unfold CS;rw[bD (by lia),Nat.add_sub_cancel,hz];rfl
   .rw[fE,hz];exact(T.imp λ_ _ ⟨e,a1,a2⟩=>⟨e,(av.trans ac) _ _ a1,a2.keep<|av.trans ac⟩).snoc ⟨xs,ac _ _ bl,bk.keep ac⟩
  .rintro σ G ⟨x0,zs,N,rfl,fy,ty,ai,af,au,T⟩;rw[aI]at af T;rw[eM<|aY _]at T;refine⟨m,_,rfl,.inl ⟨SqL.of au,λpt bj=>⟨s3,λB b6=>?_⟩⟩⟩;have bp:=fy _ _ (by simpa using bW ah) ae;have fn:FrS [] G (upd (upd G pt<|.tup<|zs.map V.ref) B<|.tup [.int (↑(es++b):Nat),.ref a,.ref pt]):=(FrS.new bj).trans<|FrS.new b6;have aq:=fn _ _ aZ bp;have be:=fn _ _ aZ ai;have a6:upd (upd G pt<|.tup<|zs.map V.ref) B (.tup [.int (↑(es++b):Nat),.ref a,.ref pt]) B=some (.tup [.int (↑(es++b):Nat),.ref a,.ref pt]):=zb1;have a5:upd (upd G pt<|.tup<|zs.map V.ref) B (.tup [.int (↑(es++b):Nat),.ref a,.ref pt]) pt=some (.tup<|zs.map V.ref):=(Tup.new b6) _ _ zb1;generalize upd (upd G pt<|.tup<|zs.map V.ref) B (.tup [.int (↑(es++b):Nat),.ref a,.ref pt])=H3 at fn aq be a6 a5;have aw:Tup H3 (upd H3 tl<|.lst<|ts.map V.ref++[.ref B]):=Tup.lst aq;have an:=(Tup.of0 fn).trans aw;have az:Tup r (upd H3 tl<|.lst<|ts.map V.ref++[.ref B]):=a9.trans<|(ap.trans ty).trans an;exists tl,_,_,rfl,rfl,aq,QS (by rw[aI];have:=hF.rl;lia);refine⟨_,_,ts++[B],b++[d]++N,L1.app M,Lr,rfl,((ba.trans fy).trans<|fn.mono λ_ h=>absurd h aZ).put aj,by rw[aC ah,<-jG];exact be,by rw[zb1,bX];rfl,by rw[bJ,dQ];lia,(UC _ _ _).symm,?_,(hE.keep az).app<|h8 B pt zs _ az (aw _ _ a6) (aw _ _ a5)<|T.imp λ_ _ ⟨e,a1,a2⟩=>⟨e,an _ _ a1,a2.keep an⟩⟩;have:↑(es++(b++[d]++N))=k1:=by
    rw[<-jG,af,h5];unfold CS;rw[List.getLast?_eq_getElem?]
    split
    .rw[List.getElem?_eq_none<|by lia];rfl
    .have bn:↑ls-1<↑ls:=by lia
     rw[bH bn];rfl
   rw[this];exact h9.keep az
 .rintro σ r ⟨a0,b0,ts,b,L1,L2,rfl,fr,Y,ad,bu,rfl,I,hE⟩;rw[aI,List.drop_length]at I;cases I;rw[Ah]at q;refine⟨_,rfl,tl,_,rfl,.inl ⟨SqL.of ad,λx C=>?_⟩⟩;exact q x ts b _ (fr.trans<|FrS.new C) ((FrS.new (S:=[]) C) _ _ aZ Y) rfl zb1<|hE.keep<|Tup.new C
abbrev JW:Stmt:=top 17
inductive LyB(Z:Str->Option Str->Prop)(H:Hp):Nat->List Bz->List LL->Nat->Prop
 | nil {k:Nat}:LyB Z H k [] [] k
 | cons {k k1 k':Nat} {z:Bz} {zs:List Bz} {L:LL} {Ls:List LL} (h:H z.2.2.1=some (.tup<|z.2.2.2.1.map V.ref)) (s:Ly Z H 4 k z.2.2.2.1 L k1) (hz:L.size<=80) (t:LyB Z H k1 zs Ls k'):LyB Z H k (z::zs) (L::Ls) k'
theorem LyB.keep(h:LyB Z H k zs Ls k')(f:Tup H H'):LyB Z H' k zs Ls k':=by
 induction h with
 | nil=>exact .nil
 | cons h s hz _ ih=>exact .cons (f _ _ h) (s.keep f) hz ih
theorem LyB.mk:∀(zs:List Bz),(∀z∈zs,RowsIs Z H z.2)->∀k,∃b a,LyB Z H k zs b a/\a<=k+80*↑zs
 | [],_,k=>⟨[],k,.nil,aY _⟩
 | z::zs,h,k=>by
  obtain⟨h2,d,i⟩:=h z<|.head _;obtain⟨L,s⟩:=d.ly k;obtain⟨b,a,t,f⟩:=LyB.mk zs (λy e=>h y<|.tail _ e)<|k+↑z.2.2.2.2;have:=s.len;exact⟨L::b,a,.cons h2 s (by lia) t,by rw[cL];lia⟩
def LyB.le(h:LyB Z H k zs Ls k'):k<=k':=by
 induction h with
 | nil=>exact aY _
 | cons h s hz _ ih=>have:=s.len;lia
def kM(l:List (Pr×LL))(n:Pr):LL:=l.foldl (λa z=>if z.1=n then z.2 else a) .nil
def UN(l:List (Pr×LL))(z:Pr×LL)(n:Pr):kM (l++[z]) n=if z.1=n then z.2 else kM l n:=by
 unfold kM;rw[DY];rfl
theorem QV:∀(l:List (Pr×LL))(a:LL),a.size<=80->(∀z∈l,z.2.size<=80)->(l.foldl (λa z=>if z.1=n then z.2 else a) a).size<=80
 | [],a,ha,_=>ha
 | z::l,a,ha,h=>QV l _ (by show(if z.1=n then z.2 else a).size<=80;split;exact h z<|.head _;exact ha) λy b=>h y<|.tail _ b
def oT{K:Fq}{H H':Hp}{a b:Addr}{xs ys:List V}(f:FrS [a] H H')(d:H a=some (.lst ys))(h:SqT K H b xs):SqT K H' b xs:=by
 have ne:∀{o:HO},H b=some o->(∀z,o≠.lst z)->b∉[a]:=λe n z=>by
  rw[wr8.mp z,d]at e;cases e;exact n _ rfl
 rcases h with (h | ⟨o,h⟩) | h
 .exact .inl<|.inl<|f _ _ (ne h λz e=>nomatch e) h
 .exact .inl<|.inr ⟨o,f _ _ (ne h λz e=>nomatch e) h⟩
 .exact .inr h
inductive sS(P:Program)(w:World)(K:Fq)(vs:List V)(H:Hp)(Q:VK):Prop
 | mk(Z:Str->Option Str->Prop)(p:Addr)(ks:List (Str×List Dz))(m0:Dz)(Ls:List LL)(k':Nat)(h1:vs=[.ref p])(h2:ProgIs Z H p ks m0)(h3:LyB Z H 0 (dP ks m0) Ls k')(h4:k'<=1000000)
  (h5:∀(bo:Addr)(qs:List (Pr×Addr×Addr))(H':Hp),FrS [] H H'->H' bo=some (gD P w bo qs)->PvOk K H' qs->(∀z∈dP ks m0,z.1∈qs.map (·.1))->(∀q∈qs,∃es:List Addr,H' q.2.2=some (.tup<|es.map V.ref)/\Ens Z H' (kM (((dP ks m0).map (·.1)).zip Ls) q.1) es)->Q (.ref bo) H')
def FC(P:Program)(w:World)(K:Fq):Sp:=λvs H Q _=>sS P w K vs H Q
inductive YW(Z:Str->Option Str->Prop)(P:Program)(w:World)(K:Fq)(H H1:Hp)(fd D:Addr)(zs:List Bz)(Ls:List LL)(k' i:Nat)(σ:St)(Hx:Hp):Prop
 | mk(x y:Option V)(ns:List Addr)(qs:List (Pr×Addr×Addr))(h1:σ=[x,y,some<|.ref fd])(h2:FrS [] H Hx)(h3:Tup H1 Hx)(h4:Hx fd=some (.lst<|ns.map V.ref))(h5:Hx D=some (gD P w D qs))(h6:PvOk K Hx qs)(h7:∀z∈zs.take i,z.1∈qs.map (·.1))(h8:∀q∈qs,∃es:List Addr,Hx q.2.2=some (.tup<|es.map V.ref)/\Ens Z Hx (kM ((zs.map (·.1)).zip Ls |>.take i) q.1) es)(h9:LyB Z Hx ↑ns (zs.drop i) (Ls.drop i) k')(h10:↑qs<=i)
def wb1:bY ["program","found"] ["program"] (bP JW):=cE
def ZB{k:Nat}(F:Fun K "laid" "laid" JW f fd)(BO:aR P w K mg base k "bodies" qK (GR K))(LA:aR P w K mg base k "lay" oN (jP 4)):aQ P w K mg base bQ (k+1) f fd ["program"] (FC P w K):=by
 refine F.ok wb1 (λvs H Q E h=>?_) λar A outer s H vs Q E hr h=>?_
 .obtain⟨Z,p,ks,m,j,k',rfl,_⟩:=h;rfl
 obtain⟨Z,p,ks,m,j,k',rfl,hP,hL,hk,q⟩:=h;have hu:=eU hr;have ab:(["body","rows","found"]:List Str).Nodup:=by rfl'
 exists _,aG (hW (i:=1) wb1.nd rfl (Or.inr rfl)<|cW aE)
  (aV<|bL<|OI (hp:=YR<|vG hu) (N':=["body","rows","found"]) (src:=[none,none,some 1]) rfl fH (iC<|bC BO hr rfl<|aA (pv 0) aE) (g:=eN K 2<|eJ (cG 0)<|eJ (cG 1) eK) (λ_ _ _ _=>dS (n:=2) rfl<|bI (gL 0 ab)<|bI (gL 1 ab) dV) (λ_ _ _ _=>gT) (λ_ _ _ _=>pv 0) (te:=gE (jP 4) [] E0<|bG (aL 0)<|bG (aL 1)<|bG (aL 2) bK) λ_ _ _ _=>bC LA hr rfl<|aA (pv 0)<|aA (pv 1)<|aA (pv 2) aE)
 ac_rfl
 refine⟨bT _,λfl ad=>?_⟩;have Y:FrS [] H (upd H fl<|.lst []):=FrS.new ad;refine⟨_,rfl,p,ks,m,rfl,hP.keep<|Tup.of0 Y,λb qs H1 f1 hb hA as=>?_⟩;have ac:=f1 _ _ aZ<|zb1 (H:=H) (a:=fl) (o:=.lst []);refine⟨b,rfl,⟨_,SqT.of hb⟩,λD C=>?_⟩;have a6:D≠fl:=λz=>by rw[z,ac]at C;cases C
 have t1:Tup H1 (upd H1 D<|gD P w D []):=Tup.new C;have fD:FrS [] H (upd H1 D<|gD P w D []):=(Y.trans f1).trans<|FrS.new C;have al:H D=none:=EF (Y.trans f1) C;refine NH (xs:=qs.map V.ref) (YW Z P w K H H1 fl D (dP ks m) j k') ⟨_,_,[],[],rfl,fD,t1,by rw[aC<|bW a6];exact ac,zb1,(λq d=>nomatch d),(λz hz=>nomatch hz),(λq d=>nomatch d),hL.keep<|Tup.of0 fD,aY _⟩ ?_ ?_ ?_
 .rintro i σ Hx hi ⟨_,_,_,_,_,_,tx,_⟩;exact SqT.of<|tx _ _ hb
 .rintro i x σ Hx hx ⟨x0,y0,ns,ps,rfl,X,tx,W,a5,ok,J,N,M,ap⟩;rw[bZ,wt0]at hx;obtain⟨u,a9,rfl⟩:=hx;obtain⟨z,hz,bd,d,ah⟩:=hA.get a9;have hi:=(wr1.mp hz).1;have ag:=BM hi;have aq:=(wr1.mp hz).2;rw[ag,aq]at M;generalize hLd:j.drop i=Ld at M;cases M with
  | @cons _ k1 _ _ _ L Lr h1 s1 hs tl=>
   have aj:j[i]?=some L:=by
    have:=cM (λl=>l[0]?) hLd;simpa using this
   exists u,_,rfl,SqT.of<|tx _ _ d,rfl,_,_,rfl,_,_,rfl,rfl;refine⟨_,rfl,_,rfl,_,rfl,_,rfl,Z,bd,z.2.2.1,fl,z.2.2.2.1,ns,L,k1,rfl,h1,s1,W,gF tl.le hk,λl xs nx H3 T an a8 ao ai=>?_⟩;have I:=T.tup1 W;have a4:=T _ _ (by simpa using a6) a5;have af:=(ah.keep<|tx.trans I).sq;have ae:PvOk K H3 ps:=λq d=>oT T W<|ok q d;have B:Tup H3 (upd H3 D<|gD P w D<|gG ps z.1 bd l):=λc xs e=>by rw[aC λy=>by rw[y,a4]at e;cases e];exact e
   have k4:∀{c:Addr}{xs:List V},SqT K H3 c xs->SqT K (upd H3 D<|gD P w D<|gG ps z.1 bd l) c xs:=λh=>by
    have ne:∀{c:Addr}{o:HO},H3 c=some o->(∀φ,o≠.ext φ)->c≠D:=λe n y=>by
     rw[y,a4]at e;cases e;exact n _ rfl
    rcases h with (h | ⟨o,h⟩) | h
    .exact .inl (.inl<|by rw[aC<|ne h λ_ e=>nomatch e];exact h)
    .exact .inl<|.inr ⟨o,by rw[aC<|ne h λ_ e=>nomatch e];exact h⟩
    .exact .inr h
   have a7:((((dP ks m).map (·.1)).zip j).take<|i+1)=(((dP ks m).map (·.1)).zip j).take i++[(z.1,L)]:=by
    have:(((dP ks m).map (·.1)).zip j)[i]?=some (z.1,L):=by rw[DB];exact⟨by rw[bZ,hz];rfl,aj⟩
    rw[fE,this];rfl
   have aa:i<1000:=by
    have:=(wr1.mp a9).1;lia
   refine⟨ps,bd,z.1,l,rfl,rfl,a4,ae,af,bO (by lia),_,_,ns++nx,gG ps z.1 bd l,rfl,?_,(tx.trans I).trans B,by rw[aC<|bW a6];exact an,zb1,λq d=>k4<|(ae.put af) q d,λy r=>?_,λq d=>?_,?_,by have:=RG (qs:=ps) (n:=z.1) (b:=bd) (l:=l);lia⟩
   .intro c o _ e;have hc:c≠D:=bA e al;rw[aC hc];exact T _ _ (by simpa using (bA e ad))<|X _ _ aZ e
   .have G:z.1∈(gG ps z.1 bd l).map (·.1)/\∀n∈ps.map (·.1),n∈(gG ps z.1 bd l).map (·.1):=by
     unfold gG
     split
     .have e:(ps.map λq=>if q.1=z.1 then(q.1,q.2.1,l) else q).map (·.1)=ps.map (·.1):=by
       rw[lJ];refine yZ λq _=>?_;show(if q.1=z.1 then(q.1,q.2.1,l) else q).1=q.1
       split <;> rfl
      rw[e];exact⟨‹_›,λ_ h=>h⟩
     .rw[bX];exact⟨fW _<|.head _,λ_ h=>qQ _ h⟩
    rw[fE,hz]at r;rcases wt2.mp r with r | r
    .exact G.2 _<|J y r
    .have:y=z:=by simpa using r
     rw[this];exact G.1
   .rw[a7,UN];have old:∀q∈ps,q.1≠z.1->∃es:List Addr,upd H3 D (gD P w D<|gG ps z.1 bd l) q.2.2=some (.tup<|es.map V.ref)/\Ens Z (upd H3 D<|gD P w D<|gG ps z.1 bd l) (if z.1=q.1 then L else kM ((((dP ks m).map (·.1)).zip j).take i) q.1) es:=λq d ak=>by
     obtain⟨es,e1,O⟩:=N q d;rw[bD<|bW ak];exact⟨es,(I.trans B) _ _ e1,O.keep<|I.trans B⟩
    have new:∃es:List Addr,upd H3 D (gD P w D<|gG ps z.1 bd l) l=some (.tup<|es.map V.ref)/\Ens Z (upd H3 D<|gD P w D<|gG ps z.1 bd l) L es:=⟨xs,B _ _ ao,ai.keep B⟩;unfold gG at d
    split at d
    .obtain⟨y,r,rfl⟩:=ws9.mp d
     by_cases c:y.1=z.1
     .rw[bE c];show ∃es:List Addr,_/\Ens Z _ (if z.1=y.1 then L else _) es;rw[bE c.symm];exact new
     .rw[bD c];exact old y r c
    .rcases wt2.mp d with d | d
     .exact old q d λc=>absurd (ws9.mpr ⟨q,d,c⟩) ‹_›
     .rw[wr8.mp d];show ∃es:List Addr,_/\Ens Z _ (if z.1=z.1 then L else _) es;rw[bE rfl];exact new
   .have am:j.drop (i+1)=Lr:=by
     have:=cM (List.drop 1) hLd;rw[List.drop_drop]at this;exact this
    rw[am,a8];exact tl.keep<|I.trans B
 .rintro σ Hx ⟨x0,y0,ns,ps,rfl,X,tx,W,a5,ok,J,N,M,ap⟩;have aa:↑(dP ks m)=↑qs:=hA.len.symm;rw[aI,<-aa]at J N;rw[eM<|aY _]at J;refine q D ps Hx X a5 ok J λq d=>?_;obtain⟨es,e1,O⟩:=N q d;rw[eM<|by rw[vH,aI];exact Nat.min_le_left _ _]at O;exact⟨es,e1,O⟩
abbrev FZ:Stmt:=GK 28
def hr0(tr:Tr)(late:List Str):List Str:=(tr.map (·.1)).filter λx=>decide<|x∉late
inductive pA(Y:Ry)(vs:List V)(H:Hp)(Q:VK):Prop
 | mk(Z:Str->Option Str->Prop)(x dx p md ch:Addr)(ks:List (Str×List Dz))(m0:Dz)(tr:Tr)(late:List Str)(Ls:List LL)(k':Nat)(h1:vs=[.ref x,.ref p,.ref md,.ref ch])(h2:H x=some (.ins Y.C.rn dx []))(h3:H md=some (.tup []))(h4:ProgIs Z H p ks m0)(h5:KindsAt H p tr)(h6:LateAt H p tr late)(h7:↑tr<=12)(h8:LyB Z H 0 (dP ks m0) Ls k')(h9:k'<=1000000)
  (q:∀(fo bo he to lo:Addr)(qs:List (Pr×Addr×Addr))(H':Hp),FrS [x] H H'->H' x=some (.ins Y.C.rn dx<|rF p ⟨dx,md,fo,bo,ch,he,to,lo,[],[],[],[]⟩ 0 0 0 0)->H' fo=some (.dK [])->H' he=some (.lst<|(hr0 tr late).map V.str)->H' to=some (.lst [])->H' lo=some (.lst [])->(∀b∈[fo,he,to,lo],H b=none)->[fo,he,to,lo].Nodup-> H' bo=some (gD Y.pr Y.w bo qs)->PvOk Y.K H' qs->(∀z∈dP ks m0,z.1∈qs.map (·.1))->(∀q∈qs,∃es:List Addr,H' q.2.2=some (.tup<|es.map V.ref)/\Ens Z H' (kM (((dP ks m0).map (·.1)).zip Ls) q.1) es)->Q .non H')
def CF(Y:Ry):Sp:=λvs H Q _=>pA Y vs H Q
abbrev uY:List Str:=["self","program","made","choices"]
def wS{Q:St->Hp->Prop}{σ:St}{H H':Hp}(h:Q σ H')(e:H=H':=by rfl):Q σ H:=by rw[e];exact h
def xE{t:TE}{σ:St}{Q:VK}{H H':Hp}(h:t σ H' Q)(e:H=H':=by rfl):t σ H Q:=by rw[e];exact h
inductive VB(H1:Hp)(Dl p:Addr)(ns late:List Str)(i:Nat)(σ:St)(Hx:Hp):Prop
 | mk(x y z:Option V)(hσ:σ=[x,y,z,some<|.ref p])(fr:FrS [] H1 Hx)(hD:Hx Dl=some (.lst<|((ns.take i).filter λx=>decide<|x∉late).map V.str))
section
variable{Y:Ry}{mg:Str->Option Value}{base:Heap}{f:Addr}{fd:FuncData}
def sN:bY uY uY (bP FZ):=cE
def YQ{k:Nat}(F:Fun Y.K "__init__" "Run.__init__" FZ f fd)(Z:cT Y.K Y.C)(FO:aR Y.pr Y.w Y.K mg base k "forms_of" ["made"] DW)(LD:aR Y.pr Y.w Y.K mg base k "laid" ["program"] (FC Y.pr Y.w Y.K)):aQ Y.pr Y.w Y.K mg base bQ (k+1) f fd uY (CF Y):=by
 refine F.ok sN (λvs H Q E h=>?_) λb8 A outer s H vs Q E hr h=>?_
 .obtain⟨Z,x,dx,p,md,ch,ks,m0,tr,a,Ls,k',rfl,_⟩:=h;rfl
 obtain⟨Z',x,dx,p,md,ch,ks,m0,tr,a,Ls,k',rfl,hx,aw,hP,hK,ay,az,hL,hk,q⟩:=h;have ah:(["name","elder","deeds","program"]:List Str).Nodup:=by rfl'
 exists _,aG (fS Z.r (pv 0)<|pv 1)<|aG (fS Z.r (pv 0)<|pv 2)<|aG (fS Z.r (pv 0)<|bC FO hr rfl<|aA (pv 2) aE)<|aG (fS Z.r (pv 0)<|bC LD hr rfl<|aA (pv 1) aE)<|aG (fS Z.r (pv 0)<|pv 3)<|aG (fS Z.r (pv 0) aN)<|aG (fS Z.r (pv 0) aN)<|aG (fS Z.r (pv 0) aN)<|aG (fS Z.r (pv 0)<|jZ (N':=["name","elder","deeds","program"]) (src:=[none,none,none,some 1]) rfl fH (iC<|eT (pv 1) aN) (g:=eN Y.K 3<|eJ (cG 0)<|eJ (cG 1)<|eJ (cG 2) eK) (λ_ _ _ _=>dS (n:=3) rfl<|bI (gL 0 ah)<|bI (gL 1 ah)<|bI (gL 2 ah) dV) (tt:=hY<|dR (jK Y.K true) (aL 0)<|dR (iK Y.K) (aL 3)<|tC<|.int 1) (λ_ _ _ _=>vI<|cA (show OpR _ _ (jK Y.K true) from CY) (pv 0) (uA (show IxR _ (iK Y.K) from KW) (pv 3) aN λ_ _=>rfl) rfl) λ_ _ _ _=>pv 0)<|aG (fS Z.r (pv 0)<|cW aE)<|aG (fS Z.r (pv 0)<|cW aE)<|aV<|fS Z.r (pv 0) aN
 ac_rfl
 refine⟨_,rfl,_,rfl,x,dx,_,rfl,hx,by decide,_,rfl,_,rfl,x,dx,_,rfl,zb1,by show 1<1000;decide,?_⟩;rw[gS];have nx:∀{b:Addr},H b=none->b∉[x]:=λh z=>by rw[wr8.mp z,hx]at h;cases h
 have L:∀{G P:Hp}(o:HO),FrS [] G P->FrS [x] G (upd P x o):=λo f=>(f.mono λ_ h=>absurd h aZ).put'<|.head _;have tx:∀{G P:Hp}{fs:List (Str×V)},G x=some (.ins Y.C.rn dx fs)->FrS [x] G P->Tup G P:=λe f b xs h=>f b _ (λz=>by rw[wr8.mp z,e]at h;cases h) h
 have W:FrS [x] H (upd H x<|.ins Y.C.rn dx<|cJ "made" (.ref md)<|cJ "program" (.ref p) []):=FrS.chg<|.head _;have x1:upd H x (.ins Y.C.rn dx<|cJ "made" (.ref md)<|cJ "program" (.ref p) []) x=some (.ins Y.C.rn dx [("program",.ref p),("made",.ref md)]):=zb1;generalize upd H x (.ins Y.C.rn dx<|cJ "made" (.ref md)<|cJ "program" (.ref p) [])=G1 at W x1;have t1:=tx hx W;refine⟨_,rfl,md,rfl,t1 _ _ aw,λfo B=>⟨_,rfl,x,dx,_,rfl,(FrS.new (S:=[]) B) _ _ aZ x1,by show 2<1000;decide,?_⟩⟩;have I:H fo=none:=by
  cases e:H fo with
  | none=>rfl
  | some o=>
   by_cases z:fo=x
   .rw[z,x1]at B;cases B
   .rw[W _ _ (by simpa using z) e]at B;cases B
 have c2:=L (.ins Y.C.rn dx [("program",.ref p),("made",.ref md),("forms",.ref fo)])<|FrS.new (S:=[]) (o:=.dK []) B;have x2:upd (upd G1 fo<|.dK []) x (.ins Y.C.rn dx [("program",.ref p),("made",.ref md),("forms",.ref fo)]) x=some (.ins Y.C.rn dx [("program",.ref p),("made",.ref md),("forms",.ref fo)]):=zb1;have o2:upd (upd G1 fo<|.dK []) x (.ins Y.C.rn dx [("program",.ref p),("made",.ref md),("forms",.ref fo)]) fo=some (.dK []):=(aC<|by simpa using nx I).trans zb1;refine wS (H':=upd (upd G1 fo<|.dK []) x<|.ins Y.C.rn dx [("program",.ref p),("made",.ref md),("forms",.ref fo)]) ?_;generalize upd (upd G1 fo<|.dK []) x (.ins Y.C.rn dx [("program",.ref p),("made",.ref md),("forms",.ref fo)])=G2 at c2 x2 o2 ⊢;have t2:=t1.trans<|tx x1 c2;refine⟨_,rfl,Z',p,ks,m0,Ls,k',rfl,hP.keep t2,hL.keep t2,hk,λbo qs m f3 al hok b1 b3=>⟨_,rfl,x,dx,_,rfl,f3 _ _ aZ x2,by show 3<1000;decide,?_⟩⟩;refine⟨_,rfl,_,rfl,x,dx,_,rfl,zb1,by show 4<1000;decide,_,rfl,x,dx,_,rfl,zb1,by show 5<1000;decide,_,rfl,x,dx,_,rfl,zb1,by show 6<1000;decide,_,rfl,x,dx,_,rfl,zb1,by show 7<1000;decide,?_⟩;rw[gS,gS,gS,gS];have c3:=L (.ins Y.C.rn dx [("program",.ref p),("made",.ref md),("forms",.ref fo),("bodies",.ref bo),("choices",.ref ch),("many_read",.int 0),("many_done",.int 0),("under_way",.int 0)]) f3;have d3:FrS [x] m (upd m x<|.ins Y.C.rn dx [("program",.ref p),("made",.ref md),("forms",.ref fo),("bodies",.ref bo),("choices",.ref ch),("many_read",.int 0),("many_done",.int 0),("under_way",.int 0)]):=FrS.chg<|.head _;have x3:upd m x (.ins Y.C.rn dx [("program",.ref p),("made",.ref md),("forms",.ref fo),("bodies",.ref bo),("choices",.ref ch),("many_read",.int 0),("many_done",.int 0),("under_way",.int 0)]) x=some (.ins Y.C.rn dx [("program",.ref p),("made",.ref md),("forms",.ref fo),("bodies",.ref bo),("choices",.ref ch),("many_read",.int 0),("many_done",.int 0),("under_way",.int 0)]):=zb1;refine wS (H':=upd m x<|.ins Y.C.rn dx [("program",.ref p),("made",.ref md),("forms",.ref fo),("bodies",.ref bo),("choices",.ref ch),("many_read",.int 0),("many_done",.int 0),("under_way",.int 0)]) ?_;generalize upd m x (.ins Y.C.rn dx [("program",.ref p),("made",.ref md),("forms",.ref fo),("bodies",.ref bo),("choices",.ref ch),("many_read",.int 0),("many_done",.int 0),("under_way",.int 0)])=G4 at c3 d3 x3 ⊢;have t4:=t2.trans<|tx x2 c3;have aq:=(W.trans c2).trans c3;obtain⟨kt,ts,v1,v2,hp,au,ad,b2⟩:=hK.keepT t4;obtain⟨b5,lt,v3,ax,b0,b6,_,_⟩:=ay.keep t4;refine⟨_,rfl,p,_,_,_,rfl,rfl,SqT.of hp,rfl,kt,rfl,⟨_,SqT.of au⟩,λhe ae=>?_⟩;have b7:↑(tr.map (·.1))<=12:=by rw[aI];exact az
 refine JB (xs:=ts.map V.ref) (VB G4 he p (tr.map (·.1)) a) ⟨_,_,_,rfl,(FrS.refl).put ae,zb1⟩ ?_ ?_ ?_
 .rintro j σ Hy hj ⟨_,_,_,_,fr,_⟩;exact SqT.of<|fr _ _ aZ au
 .rintro j x' σ Hy am ⟨_,_,_,rfl,fr,ao⟩;rw[bZ,wt0]at am;obtain⟨u,hu,rfl⟩:=am;have hj:j<↑tr:=by rw[<-ad];exact(wr1.mp hu).1
  have hz:tr[j]?=some tr[j]:=bH hj;obtain⟨v,hv⟩:=b2 j u _ hu hz;generalize tr[j]=T at hz hv;have eF:((tr.map (·.1)).take<|j+1).filter (λx=>decide<|x∉a)=((tr.map (·.1)).take j).filter (λx=>decide<|x∉a)++[T.1].filter (λx=>decide<|x∉a):=by
   rw[fE,bZ,hz,List.filter_append];rfl
  have b4:↑(((tr.map (·.1)).take j).filter λx=>decide<|x∉a)<=12:=by
   have h2:=BQ (λx=>decide<|x∉a)<|(tr.map (·.1)).take j;rw[eS]at h2;lia
  exists u,_,rfl,SqT.of<|fr _ _ aZ hv,rfl,_,_,rfl,_,_,rfl,_,_,rfl,rfl;exists _,rfl,_,rfl,p,_,_,_,rfl,rfl,SqT.of<|fr _ _ aZ ax,rfl,lt,_,rfl,.inr<|SqT.of<|fr _ _ aZ b0,rfl,jS _,_,rfl;show if (!gU (.str T.1) (a.map V.str))=true then _ else _
  rw[kU];refine bB (λc=>?_) λc=>?_
  .have c:T.1∉a:=by simpa using c
   exists _,rfl,_,ao,bO (by rw[aI];lia),_,_,_,rfl,fr.put ae;rw[zb1,eF,List.filter_cons_of_pos (by simpa using c),List.filter_nil,bX];rfl
  .have c:T.1∈a:=by simpa using c
   exists _,_,_,rfl,fr;rw[eF,List.filter_cons_of_neg (by simpa using c),List.filter_nil,fO];exact ao
 rintro σ J ⟨_,_,_,rfl,f5,an⟩;rw[aI,ad,<-List.length_map (as:=tr) (f:=(·.1)),eM<|aY _]at an;have back:∀{G:Hp}{fs:List (Str×V)}{b:Addr},FrS [x] H G->G x=some (.ins Y.C.rn dx fs)->G b=none->H b=none:=λ{G fs b} c e h=>by
  cases z:H b with
  | none=>rfl
  | some o=>
   have n:b≠x:=λy=>by rw[y,e]at h;cases h
   rw[c _ _ (by simpa using n) z]at h;cases h
 have X:=back aq x3 ae;have x5:=f5 _ _ aZ x3;have ab:G4 fo=some (.dK []):=c3 _ _ (nx I) o2;have n1:fo≠he:=bA ab ae;refine⟨_,rfl,x,dx,_,rfl,x5,by show 8<1000;decide,bT _,λto l=>?_⟩;have c5:=L (.ins Y.C.rn dx [("program",.ref p),("made",.ref md),("forms",.ref fo),("bodies",.ref bo),("choices",.ref ch),("many_read",.int 0),("many_done",.int 0),("under_way",.int 0),("here",.ref he)]) f5;have x6:upd J x (.ins Y.C.rn dx [("program",.ref p),("made",.ref md),("forms",.ref fo),("bodies",.ref bo),("choices",.ref ch),("many_read",.int 0),("many_done",.int 0),("under_way",.int 0),("here",.ref he)]) x=some (.ins Y.C.rn dx [("program",.ref p),("made",.ref md),("forms",.ref fo),("bodies",.ref bo),("choices",.ref ch),("many_read",.int 0),("many_done",.int 0),("under_way",.int 0),("here",.ref he)]):=zb1;have a6:upd J x (.ins Y.C.rn dx [("program",.ref p),("made",.ref md),("forms",.ref fo),("bodies",.ref bo),("choices",.ref ch),("many_read",.int 0),("many_done",.int 0),("under_way",.int 0),("here",.ref he)]) he=some (.lst<|(hr0 tr a).map V.str):=(aC<|by simpa using nx X).trans an;have l:upd J x (.ins Y.C.rn dx [("program",.ref p),("made",.ref md),("forms",.ref fo),("bodies",.ref bo),("choices",.ref ch),("many_read",.int 0),("many_done",.int 0),("under_way",.int 0),("here",.ref he)]) to=none:=l;refine xE (H':=upd (upd J x<|.ins Y.C.rn dx [("program",.ref p),("made",.ref md),("forms",.ref fo),("bodies",.ref bo),("choices",.ref ch),("many_read",.int 0),("many_done",.int 0),("under_way",.int 0),("here",.ref he)]) to<|.lst []) ?_;generalize upd J x (.ins Y.C.rn dx [("program",.ref p),("made",.ref md),("forms",.ref fo),("bodies",.ref bo),("choices",.ref ch),("many_read",.int 0),("many_done",.int 0),("under_way",.int 0),("here",.ref he)])=O at c5 x6 a6 l ⊢;have ar:=aq.trans c5;have a4:=back ar x6 l;have ac:=c5 _ _ (nx I) ab;refine⟨_,rfl,x,dx,_,rfl,(FrS.new (S:=[]) l) _ _ aZ x6,by show 9<1000;decide,bT _,λlo i=>?_⟩;have N:=L (.ins Y.C.rn dx [("program",.ref p),("made",.ref md),("forms",.ref fo),("bodies",.ref bo),("choices",.ref ch),("many_read",.int 0),("many_done",.int 0),("under_way",.int 0),("here",.ref he),("todo",.ref to)])<|FrS.new (S:=[]) (o:=.lst []) l;have x7:upd (upd O to<|.lst []) x (.ins Y.C.rn dx [("program",.ref p),("made",.ref md),("forms",.ref fo),("bodies",.ref bo),("choices",.ref ch),("many_read",.int 0),("many_done",.int 0),("under_way",.int 0),("here",.ref he),("todo",.ref to)]) x=some (.ins Y.C.rn dx [("program",.ref p),("made",.ref md),("forms",.ref fo),("bodies",.ref bo),("choices",.ref ch),("many_read",.int 0),("many_done",.int 0),("under_way",.int 0),("here",.ref he),("todo",.ref to)]):=zb1;have a5:upd (upd O to<|.lst []) x (.ins Y.C.rn dx [("program",.ref p),("made",.ref md),("forms",.ref fo),("bodies",.ref bo),("choices",.ref ch),("many_read",.int 0),("many_done",.int 0),("under_way",.int 0),("here",.ref he),("todo",.ref to)]) to=some (.lst []):=(aC<|by simpa using nx a4).trans zb1;have i:upd (upd O to<|.lst []) x (.ins Y.C.rn dx [("program",.ref p),("made",.ref md),("forms",.ref fo),("bodies",.ref bo),("choices",.ref ch),("many_read",.int 0),("many_done",.int 0),("under_way",.int 0),("here",.ref he),("todo",.ref to)]) lo=none:=i;refine xE (H':=upd (upd (upd O to<|.lst []) x<|.ins Y.C.rn dx [("program",.ref p),("made",.ref md),("forms",.ref fo),("bodies",.ref bo),("choices",.ref ch),("many_read",.int 0),("many_done",.int 0),("under_way",.int 0),("here",.ref he),("todo",.ref to)]) lo<|.lst []) ?_;generalize upd (upd O to<|.lst []) x (.ins Y.C.rn dx [("program",.ref p),("made",.ref md),("forms",.ref fo),("bodies",.ref bo),("choices",.ref ch),("many_read",.int 0),("many_done",.int 0),("under_way",.int 0),("here",.ref he),("todo",.ref to)])=G7 at N x7 a5 i ⊢;have av:=ar.trans N;have a8:=back av x7 i;have a9:=N _ _ (nx I) ac;have aa:=N _ _ (nx X) a6;have x8:=(FrS.new (S:=[]) (o:=.lst []) i) _ _ aZ x7;have M:=L (.ins Y.C.rn dx<|rF p ⟨dx,md,fo,bo,ch,he,to,lo,[],[],[],[]⟩ 0 0 0 0)<|FrS.new (S:=[]) (o:=.lst []) i;refine⟨_,rfl,x,dx,_,rfl,x8,by show 10<1000;decide,_,rfl,x,dx,_,rfl,zb1,by show 11<1000;decide,?_⟩;rw[gS];have ag:FrS [x] m (upd (upd G7 lo<|.lst []) x<|.ins Y.C.rn dx<|rF p ⟨dx,md,fo,bo,ch,he,to,lo,[],[],[],[]⟩ 0 0 0 0):=((d3.trans c5).trans N).trans M;have ap:=f3 _ _ aZ x2;have ai:=tx ap ag;have ak:∀{b:Addr}{o:HO},m b=some o->(∀d fs,o≠.ins Y.C.rn d fs)->b∉[x]:=λe n z=>by
  rw[wr8.mp z,ap]at e;cases e;exact n _ _ rfl
 have af:upd (upd G7 lo<|.lst []) x (.ins Y.C.rn dx<|rF p ⟨dx,md,fo,bo,ch,he,to,lo,[],[],[],[]⟩ 0 0 0 0) lo=some (.lst []):=(aC<|by simpa using nx a8).trans zb1;refine q fo bo he to lo qs _ (av.trans M) zb1 (M _ _ (nx I) a9) (M _ _ (nx X) aa) (M _ _ (nx a4) a5) af ?_ ?_ (ag _ _ (ak al λ_ _ e=>nomatch e) al) ?_ b1 ?_
 .intro b hb;simp only[wr5,aZ,cY]at hb;rcases hb with rfl | rfl | rfl | rfl
  .exact I
  .exact X
  .exact a4
  .exact a8
 .simp only[wv3,wr5,aZ,cY,eY,not_false_eq_true,kH,and_true];exact⟨⟨n1,bA ac l,bA a9 i⟩,⟨bA a6 l,bA aa i⟩,bA a5 i⟩
 .intro q' aj;rcases hok q' aj with (h | ⟨o,h⟩) | h
  .exact .inl<|.inl<|ai _ _ h
  .exact .inl<|.inr ⟨o,ag _ _ (ak h λ_ _ e=>nomatch e) h⟩
  .exact .inr h
 .intro q' aj;obtain⟨es,e1,e2⟩:=b3 q' aj;exact⟨es,ai _ _ e1,e2.keep ai⟩
end
abbrev JR:Stmt:=top 45
abbrev IR:Stmt:=top 47
structure zB{Y:Ry}(R:Rx Y)(H:Hp)(ks:List (Str×List Dz))(m0:Dz)(tr:Tr)(late:List Str)(Ls:List LL)(k':Nat):Prop where
 p:ProgIs R.Z H R.pg ks m0
 k:KindsAt H R.pg tr
 l:LateAt H R.pg tr late
 t12:↑tr<=12
 b:LyB R.Z H 0 (dP ks m0) Ls k'
 k6:k'<=1000000
 hs:∀n d,R.G.hs n d->(n,d)∈(dP ks m0).map (·.1)
 h0:R.G.hs "" ""
 bo:∀n d,R.G.bo n d=kM (((dP ks m0).map (·.1)).zip Ls) (n,d)
 pg:jT R
 pz:Pz R.G
 nm:∀x∈hr0 tr late,x∈R.G.nm
inductive UJ(Y:Ry)(vs:List V)(H:Hp)(Q:VK):Prop
 | mk(R:Rx Y)(md ch:Addr)(ks:List (Str×List Dz))(m0:Dz)(tr:Tr)(late:List Str)(Ls:List LL)(k':Nat)(h1:vs=[.ref R.pg,.ref md,.ref ch])(h2:H md=some (.tup []))(h3:zB R H ks m0 tr late Ls k')(h4:H ch=some (.tup<|R.G.ch.map V.int))(h5:R.H0=H)
  (q:∀(x:Addr)(A:Ra)(H':Hp),RunAt R H' x A ⟨[],[],[],[],0,0,0,hr0 tr late⟩ 0->Q (.ref x) H')
def Az{Y:Ry}(vs:List V)(H:Hp)(Q:VK)(h:UJ Y vs H Q)(x dx:Addr)(h1:H x=none)(h2:H dx=none)(T:dx≠x):CF Y (.ref x::vs) (upd (upd H dx<|.own x) x<|.ins Y.C.rn dx []) (λv H2=>v=.non/\Q (.ref x) H2) E0:=by
 obtain⟨R,md,ch,ks,K,tr,i,E,w,rfl,r,g,G,rfl,q⟩:=h;have f:FrS [] R.H0 (upd (upd R.H0 dx<|.own x) x<|.ins Y.C.rn dx []):=(FrS.new h2).trans (FrS.new<|by rw[aC<|bW T];exact h1);have t:=Tup.of0 f;refine⟨R.Z,x,dx,R.pg,md,ch,ks,K,tr,i,E,w,rfl,zb1,t _ _ r,g.p.keep t,g.k.keepT t,g.l.keep t,g.t12,g.b.keep t,g.k6,λfo bo he to lo qs H' fr X P L A s M N O j u J=>⟨rfl,q x ⟨dx,md,fo,bo,ch,he,to,lo,[],[],[],[]⟩ H' ?_⟩⟩;have m:∀b∈[fo,he,to,lo],R.H0 b=none/\b≠x:=λb a=>by
  have:=M b a;refine⟨?_,λz=>by rw[z,zb1]at this;cases this⟩;cases e:R.H0 b with
  | none=>rfl
  | some o=>rw[f _ _ aZ e]at this;cases this
 have kp:∀b o,R.H0 b=some o->H' b=some o:=λb o e=>fr _ _ (by simpa using (bA e h1))<|f _ _ aZ e
 refine {im:=⟨kp _ _ r,kp _ _ G,.nil,.nil,.nil,qs,⟨O,j,λn d h=>?_,λB W=>?_⟩⟩,run:=X,fo:=P,he:=L,to:=A,lo:=s,dc:=.nil,dk:=(λd hd=>nomatch hd),nd:=?_,kp:=kp,fr:=?_}
 .obtain⟨z,hz,e⟩:=ws9.mp<|g.hs n d h;rw[<-e];exact u z hz
 .obtain⟨es,e1,I⟩:=J B W;exact⟨es,e1,by rw[g.bo];exact I⟩
 .exact wv3.mpr ⟨λz=>(m x z).2 rfl,N⟩
 .intro b a;rcases wr5.mp a with rfl | a
  .exact h1
  .exact(m b a).1
def uP(G:Pg)(hr:List Str):Rs:=(Rs.dic ⟨[],[],[],[],0,0,0,hr⟩ []).push (G.bo "" "") 0
inductive GM(Y:Ry)(vs:List V)(H:Hp)(Q:VK):Prop
 | mk(R:Rx Y)(md ch:Addr)(ks:List (Str×List Dz))(m0:Dz)(tr:Tr)(late:List Str)(Ls:List LL)(k' m mo:Nat)(S':Rs)(e:Str)(v:V)(h1:vs=[.ref R.pg,.ref md,.ref ch,.int mo])(h2:H md=some (.tup []))(h3:zB R H ks m0 tr late Ls k')(h4:H ch=some (.tup<|R.G.ch.map V.int))(h5:R.H0=H)(h7:m<=120)(h8:m=mo\/e≠"long"/\m<=mo)(t:Rn R.G m 0 (uP R.G<|hr0 tr late) S' e v)
  (q:∀(l tl el:Addr)(ls:List Addr)(H':Hp),FrS [] H H'->H' l=some (.tup [.ref tl,.int S'.lk,.ref el])->H' tl=some (.tup<|ls.map V.ref)->A2 (λr a=>H' a=some (.tup r)) S'.lg ls->H' el=some (.tup [.str e,v])->Q (.ref l) H')
def qX(Y:Ry):Sp:=λvs H Q _=>GM Y vs H Q
def qS(hz:Pz G)(h1:↑hr<=12)(h2:∀x∈hr,x∈G.nm):Wf G (uP G hr) 0:=by
 have a:=hz.bo "" "";have hl:=kT 0<|G.bo "" "";refine⟨?_,λd hd=>?_,?_,aY _,by show ↑hr<=_;lia,h2,(λz hz=>nomatch hz),λd hd=>?_⟩
 .show((G.bo "" "").dues 0++[]).length<=_;rw[fO];lia
 .rcases wt2.mp hd with hd | hd
  .exact rT 0 _ a d hd
  .cases hd
 .show bM ((G.bo "" "").dues 0++[])<=0;rw[fO,jR];exact aY _
 .show ↑d+bM ((G.bo "" "").dues 0++[])<=_;rw[fO,jR];have:d=[]:=by simpa [uP,Rs.push,Rs.dic]using hd
  rw[this];exact bT _
abbrev CK:List Str:=["program","made","choices","most"]
section
variable{Y:Ry}{mg:Str->Option Value}{base:Heap}{f:Addr}{fd:FuncData}
def yp6:bY ["program","made","choices","most","run","end"] CK (bP JR):=cE
def YX{k:Nat}(F:Fun Y.K "whole_run" "whole_run" JR f fd)(Z:cT Y.K Y.C)(M:fX Y mg base k "Run" Y.C.rn uY (CF Y))(AD:aR Y.pr Y.w Y.K mg base (k+1) "add_due" hH (uN Y))(RO:aR Y.pr Y.w Y.K mg base (k+1) "run_on" ["run","most"] (pG Y))(mM:mg "MAIN"=some (.ref am))(hM:∀H,SqT Y.K H am [.str "",.str ""])(a8:mg "tuple"=none):aQ Y.pr Y.w Y.K mg base bQ (k+2) f fd CK (qX Y):=by
 refine F.ok yp6 (λvs H Q E h=>?_) λah A outer s H vs Q E hr h=>?_
 .obtain⟨R,md,ch,ks,L,tr,a,W,I,m,N,u,e,v,rfl,_⟩:=h;rfl
 obtain⟨R,md,ch,ks,L,tr,a,W,I,m,N,u,e,v,rfl,a6,g,ad,rfl,hm,a9,t,q⟩:=h;have hu:=eU hr;exists _,aG (sL 4 yp6.nd<|DO M Az hr rfl<|aA (pv 0)<|aA (pv 1)<|aA (pv 2) aE)
  (aG (dZ<|bC AD hr rfl<|aA (pv 4)<|aA (nE hu (bU Z.r<|pv 4) (kO (v:=.ref am) rfl mM rfl) λ_ _=>rfl)<|aA tJ aE)<|aG (sL 5 yp6.nd<|bC RO hr rfl<|aA (pv 4)<|aA (pv 3) aE)<|aV<|bL<|cX<|aA (fG iB rfl a8 (by rfl')<|aA (bU Z.r<|pv 4) aE)<|aA (bU Z.r<|pv 4)<|aA (pv 5) aE)
 ac_rfl
 refine⟨_,rfl,_,rfl,_,rfl,R,md,ch,ks,L,tr,a,W,I,rfl,a6,g,ad,rfl,λrn A H1 h1=>?_⟩;obtain⟨qs,j⟩:=h1.im.bo;obtain⟨z,af,a7⟩:=ws9.mp<|j.k "" "" g.h0;cases hfd:qs.find? (λq=>decide<|q.1=((("":Str),("":Str)):Pr))with
 | none=>exact absurd a7 (by simpa using vh0.mp hfd z af)
 | some z2=>
  have aa:z2.1=(("":Str),("":Str)):=by simpa using vT hfd
  obtain⟨es,ac,O⟩:=j.e z2<|qM hfd;rw[aa]at O;refine⟨_,rfl,_,rfl,rn,_,_,_,rfl,h1.run,rfl,A.bo,am,qs,(("":Str),("":Str)),z2,rfl,rfl,j.d,j.ok,hM _,hfd,λi ab=>?_⟩;have h2:RunAt R (upd H1 i<|.dK []) rn (A.dic i) (Rs.dic ⟨[],[],[],[],0,0,0,hr0 tr a⟩ []) 0/\Im Y.C H1 (upd H1 i<|.dK []):=h1.dic (d:=[]) ab λz hz=>nomatch hz;have a5:=g.pz.bo "" "";have ae:(A.dic i).δ[0]?=some i:=by
   have:=h1.dc.len;have e:A.δ=[]:=vg5.mp this.symm;show(A.δ++[i])[0]?=some i;rw[e];rfl
  refine⟨R,rn,z2.2.2,i,A.dic i,_,0,0,R.G.bo "" "",es,rfl,h2.1,h2.2.tup _ _ ac,O.keep h2.2.tup,ae,by show 0+_<=_;lia,λus H3 h3 f3=>?_⟩;have a1:↑(hr0 tr a)<=12:=by
   have:=BQ (λx=>decide<|x∉a)<|tr.map (·.1);rw[aI]at this;unfold hr0;have:=g.t12;lia
  refine⟨_,rfl,_,rfl,R,rn,_,_,u,0,m,N,e,v,rfl,h3,qS g.pz a1 g.nm,g.pg,g.pz,bT _,hm,a9,t,λn H4 X ag B f4 a4=>?_⟩;refine⟨_,rfl,rn,_,_,_,rfl,B.run,rfl,n.lo,_,rfl,.inl ⟨SqL.of B.lo,λtl J=>?_⟩⟩;have P:=B.keep0<|FrS.new (o:=.tup<|n.ls.map V.ref) J;refine⟨_,rfl,rn,_,_,_,rfl,P.run,rfl,_,rfl,dM<|bO (by show 3<=_;decide),λl hl=>?_⟩;have T:=P.keep0<|FrS.new (o:=.tup [.ref tl,.int u.lk,.ref X]) hl;exact q l tl X n.ls _ (λb o _ e=>T.kp b o e) zb1 ((Tup.new hl) _ _ zb1) T.im.lg<|((Tup.new J).trans<|Tup.new hl) _ _ a4
def VE:bY ["program","choices","most"] ["program","choices","most"] (bP IR):=cE
inductive JA(Y:Ry)(vs:List V)(H:Hp)(Q:VK):Prop
 | mk(R:Rx Y)(ch:Addr)(ks:List (Str×List Dz))(m0:Dz)(tr:Tr)(late:List Str)(Ls:List LL)(k' m mo:Nat)(S':Rs)(e:Str)(v:V)(h1:vs=[.ref R.pg,.ref ch,.int mo])(h3:∀H',FrS [] H H'->zB ({R with H0:=H'}:Rx Y) H' ks m0 tr late Ls k')(h4:H ch=some (.tup<|R.G.ch.map V.int))(h7:m<=120)(h8:m=mo\/e≠"long"/\m<=mo)(t:Rn R.G m 0 (uP R.G<|hr0 tr late) S' e v)
  (q:∀(l tl el:Addr)(ls:List Addr)(H':Hp),FrS [] H H'->H' l=some (.tup [.ref tl,.int S'.lk,.ref el])->H' tl=some (.tup<|ls.map V.ref)->A2 (λr a=>H' a=some (.tup r)) S'.lg ls->H' el=some (.tup [.str e,v])->Q (.ref l) H')
def DG(Y:Ry):Sp:=λvs H Q _=>JA Y vs H Q
def WP{k:Nat}(F:Fun Y.K "plain_run" "plain_run" IR f fd)(G:aR Y.pr Y.w Y.K mg base k "whole_run" CK (qX Y)):aQ Y.pr Y.w Y.K mg base bQ (k+1) f fd ["program","choices","most"] (DG Y):=by
 refine F.ok VE (λvs H Q E h=>?_) λI A outer s H vs Q E hr h=>?_
 .obtain⟨R,ch,ks,n,tr,a,i,d,m,o,j,e,v,rfl,_⟩:=h;rfl
 obtain⟨R,ch,ks,n,tr,a,i,d,m,o,j,e,v,rfl,g,z,u,C,t,q⟩:=h;exists _,aV<|bL<|bC G hr rfl<|aA (pv 0)<|aA (cX aE)<|aA (pv 1)<|aA (pv 2) aE
 ac_rfl
 refine⟨_,rfl,bT _,λmd r=>?_⟩;have b:FrS [] H (upd H md<|.tup []):=FrS.new r;exact⟨_,rfl,_,rfl,{R with H0:=upd H md<|.tup []},md,ch,ks,n,tr,a,i,d,m,o,j,e,v,rfl,zb1,g _ b,b _ _ aZ z,rfl,u,C,t,λl tl x ls H' B=>q l tl x ls H'<|b.trans B⟩
end
def Up.sub(h:Up tr x l):∀k∈l,∃d,Up tr k d/\∀y∈d,y∈l:=by
 induction h with
 | root hi=>intro k b;rw[wr8.mp b];exact⟨_,.root hi,λy a=>a⟩
 | step hi hu ih=>
  intro k b;rcases wr5.mp b with rfl | b
  .exact⟨_,.step hi hu,λy a=>a⟩
  .obtain⟨d,h1,h2⟩:=ih k b;exact⟨d,h1,λy a=>.tail _<|h2 y a⟩
inductive KqAt(Z:Str->Option Str->Prop)(H:Hp)(y:Str×List Dz)(z:Str×Option Str)(u:Addr)(w:Str×Option Str×List (Str×Addr)):Prop
 | mk(dt:Addr)(h1:w.1=z.1)(h2:w.2.1=z.2)(h0:y.1=z.1)(h3:H u=some (.tup [.str w.1,aS w.2.1,.ref dt]))(h4:H dt=some (.tup<|w.2.2.map λd=>V.ref d.2))(h5:A2 (λ(d:Str×Addr) (e:Dz)=>d.1=e.1/\DeedIs Z H d.2 e) w.2.2 y.2)
def KqAt.ex(h:KindIs Z H u y)(g:∃v,H u=some (.tup [.str z.1,aS z.2,v])):∃w,KqAt Z H y z u w:=by
 obtain⟨e,n,fs,h1,h2,o,m,r⟩:=h;obtain⟨v,g⟩:=g;rw[h1]at g;have q:∀(fs:List Addr)(ds:List Dz),↑fs=↑ds->(∀(j:Nat) f z,fs[j]?=some f->ds[j]?=some z->DeedIs Z H f z)->∃ws:List (Str×Addr),ws.map (λd=>V.ref d.2)=fs.map V.ref/\A2 (λ(d:Str×Addr) (e:Dz)=>d.1=e.1/\DeedIs Z H d.2 e) ws ds:=by
  intro fs
  induction fs with
  | nil=>
   intro ds hl _;cases ds with
   | nil=>exact⟨[],rfl,.nil⟩
   | cons _ _=>cases hl
  | cons f fs ih=>
   intro ds hl hd;cases ds with
   | nil=>cases hl
   | cons d ds=>
    obtain⟨ws,l,i⟩:=ih ds (Nat.succ.inj hl) λj f z a b=>hd (j+1) f z a b;exact⟨(d.1,f)::ws,by rw[dB,l];rfl,.cons ⟨rfl,hd 0 f d rfl rfl⟩ i⟩
 obtain⟨ws,l,i⟩:=q fs y.2 o m;injection g with g;injection g with g;injection g with g1 g2;injection g2 with g2 g3;injection g3 with g3 _;refine⟨(z.1,z.2,ws),n,rfl,rfl,V.str.inj g1,?_,by rw[l];exact h2,i⟩;rw[h1,g1,g2]
inductive KqL(Z:Str->Option Str->Prop)(H:Hp):List (Str×List Dz)->Tr->List Addr->Kq->Prop
 | nil:KqL Z H [] [] [] []
 | cons {y:Str×List Dz} {z:Str×Option Str} {u:Addr} {w:Str×Option Str×List (Str×Addr)} {ks:List (Str×List Dz)} {tr:Tr} {us:List Addr} {kq:Kq} (h:KqAt Z H y z u w) (t:KqL Z H ks tr us kq):KqL Z H (y::ks) (z::tr) (u::us) (w::kq)
theorem KqL.ex:∀(us:List Addr)(ks:List (Str×List Dz))(tr:Tr),↑us=↑ks->↑us=↑tr->(∀(j:Nat) u y,us[j]?=some u->ks[j]?=some y->KindIs Z H u y)->(∀(j:Nat) u z,us[j]?=some u->tr[j]?=some z->∃v,H u=some (.tup [.str z.1,aS z.2,v]))->∃d,KqL Z H ks tr us d
 | [],ks,tr,h1,h2,_,_=>by
  cases ks with
  | nil=>cases tr with
   | nil=>exact⟨_,.nil⟩
   | cons _ _=>cases h2
  | cons _ _=>cases h1
 | u::us,ks,tr,h1,h2,h3,h4=>by
  cases ks with
  | nil=>cases h1
  | cons y ks=>cases tr with
   | nil=>cases h2
   | cons z tr=>
    obtain⟨d,t⟩:=KqL.ex us ks tr (Nat.succ.inj h1) (Nat.succ.inj h2) (λj u y a b=>h3 (j+1) u y a b) λj u z a b=>h4 (j+1) u z a b;obtain⟨w,h⟩:=KqAt.ex (h3 0 u y rfl rfl)<|h4 0 u z rfl rfl;exact⟨_,.cons h t⟩
def KqL.at(h:KqL Z H ks tr us kq):↑us=↑kq/\∀(j:Nat) u w,us[j]?=some u->kq[j]?=some w->∃y∈ks,∃z,KqAt Z H y z u w:=by
 induction h with
 | nil=>exact⟨rfl,λj u w a=>nomatch a⟩
 | cons h _ ih=>
  refine⟨cM (·+1) ih.1,λj u w a b=>?_⟩;cases j with
  | zero=>cases a;cases b;exact⟨_,.head _,_,h⟩
  | succ j=>
   obtain⟨y,d,z,e⟩:=ih.2 j u w a b;exact⟨y,.tail _ d,z,e⟩
def KqL.has(h:KqL Z H ks tr us kq):∀y∈ks,∀e∈y.2,(eV kq y.1 e.1).isSome:=by
 induction h with
 | nil=>intro y j;cases j
 | @cons y z u w ks tr us kq h t ih=>
  intro f a e he;obtain⟨n,h1,h2,h0,o,m,l⟩:=h;unfold eV;rw[CL]
  split
  .rfl
  .rename_i hn
   rcases wr5.mp a with rfl | a
   .rw[bE<|h1.trans h0.symm]at hn;obtain⟨i,hi⟩:=wv6.mp he;obtain⟨d,hd,b,_⟩:=A2.back l hi;have:=Option.map_eq_none_iff.mp hn;exact absurd (eE b) (by simpa using vh0.mp this d (dC hd))
   .exact ih f a e he
def KqL.fd(h:KqL Z H ks tr us kq)(a:eV kq n d=some g):∃y∈ks,y.1=n/\∃e∈y.2,e.1=d/\DeedIs Z H g e:=by
 induction h with
 | nil=>cases a
 | @cons y z u w ks tr us kq h t ih=>
  obtain⟨q,h1,h2,h0,r,o,m⟩:=h;unfold eV at a;rw[CL]at a
  split at a
  .rename_i v hv
   cases a
   split at hv
   .rename_i hn
    obtain⟨x,b,rfl⟩:=wt0.mp hv;have hd:x.1=d:=by simpa using vT b
    obtain⟨i,hi⟩:=wv6.mp<|qM b;obtain⟨e,he,f,D⟩:=m.get hi;exact⟨y,.head _,(h0.trans h1.symm).trans hn,e,dC he,f.symm.trans hd,D⟩
   .cases hv
  .obtain⟨l,j,e⟩:=ih a;exact⟨l,.tail _ j,e⟩
def KqL.dq(h:KqL Z H ks tr us kq)(hp:H p=some (.tup [.ref kt,x,y]))(o:H kt=some (.tup<|us.map V.ref)):DeedsQ H p kq:=by
 refine⟨kt,us,x,y,hp,o,h.at.1,λj u w a b=>?_⟩;obtain⟨B,_,z,l,h1,h2,h0,m,f,r⟩:=h.at.2 j u w a b;refine⟨l,m,f,λd hd=>?_⟩;obtain⟨i,hi⟩:=wv6.mp hd;obtain⟨e,_,n,A,s,q,_⟩:=r.get hi;exact⟨_,by rw[n];exact q⟩
def XJ(n:ProgIs Z H p ks m0):(∀z∈dP ks m0,RowsIs Z H z.2)/\↑(dP ks m0)<=961:=by
 obtain⟨E,us,lt,h1,h2,o,w,C,G⟩:=n;have m:∀y∈ks,∃u,KindIs Z H u y:=λy a=>by
  obtain⟨j,b⟩:=wv6.mp a;have hl:j<↑us:=by rw[o];exact(wr1.mp b).1
  exact⟨_,w j _ y (bH hl) b⟩
 constructor
 .intro z hz;rcases wr5.mp hz with rfl | hz
  .exact C
  .obtain⟨y,a,hz⟩:=List.mem_flatMap.mp hz;obtain⟨e,he,rfl⟩:=ws9.mp hz;obtain⟨u,q,B,fs,A,x,f,i,s⟩:=m y a;obtain⟨j,b⟩:=wv6.mp he;have hl:j<↑fs:=by rw[f];exact(wr1.mp b).1
   obtain⟨_,_,_,_,r⟩:=i j _ e (bH hl) b;exact r
 .have d:∀l:List (Str×List Dz),(∀y∈l,↑y.2<=80)->↑(l.flatMap jJ)<=80*↑l:=by
   intro l
   induction l with
   | nil=>intro _;exact aY _
   | cons y l ih=>
    intro h;have h1:=h y<|.head _;have h2:=ih λz hz=>h z<|.tail _ hz;rw[List.flatMap_cons,bJ,cL];have:↑(jJ y)=↑y.2:=List.length_map _;lia
  have:=d ks λy a=>by obtain⟨u,q,B,fs,A,x,f,i,s⟩:=m y a;lia
  unfold dP;rw[cL];lia
def Af:0<=iS kq d l:=by
 unfold iS
 split
 .exact Int.natCast_nonneg _
 .rename_i f _
  have:ixV (.str f) (l.reverse.map V.str)<=↑l:=by
   unfold ixV;have:=List.findIdx_le_length (p:=λy=>gY y<|.str f) (xs:=l.reverse.map V.str);rw[aI,iE]at this;exact this
  lia
def GT{Y:Ry}(C:ProgIs Z H p ks m0)(J:KindsAt H p tr)(ok:TrOk tr)(T:↑tr<=12)(ad:LateAt H p tr late)(W:QK Z ks tr)(B:List Int)(hc:∀c∈B,-100<=c):
  ∃(G:Pg)(o:List LL)(A:Nat),G.ch=B/\(∀k d,0<=G.co k d)/\∀H',FrS [] H H'->zB (⟨Z,H',p,G⟩:Rx Y) H' ks m0 tr late o A:=by
 obtain⟨kt,us,lt,h1,h2,h3,h4,h5,h6⟩:=id C;obtain⟨ap,ts,x,y,g1,X,g3,g4⟩:=id J;rw[h1]at g1;cases g1;rw[h2]at X;have af:us=ts:=by
  have e:us.map V.ref=ts.map V.ref:=HO.tup.inj<|jN X;exact(List.map_inj_right λa b h=>V.ref.inj h).mp e
 subst af;obtain⟨j,w⟩:=KqL.ex us ks tr h3 g3 h4 g4;obtain⟨hR,ak⟩:=XJ C;obtain⟨o,A,M,am⟩:=LyB.mk (dP ks m0) hR 0;obtain⟨ln,q⟩:∃ln:Str->List Str,∀k,(k∈tr.map (·.1)->Up tr k (ln k))/\(k∉tr.map (·.1)->ln k=[]):=by
  have:∀k,∃l,(k∈tr.map (·.1)->Up tr k l)/\(k∉tr.map (·.1)->l=[]):=λk=>by
   by_cases c:k∈tr.map (·.1)
   .obtain⟨z,hz,rfl⟩:=ws9.mp c;obtain⟨i,hi⟩:=wv6.mp hz;obtain⟨l,hl⟩:=Up.exists ok i _ _ hi;exact⟨l,λ_=>hl,λh=>absurd c h⟩
   .exact⟨[],λh=>absurd h c,λ_=>rfl⟩
  exact⟨λk=>(this k).choose,λk=>(this k).choose_spec⟩
 obtain⟨F,I⟩:∃F:Str->Str->List Str×Option Str,∀f d,(F f d).1.length<=1000/\∀g,eV j f d=some g->∃pt v,H g=some (.tup [.str d,.ref pt,v,aS (F f d).2])/\H pt=some (.tup<|(F f d).1.map V.str):=by
  have:∀f d,∃r:List Str×Option Str,↑r.1<=1000/\∀g,eV j f d=some g->∃pt v,H g=some (.tup [.str d,.ref pt,v,aS r.2])/\H pt=some (.tup<|r.1.map V.str):=λf d=>by
   cases e:eV j f d with
   | none=>exact⟨([],none),bT _,λg h=>nomatch h⟩
   | some g=>
    obtain⟨y,_,_,u,_,rfl,an,al,d1,⟨pt,ps,E,rfl,p2,rfl,p4⟩,_⟩:=w.fd e;exact⟨(ps,E),p4,λg' h=>by cases h;exact⟨pt,_,d1,p2⟩⟩
  exact⟨λf d=>(this f d).choose,λf d=>(this f d).choose_spec⟩
 refine⟨⟨tr.map (·.1),λn d=>(n,d)∈(dP ks m0).map (·.1),ln,λk d=>(dH j d<|ln k).getD "",λk d=>iS j d<|ln k,λf d=>(F f d).1,λf d=>(F f d).2,λn d=>kM (((dP ks m0).map (·.1)).zip o) (n,d),B⟩,o,A,rfl,λk d=>Af,λH' f=>?_⟩;have t:=Tup.of0 f;have ai:∀(L:List LL)(zs:List Bz)(k k2:Nat),LyB Z H k zs L k2->∀l∈L,l.size<=80:=λL zs k k2 h=>by
  induction h with
  | nil=>intro l hl;cases hl
  | cons _ _ hz _ ih=>
   intro l hl;rcases wr5.mp hl with rfl | hl
   .exact hz
   .exact ih l hl
 have P:∀n d,(kM (((dP ks m0).map (·.1)).zip o) (n,d)).size<=80:=λn d=>QV _ _ (bT _) λz hz=>ai o _ _ _ M _ (xV hz).2;refine {p:=C.keep t,k:=J.keepT t,l:=ad.keep t,t12:=T,b:=M.keep t,k6:=by lia,hs:=λn d h=>h,h0:=by show _∈(dP ks m0).map (·.1);exact .head _,bo:=λ_ _=>rfl,pg:=⟨tr,j,?_⟩,pz:=?_,nm:=λx m=>(vm1.mp m).1}
 .refine {kn:=J.keepT t,dq:=(w.dq h1 h2).keep t,ok:=ok,l12:=T,nm:=rfl,ln:=λk hk=>(q k).1 hk,z0:=W.nb,ch:=hc,ca:=λk d hz x m aa=>?_};obtain⟨ao,n,l,a8,ah,y,hy,ag,e,he,ac⟩:=W.hz k d hz;have a7:=(q x).1 m;obtain⟨l',ab,a3⟩:=a7.sub k aa;have hn:n∈ln x:=by
   have:=Up.inj ok a8 ab;exact a3 n (by rw[<-this];exact ah)
  have a1:(eV j n d).isSome:=by rw[<-ag,<-ac];exact w.has y hy e he
  cases ea:dH j d (ln x)with
  | none=>exact absurd a1 (by simpa using vh0.mp ea n hn)
  | some fx=>
   have ae:(eV j fx d).isSome:=vT (p:=λx=>(eV j x d).isSome) ea;obtain⟨g,K⟩:=vk9.mp ae;obtain⟨pt,v,e1,e2⟩:=(I fx d).2 g K;obtain⟨N,aj,a2,u,a9,a4,_⟩:=w.fd K;have s:(dH j d<|ln x).getD ""=fx:=by rw[ea];rfl
   refine⟨g,pt,v,?_,?_,?_,?_,?_,rfl,P _ _,(I _ _).1⟩
   .show dH j d (ln x)=some ((dH j d<|ln x).getD "");rw[s];exact ea
   .show eV j ((dH j d<|ln x).getD "") d=some g;rw[s];exact K
   .show H' g=some (.tup [.str d,.ref pt,v,aS (F ((dH j d<|ln x).getD "") d).2]);rw[s];exact t _ _ e1
   .show H' pt=some (.tup<|(F ((dH j d<|ln x).getD "") d).1.map V.str);rw[s];exact t _ _ e2
   .show((dH j d<|ln x).getD "",d)∈(dP ks m0).map (·.1);rw[s];refine .tail _<|ws9.mpr ⟨((N.1,u.1),u),List.mem_flatMap.mpr ⟨N,aj,ws9.mpr ⟨u,a9,rfl⟩⟩,?_⟩;rw[a2,a4]
 .refine⟨P,λf d=>(I f d).1,λk=>?_,λk x m=>?_⟩
  .by_cases c:k∈tr.map (·.1)
   .have O:=(q k).1 c;obtain⟨i,E,hi⟩:=O.at;have:=Up.len ok i k E _ hi O;have:=(wr1.mp hi).1;show(ln k).length<=12;lia
   .show(ln k).length<=12;rw[(q k).2 c];exact bT _
  .by_cases c:k∈tr.map (·.1)
   .exact((q k).1 c).mem x m
   .have m:x∈ln k:=m;rw[(q k).2 c]at m;cases m
abbrev oU:Stmt:=top 67
abbrev KO:Stmt:=top 68
def FrS.old1(f:FrS [a] H H')(h:H' a=some o)(hp:H' p=none):H p=none:=f.old (λb d=>by
 have:b=a:=by simpa using d
 subst this;exact⟨_,h⟩) hp
inductive AC(vs:List V)(H:Hp)(Q:VK):Prop
 | mk(hd:Addr)(d m t r:Int)(h1:vs=[.ref hd])(h2:Hand H hd d m t r)(h3:t<=20000)(h4:∀(ch:Addr)(cs:List Int)(H':Hp),FrS [hd] H H'->H' ch=some (.tup<|cs.map V.int)->(∀c∈cs,-100<=c)->Q (.ref ch) H')
def GY:Sp:=λvs H Q _=>AC vs H Q
inductive NC(H:Hp)(hd Dl:Addr)(t r:Int)(i:Nat)(σ:St)(Hx:Hp):Prop
 | mk(x:Option V)(cs:List Int)(dx mx tx:Int)(h1:σ=[x,some<|.ref hd])(h2:FrS [hd] H Hx)(h3:Hand Hx hd dx mx tx r)(h4:tx<=t+1+i)(h5:Hx Dl=some (.lst<|cs.map V.int))(h6:↑cs=i)(h7:∀c∈cs,-100<=c)
def yR:bY [qH] [qH] (bP oU):=cE
def rG{k:Nat}(F:Fun K "_law_choices" "_law_choices" oU f fd)(T:aR P w K mg base k "_law_take" qB fZ)(O:aR P w K mg base k "_law_of" qC (cR K))(mr:mg "range"=none)(ac:mg "tuple"=none):aQ P w K mg base bQ (k+1) f fd [qH] GY:=by
 refine F.ok yR (λvs H Q E h=>?_) λah A outer s H vs Q E hr h=>?_
 .obtain⟨hd,d,m,t,r,rfl,_⟩:=h;rfl
 obtain⟨hd,d,m,t,r,rfl,hh,ht,q⟩:=h;have ag:(["_law_k",qH]:List Str).Nodup:=by rfl'
 exists _,aV (bL (fG iB rfl ac (by rfl') (aA (jZ (N':=["_law_k",qH]) (src:=[none,some 0]) rfl fH (lN rfl mr<|aA (bC T hr rfl<|aA (pv 0)<|aA aN aE) aE) (g:=cG 0) (λ_ _ _ _=>gL 0 ag) (λ_ _ _ _=>gT)
  (te:=gE (cR K) [] E0<|bG (aL 1)<|bG (lA<|bG (tC<|.int 0)<|bG (tC<|.int 1)<|bG (tC<|.int 1)<|bG (tC<|.int 2)<|bG (tC<|.int 3)<|bG (tC<|.int 12)<|bG (JL (rU λi=>.int<|-i)<|tC<|.int 1)<|bG (tC<|.int 0) bK) bK)
  (λ_ _ _ _=>bC O hr rfl<|aA (pv 1)<|aA (cW<|aA aN<|aA aN<|aA aN<|aA aN<|aA aN<|aA aN<|aA (kK kS aN)<|aA aN aE) aE)) aE)))
 ac_rfl
 refine⟨_,rfl,hd,d,m,t,r,9,rfl,hh,by lia,by decide,by decide,λx C G B x0 x1 c1 e1=>?_⟩;have f1:FrS [hd] H (upd H hd<|hl C G B r):=FrS.chg<|.head _;have L:Hand (upd H hd<|hl C G B r) hd C G B r:=Hand.at c1;generalize upd H hd (hl C G B r)=H1 at f1 L;refine⟨x,rfl,by lia,by lia,λa J=>?_⟩;have aa:a≠hd:=λz=>by rw[z,L.1]at J;cases J
 have a8:H a=none:=FrS.old1 f1 L.1 J;refine KR (lo:=0) (n:=x.toNat) (NC H hd a t r) ⟨_,[],C,G,B,rfl,f1.put a8,L.new J,by lia,zb1,rfl,λc hc=>nomatch hc⟩ ?_ ?_
 .rintro i σ M hi ⟨_,l,dx,mx,tx,rfl,Z,a7,ab,N,a9,a6⟩;refine⟨_,rfl,_,rfl,dM<|bO (by show 8<=_;decide),λu I=>?_⟩;have af:u≠hd:=λz=>by rw[z,a7.1]at I;cases I
  have ae:=a7.new (o:=.lst [.int 0,.int 1,.int 1,.int 2,.int 3,.int 12,.int<|-1,.int 0]) I;refine⟨hd,u,dx,mx,tx,r,_,rfl,ae,by lia,af,SqL.of zb1,by simp,by show 8<1000;decide,λy e b j hy c2 e2=>?_⟩;obtain⟨c,rfl,hc⟩:∃c:Int,y=.int c/\-100<=c:=by
   simp only[wr5,aZ,cY]at hy;rcases hy with rfl | rfl | rfl | rfl | rfl | rfl | rfl | rfl <;> exact⟨_,rfl,by decide⟩
  have Y:FrS [hd] H (upd (upd M u<|.lst [.int 0,.int 1,.int 1,.int 2,.int 3,.int 12,.int<|-1,.int 0]) hd<|hl e b j r):=(Z.trans<|FrS.new I).put'<|.head _;have X:Hand (upd (upd M u<|.lst [.int 0,.int 1,.int 1,.int 2,.int 3,.int 12,.int<|-1,.int 0]) hd<|hl e b j r) hd e b j r:=Hand.at c2;have W:upd (upd M u<|.lst [.int 0,.int 1,.int 1,.int 2,.int 3,.int 12,.int<|-1,.int 0]) hd (hl e b j r) a=some (.lst<|l.map V.int):=by rw[aC aa,aC<|bA N I];exact N
  refine(λ(key:∀H2:Hp,FrS [hd] H H2->Hand H2 hd e b j r->H2 a=some (.lst<|l.map V.int)->∃ys,H2 a=some (.lst ys)/\↑ys<sizeLine/\NC H hd a t r (i+1) [some<|V.int<|0+i,some<|.ref hd] (upd H2 a<|.lst<|ys++[V.int c]))=>key _ Y X W) ?_;clear Y X W;intro H2 Y X W;refine⟨_,W,bO (by rw[aI];lia),_,l++[c],e,b,j,rfl,Y.put a8,⟨(aC<|bW aa).trans X.1,c2⟩,by lia,by rw[zb1,bX];rfl,by rw[bJ,a9];rfl,λz hz=>?_⟩;rcases wt2.mp hz with hz | hz
  .exact a6 z hz
  .rw[wr8.mp hz];exact hc
 .rintro σ M ⟨_,l,dx,mx,tx,rfl,Z,a7,ab,N,a9,a6⟩;refine⟨a,_,rfl,.inl ⟨SqL.of N,λch ad=>?_⟩⟩;exact q ch l _ (Z.trans<|FrS.new ad) zb1 a6
def ResAt(H:Hp)(r:Rs×Str×V)(l:Addr):Prop:=∃(tl el:Addr)(ls:List Addr),H l=some (.tup [.ref tl,.int r.1.lk,.ref el])/\H tl=some (.tup<|ls.map V.ref)/\A2 (λx a=>H a=some (.tup x)) r.1.lg ls/\H el=some (.tup [.str r.2.1,r.2.2])
def ResAt.keep(h:ResAt H r l)(f:Tup H H'):ResAt H' r l:=by
 obtain⟨tl,a,ls,h1,h2,b,d⟩:=h;exact⟨tl,a,ls,f _ _ h1,f _ _ h2,b.imp λ_ _ e=>f _ _ e,f _ _ d⟩
structure GB{Y:Ry}(R:Rx Y)(H:Hp)(ch:Addr)(ks:List (Str×List Dz))(m0:Dz)(tr:Tr)(late:List Str)(Ls:List LL)(k':Nat):Prop where
 g:∀H',FrS [] H H'->zB ({R with H0:=H'}:Rx Y) H' ks m0 tr late Ls k'
 c:H ch=some (.tup<|R.G.ch.map V.int)
def GB.keep{Y:Ry}{R:Rx Y}(h:GB R H ch ks m0 tr late Ls k')(f:FrS [] H H'):GB R H' ch ks m0 tr late Ls k':=⟨λH2 g=>h.g H2<|f.trans g,f _ _ aZ h.c⟩
structure pX(G:Pg)(hr:List Str)(rs:List (Rs×Str×V)):Prop where
 a:∀(i:Nat) r,rs[i]?=some r->Rn G i 0 (uP G hr) r.1 r.2.1 r.2.2
 l:∀(i:Nat) r,rs[i]?=some r->i+1<↑rs->r.2.1="long"
inductive pI(Y:Ry)(vs:List V)(H:Hp)(Q:VK):Prop
 | mk(R:Rx Y)(ch:Addr)(ks:List (Str×List Dz))(m0:Dz)(tr:Tr)(late:List Str)(Ls:List LL)(k':Nat)(h1:vs=[.ref R.pg,.ref ch])(h2:GB R H ch ks m0 tr late Ls k')
  (h3:∀(fl:Addr)(rs:List (Rs×Str×V))(ls:List Addr)(H':Hp),FrS [] H H'->H' fl=some (.lst<|ls.map V.ref)->A2 (ResAt H') rs ls->pX R.G (hr0 tr late) rs->1<=↑rs->↑rs<=120->Q (.ref fl) H')
def EO(Y:Ry):Sp:=λvs H Q _=>pI Y vs H Q
inductive UQ{Y:Ry}(R:Rx Y)(H:Hp)(ch fl:Addr)(hr:List Str)(i:Nat)(σ:St)(Hx:Hp):Prop
 | mk(x:Option V)(rs:List (Rs×Str×V))(ls:List Addr)(h1:σ=[some<|.ref R.pg,some<|.ref ch,some<|.ref fl,x])(h2:FrS [] H Hx)(h3:Hx fl=some (.lst<|ls.map V.ref))(h4:A2 (ResAt Hx) rs ls)(h5:pX R.G hr rs)(h6:↑rs=i)(h7:∀r∈rs,r.2.1="long")
section
variable{Y:Ry}{mg:Str->Option Value}{base:Heap}{f:Addr}{fd:FuncData}
abbrev CW:List Str:=["_law_program_here","_law_choices_here"]
def xk1:bY ["_law_program_here","_law_choices_here","_law_found","_law_most"] CW (bP KO):=cE
def UR{k:Nat}(F:Fun Y.K "_law_runs" "_law_runs" KO f fd)(PL:aR Y.pr Y.w Y.K mg base k "plain_run" ["program","choices","most"] (DG Y))(mr:mg "range"=none):aQ Y.pr Y.w Y.K mg base bQ (k+1) f fd CW (EO Y):=by
 refine F.ok xk1 (λvs H Q E h=>?_) λad A outer s H vs Q E hr h=>?_
 .obtain⟨R,ch,ks,m0,tr,b,W,P,rfl,_⟩:=h;rfl
 obtain⟨R,ch,ks,m0,tr,b,W,P,rfl,g,q⟩:=h;exists _,aG (sL 2 xk1.nd<|cW aE)
  (aG (eC dW rfl (lN rfl mr<|aA aN aE) (gL 3 xk1.nd)<|aG (dZ<|fI eX fQ fV fL (pv 2)<|aA (bC PL hr rfl<|aA (pv 0)<|aA (pv 1)<|aA (pv 3) aE) aE)<|aV<|cK (cA EQ (eT (eT (eI (pv 2)<|kK kS aN) aN) aN) bR<|cF _) (aV<|bL<|pv 2) cO)<|aV<|bL<|pv 2)
 ac_rfl
 refine⟨bT _,λfl a6=>⟨120,rfl,by decide,by decide,?_⟩⟩;refine vU (lo:=0) (n:=120) (UQ R H ch fl<|hr0 tr b) ⟨_,[],[],rfl,FrS.new a6,zb1,.nil,⟨(λi r h=>nomatch h),λi r h=>nomatch h⟩,rfl,λr h=>nomatch h⟩ ?_ ?_
 .rintro i σ Hx hi ⟨_,rs,ls,rfl,B,x,C,J,hl,I⟩;obtain⟨m,e,v,t⟩:=Rn.all R.G i _ 0 (uP R.G<|hr0 tr b)<|aY _;have X:=g.keep B;have ae:=C.len;refine⟨_,rfl,.inl ⟨rfl,_,SqL.of x⟩,_,rfl,_,rfl,_,rfl,R,ch,ks,m0,tr,b,W,P,i,i,m,e,v,?_,X.g,X.c,by lia,.inl rfl,t,λl tl el ab H1 N e1 e2 e3 e4=>?_⟩
  .rw[Int.zero_add];rfl
  have a9:=N _ _ aZ x;have o:Tup H1 (upd H1 fl<|.lst<|ls.map V.ref++[.ref l]):=Tup.lst a9;have M:FrS [] H (upd H1 fl<|.lst<|ls.map V.ref++[.ref l]):=(B.trans N).put a6;exists fl,_,_,rfl,rfl,a9,bO (by rw[aI];lia);have L:upd H1 fl (.lst<|ls.map V.ref++[.ref l]) fl=some (.lst<|ls.map V.ref++[.ref l]):=zb1;generalize upd H1 fl (.lst<|ls.map V.ref++[.ref l])=H2 at o M L;have a2:ResAt H2 (m,e,v) l:=ResAt.keep ⟨tl,el,ab,e1,e2,e3,e4⟩ o;have Z:A2 (ResAt H2) (rs++[(m,e,v)]) (ls++[l]):=(C.imp λ_ _ h=>h.keep<|(Tup.of0 N).trans o).snoc a2;have T:H2 fl=some (.lst<|(ls++[l]).map V.ref):=by rw[L,bX];rfl
  have O:pX R.G (hr0 tr b) (rs++[(m,e,v)]):=by
   refine⟨λj r d=>?_,λj r d ac=>?_⟩
   .by_cases c:j<↑rs
    .rw[jM c]at d;exact J.a j r d
    .have aa:=(wr1.mp d).1;rw[bJ,dQ]at aa;have ej:j=i:=by lia
     rw[iR (by lia),show j-↑rs=0 by lia]at d;cases d;rw[ej];exact t
   .rw[bJ,dQ]at ac;rw[jM<|by lia]at d;exact I r<|dC d
  exists _,rfl,_,rfl,fl,_,_,.ref l,rfl,rfl,SqL.of L,MS _ _,l,_,_,_,rfl,rfl,SqT.of<|o _ _ e1,rfl,el,_,_,_,rfl,rfl,SqT.of<|o _ _ e4,rfl,rfl,_,rfl;refine bB (λc=>?_) λc=>?_
  .exact⟨_,rfl,q fl _ _ H2 M T Z O (by rw[bJ];exact Nat.le_add_left _ _)<|by rw[bJ,dQ];lia⟩
  .have ce:e="long":=Classical.byContradiction λn=>c (by rw[gA λz=>n<|V.str.inj z];rfl)
   refine⟨_,rs++[(m,e,v)],ls++[l],rfl,M,T,Z,O,by rw[bJ,hl];rfl,λr u=>?_⟩;rcases wt2.mp u with u | u
   .exact I r u
   .rw[wr8.mp u];exact ce
 .rintro σ Hx ⟨_,rs,ls,rfl,B,x,C,J,hl,I⟩;exact⟨_,rfl,q fl rs ls Hx B x C J (by lia)<|by lia⟩
end
def Fl1(n:Nat)(l:List (List V)):Prop:=↑l<=n/\∀r∈l,∀x∈r,gQ x x
def Fl1.mono(h:Fl1 n l)(g:n<=m):Fl1 m l:=⟨gF h.1 g,h.2⟩
def Fl1.app(h:Fl1 n l)(g:∀x∈r,gQ x x):Fl1 (n+1) (l++[r]):=⟨by rw[bJ];exact Nat.succ_le_succ h.1,λr' hr=>(wt2.mp hr).elim (h.2 r') λhr=>by rw[wr8.mp hr];exact g⟩
def lB{s:Str}:gQ (.str s) (.str s):=.inl ⟨s,rfl,rfl⟩
def yK{i:Int}:gQ (.int i) (.int i):=.inr<|.inl ⟨i,rfl,rfl⟩
def lF(h:gQ x x)(g:∀y∈l,gQ y y):∀y∈x::l,gQ y y:=λy a=>(wr5.mp a).elim (λe=>by rw[e];exact h)<|g y
def FU:∀y∈([]:List V),gQ y y:=λy a=>nomatch a
theorem SM:∀(l:List Str)(S:Rs)(n:Nat),Fl1 n S.lg->Fl1 (n+↑l) (l.foldl Rs.come S).lg
 | [],S,n,h=>h
 | k::l,S,n,h=>by
  refine(SM l (S.come k) (n+1) ?_).mono (by rw[cL];lia);unfold Rs.come
  split
  .exact h.mono<|jB _
  .exact h.app<|lF lB<|lF lB FU
def LJ{S:Rs}{v:V}{f:Int->Rs×Option Str}(h:Fl1 n S.lg)(g:∀j,Fl1 n (f j).1.lg):Fl1 n (S.thing v f).1.lg:=by
 cases v with
 | int j=>exact g j
 | _=>exact h
def SD{P:Pg}(hz:∀k,↑(P.ln k)<=12)(S:Rs)(d:Du)(h:Fl1 n S.lg):Fl1 (n+12) (doR P S d).1.lg:=by
 have ite:∀{c:Prop} [Decidable c] {a b:Rs×Option Str},Fl1 (n+12) a.1.lg->Fl1 (n+12) b.1.lg->Fl1 (n+12) (if c then a else b).1.lg:=λh1 h2=>by split <;> assumption
 have h':=h.mono<|jV n 12;cases d with
 | op m' a r m=>
  cases r with
  | make x k=>exact ite h' h'
  | copy x y=>exact h'
  | put x f y=>exact LJ h' λj=>h'
  | take x y f=>exact LJ h' λj=>h'
  | say w=>exact(h.app<|lF lB<|lF yK<|lF lB FU).mono (by lia)
  | bring k=>exact(SM _ S n h).mono (by rw[iE];have:=hz k;lia)
 | call m' a x y k d as m=>exact LJ h' λj=>ite (ite h'<|(h.app<|lF lB<|lF yK<|lF lB<|lF lB FU).mono<|by lia) h'
 | either m' a p q m=>exact h'
 | again m' a p m=>
  show Fl1 _ (pushN _ _ _ _).lg;rw[(zY _ _).1];exact h'
 | back x g s m=>exact h'
def Rn.fl{P:Pg}(hz:∀k,↑(P.ln k)<=12)(t:Rn P mo dn S S' e v)(h:Fl1 n S.lg):Fl1 (n+12*(mo-dn)) S'.lg/\gQ v v:=by
 induction t generalizing n with
 | done _=>exact⟨h.mono<|jV _ _,.inr<|.inr ⟨rfl,rfl⟩⟩
 | back _ _ ih=>exact ih h
 | long _ _ _=>exact⟨h.mono<|jV _ _,yK⟩
 | @stop dn m S S' d r e _ _ hm he=>
  have:=SD hz {S with td:=r} d h;rw[he]at this;exact⟨this.mono (by lia),yK⟩
 | @go dn m S S1 S' d r e v _ _ hm he _ ih=>
  have:=SD hz {S with td:=r} d h;rw[he]at this;obtain⟨h1,h2⟩:=ih this;exact⟨h1.mono (by lia),h2⟩
def Rn.fin{P:Pg}(b:∀k d,0<=P.co k d)(t:Rn P mo dn S S' e v)(h:e="done"):v=.non:=by
 induction t with
 | done _=>rfl
 | back _ _ ih=>exact ih h
 | long _ _ _=>exact absurd h (by rfl')
 | @stop dn n S S' d r e _ _ _ he=>
  obtain⟨z,_,_,_,a⟩:=BA b {S with td:=r} d;rw[he]at a;exact absurd h (a e rfl).2
 | go _ _ _ _ _ ih=>exact ih h
def PD{K:Fq}{H:Hp}(hl:∀r∈l,∀x∈r,gQ x x)(h:A2 (λx a=>H a=some (.tup x)) l ls)(g:A2 (λx a=>H a=some (.tup x)) l ls'):A2 (Sm K H 1) (ls.map V.ref) (ls'.map V.ref):=by
 induction h generalizing ls' with
 | nil=>cases g;exact .nil
 | @cons r a l ls e t ih=>
  cases g with
  | cons e' t'=>
   refine .cons (.inr ⟨a,_,r,r,rfl,rfl,.inl e,.inl e',?_⟩)<|ih (λr hr=>hl r<|.tail _ hr) t';have:∀r:List V,(∀x∈r,gQ x x)->A2 (Sm K H 0) r r:=λr=>by
    induction r with
    | nil=>exact λ_=>.nil
    | cons x r ih=>exact λh=>.cons (h x<|.head _)<|ih λy b=>h y<|.tail _ b
   exact this r<|hl r<|.head _
def pW{K:Fq}{H:Hp}{r:Rs×Str×V}(hl:∀x∈r.1.lg,∀y∈x,gQ y y)(q:gQ r.2.2 r.2.2)(h:ResAt H r a)(g:ResAt H r b):EE K H (Sm K H 2) (.ref a) (.ref b):=by
 obtain⟨tl,j,ls,h1,h2,l,e⟩:=h;obtain⟨m,d,s,o,i,n,f⟩:=g;exact⟨a,b,_,_,rfl,rfl,.inl h1,.inl o,.cons (.inr ⟨tl,m,_,_,rfl,rfl,.inl h2,.inl i,PD hl l n⟩)<|.cons (.inl yK)<|.cons (.inr ⟨j,d,_,_,rfl,rfl,.inl e,.inl f,.cons (.inl lB)<|.cons (.inl q) .nil⟩) .nil⟩
abbrev fP:Stmt:=top 69
inductive nV(K:Fq)(vs:List V)(H:Hp)(Q:VK):Prop
 | mk(a:Addr)(ns:List Int)(h1:vs=[.ref a])(h2:SqL K H a (ns.map V.int))(h3:↑ns<=63)(h4:∀H',Q (.bl true) H'):nV K vs H Q
def AW(K:Fq):Sp:=λvs H Q _=>nV K vs H Q
inductive wC(K:Fq)(a:Addr)(ns:List Int)(i:Nat)(σ:St)(Hx:Hp):Prop
 | mk(x1 x2 x3 x4 x5 x6 x7 x8 x9 x10:Option V)(h1:σ=[some<|.ref a,x1,x2,x3,x4,x5,x6,x7,x8,x9,x10])(h2:SqL K Hx a (ns.map V.int)):wC K a ns i σ Hx
inductive OD(H1:Hp)(xs:List (Option V))(y z:Option V)(i:Nat)(σ:St)(Hx:Hp):Prop
 | mk(x1 x2 x3:Option V)(hσ:σ=xs++[x1,x2,x3,y,z])(fr:FrS [] H1 Hx):OD H1 xs y z i σ Hx
inductive PN(H1:Hp)(xs:List (Option V))(i:Nat)(σ:St)(Hx:Hp):Prop
 | mk(x:Option V)(hσ:σ=xs++[x])(fr:FrS [] H1 Hx):PN H1 xs i σ Hx
inductive QG(H1:Hp)(Dl:Addr)(i:Nat)(σ:St)(Hx:Hp):Prop
 | mk(x:Option V)(hσ:σ=[x])(fr:FrS [] H1 Hx)(hD:Hx Dl=some (.lst<|(List.replicate i true).map V.bl)):QG H1 Dl i σ Hx
def JY(h:SqL K H a xs)(f:∀b o,H b=some o->H' b=some o):SqL K H' a xs:=by
 rcases h with (h | ⟨o,h⟩) | h
 .exact .inl<|.inl<|f _ _ h
 .exact .inl<|.inr ⟨o,f _ _ h⟩
 .exact .inr h
theorem A2.split{α β:Type}{R:α->β->Prop}:∀{as a:List α}{bs:List β},A2 R (as++a) bs->A2 R as (bs.take ↑as)/\A2 R a (bs.drop ↑as)
 | [],_,_,h=>⟨.nil,h⟩
 | _::_,_,_,.cons h t=>⟨.cons h (A2.split t).1,(A2.split t).2⟩
section
variable{Y:Ry}{mg:Str->Option Value}{base:Heap}{f:Addr}{fd:FuncData}
def zw4:bY ["_law_script","_law_k",qH,"_law_program_here","_law_choices_here","_law_runs_here","_law_one","_law_other","_law_more","_law_last","_law_most"] ["_law_script"] (bP fP):=cE
def pJ{k:Nat}(F:Fun Y.K "law" "law" fP f fd)(HN:aR Y.pr Y.w Y.K mg base k "_law_hand" ["_law_script","_law_k"] (FE Y.K))(PR:aR Y.pr Y.w Y.K mg base k "_law_program" [qH,"_law_most"] KB)(CH:aR Y.pr Y.w Y.K mg base k "_law_choices" [qH] GY)(RU:aR Y.pr Y.w Y.K mg base k "_law_runs" CW (EO Y))(PL:aR Y.pr Y.w Y.K mg base k "plain_run" ["program","choices","most"] (DG Y))
  (ml:mg "len"=none) (mr:mg "range"=none) (mx:mg "max"=none) (mn:mg "min"=none) (mz:mg "zip"=none) (bz:mg "all"=none):aQ Y.pr Y.w Y.K mg base bQ (k+1) f fd ["_law_script"] (AW Y.K):=by
 refine F.ok zw4 (λvs H Q E h=>?_) λak A outer s H vs Q E hr h=>?_
 .obtain⟨a,X,rfl,_⟩:=h;rfl
 obtain⟨a,X,rfl,hS,br,q⟩:=h;have bq:(A.deeper<|PyProof.Rows.envOfC "law" (bP fP) s⁻¹ f ak).units+2+1<cLine:=by have:=hr.units;lia
 have bs:(A.deeper<|PyProof.Rows.envOfC "law" (bP fP) s⁻¹ f ak).units+1+1<cLine:=by have:=hr.units;lia
 have bn:(A.deeper<|PyProof.Rows.envOfC "law" (bP fP) s⁻¹ f ak).units+0+1<cLine:=by have:=hr.units;lia
 have bd:(["_law_row_here"]:List Str).Nodup:=by rfl'
 exists _,aG (eC dW rfl (lN rfl mr<|aA (eR (By rfl) rfl mx (by rfl')<|aA aN<|aA (eR (RK rfl) rfl mn (by rfl')<|aA (eR gK rfl ml gB<|aA (pv 0) aE)<|aA aN aE) aE) aE) (gL 1 zw4.nd)
   (aG (sL 2 zw4.nd<|bC HN hr rfl<|aA (pv 0)<|aA (pv 1) aE) (aG (sL 3 zw4.nd<|bC PR hr rfl<|aA (pv 2)<|aA aN aE) (aG (sL 4 zw4.nd<|bC CH hr rfl<|aA (pv 2) aE) (aG (sL 5 zw4.nd<|bC RU hr rfl<|aA (pv 3)<|aA (pv 4) aE) (aG (eC dW rfl (SN (p:=false) rfl mz<|aA (pv 5)<|aA (jE rZ (pv 5) (jH aN) jA) aE) (dS (n:=2) rfl<|bI (gL 6 zw4.nd)<|bI (gL 7 zw4.nd) dV) (aG (cK (PW.pt<|CV (cA (FY (n:=1) bs) (jE NO (eT (pv 7) aN) jA<|jH<|eR gK rfl ml gB<|aA (eT (pv 6) aN) aE) (eT (pv 6) aN)<|cF _)<|CV (cA kE (eT (pv 6) aN) (eT (pv 7) aN)<|cF _)<|GQ<|cA EQ (eT (eT (pv 6) aN) aN) bR<|cF _) (aV<|bL vO) cO) (aG (sL 8 zw4.nd<|jE NO (eT (pv 7) aN) (jH<|eR gK rfl ml gB<|aA (eT (pv 6) aN) aE) jA) (aV (cK (PW.pt (jD (cA kE (eR gK rfl ml gB<|aA (pv 8) aE) aN<|cF _) (kR (SI (KC (eR (TN rfl) rfl bz (by rfl') (aA
     (jZ (N':=["_law_row_here"]) (src:=[none]) rfl fH (iC<|pv 8) (g:=cG 0) (λ_ _ _ _=>gL 0 bd) (λ_ _ _ _=>gT) (te:=dR pN (dR (iK Y.K) (aL 0)<|tC<|.int 0)<|tC<|.str "came") λ_ _ _ _=>vK fK (uA (show IxR _ (iK Y.K) from KW) (pv 0) aN λ_ _=>rfl) bR<|cF _) aE))))))) (aV (bL vO)) cO)))))
   (aG (sL 9 zw4.nd<|eI (pv 5)<|kK kS aN)<|aG (cK (cA EQ (eT (eT (pv 9) aN) aN) bR<|cF _) (aV<|eC dW rfl (iC<|cX<|aA (eR gK rfl ml gB<|aA (pv 5) aE)<|aA (cB jL (eR gK rfl ml gB<|aA (pv 5) aE) aN)<|aA (cB NS aN aN) aE) (gL 10 zw4.nd)<|aV<|cK (cA (FY (n:=2) bq) (bC PL hr rfl<|aA (pv 3)<|aA (pv 4)<|aA (pv 10) aE) (pv 9)<|cF _) (aV<|bL vO) cO) cO)<|aV<|cK (PW.pt<|jD (cA fK (eT (eT (pv 9) aN) aN) bR<|cF _)<|kR<|cA (FY (n:=0) bn) (eT (pv 9) aN) (cX<|aA bR<|aA gH aE)<|cF _) (aV<|bL vO) cO)))))))
  (aV<|bL vO)
 ac_rfl
 exists _,rfl,a,_,rfl,.inl hS,_,_,rfl,_,_,rfl;obtain⟨nk,bi,ca⟩:∃nk:Int,(if (if (6:Int)<((↑(X.map V.int):Nat):Int) then(6:Int) else((↑(X.map V.int):Nat):Int)) > 1 then(if (6:Int)<((↑(X.map V.int):Nat):Int) then(6:Int) else((↑(X.map V.int):Nat):Int)) else 1)=nk/\nk<=6/\1<=nk:=by
  exists _,rfl,?_
  .split <;> (try split) <;> lia
  .split <;> (try split) <;> lia
 rw[bi];refine⟨nk,rfl,by lia,by lia,?_⟩;refine vU (lo:=0) (n:=nk.toNat) (wC Y.K a X) ⟨_,_,_,_,_,_,_,_,_,_,rfl,hS⟩ ?_ λσ Hx _=>q Hx;rintro i σ Hx hi ⟨x1,x2,x3,x4,x5,x6,x7,x8,x9,bh,rfl,ad⟩;refine⟨_,rfl,_,rfl,a,X,i,by rw[Int.zero_add];rfl,ad,br,by lia,λhd d m ay hok=>?_⟩;generalize V.int (0+(i:Nat))=al;have bm:Hand (upd Hx hd<|hl d m 0 0) hd d m 0 0:=Hand.at hok;refine⟨_,rfl,hd,80,d,m,0,0,rfl,by decide,bm,by decide,λp ks m0 tr I Z H1 d1 m1 t1 r1 f1 hP hK hT bl bk hN hh ht=>?_⟩;refine⟨_,rfl,hd,d1,m1,t1,r1,rfl,hh,by lia,λch cs H2 f2 c0 be=>?_⟩;have t12:=f2.tup1 hh.1;obtain⟨G,Ls,k',hG,ar,az⟩:=GT (Y:=Y) (hP.keep t12) (hK.keepT t12) hT bl (bk.keep t12) hN cs be;have gb:GB (⟨Z,H2,p,G⟩:Rx Y) H2 ch ks m0 tr I Ls k':=⟨az,by rw[hG];exact c0⟩;refine⟨_,rfl,_,rfl,⟨Z,H2,p,G⟩,ch,ks,m0,tr,I,Ls,k',rfl,gb,λfl rs ls H3 f3 a8 hA hR h1 bg=>?_⟩;have k3:∀b o,Hx b=some o->H3 b=some o:=λb o e=>by
  have nb:b∉[hd]:=by simpa using bA e ay
  exact f3 b o aZ (f2 b o nb<|f1 b o nb<|by rw[aC<|bA e ay];exact e)
 have ah:=hA.len;have hF:∀(j:Nat) r,rs[j]?=some r->Fl1 (0+12*(j-0)) r.1.lg/\gQ r.2.2 r.2.2:=λj r hj=>(hR.a j r hj).fl (az _ FrS.refl).pz.ln ⟨aY _,λr hr=>nomatch hr⟩;have bo:=gb.keep f3;have e1:cH (ls.map V.ref) (some 1) none=(ls.drop 1).map V.ref:=(BL (n:=1) (ls.map V.ref)<|by rw[aI];lia).trans vj2.symm;refine⟨_,rfl,_,rfl,1,rfl,fl,_,rfl,SqL.of a8,λsl b0=>⟨fl,sl,ls.map V.ref,(ls.drop 1).map V.ref,rfl,?_,?_,?_⟩⟩
 .exact SqL.of (by rw[aC<|bA a8 b0];exact a8)
 .exact SqL.of (by rw[zb1,e1])
 have f4:FrS [] H3 (upd H3 sl<|.lst<|cH (ls.map V.ref) (some 1) none):=FrS.new b0;have ao:upd H3 sl (.lst<|cH (ls.map V.ref) (some 1) none) sl=some (.lst<|(ls.drop 1).map V.ref):=by rw[zb1,e1]
 generalize upd H3 sl (.lst<|cH (ls.map V.ref) (some 1) none)=H4 at f4 ao;have bw:=f4 _ _ aZ a8;refine ZF (p:=false) (xs:=ls.map V.ref) (ys:=(ls.drop 1).map V.ref) (OD H4 [some<|.ref a,some al,some<|.ref hd,some<|.ref p,some<|.ref ch,some<|.ref fl] x9 bh) ⟨_,_,_,rfl,FrS.refl⟩ ?_ ?_ ?_
 .rintro j σ Hy ⟨_,_,_,_,M⟩;exact⟨SqL.of<|M _ _ aZ bw,SqL.of<|M _ _ aZ ao⟩
 .rintro j x y T σ Hy B hy ⟨y1,y2,y3,rfl,M⟩ hT;rw[bZ,wt0]at B hy;obtain⟨N,B,rfl⟩:=B;obtain⟨l2,hy,rfl⟩:=hy;rw[List.getElem?_drop,Nat.add_comm]at hy;obtain⟨u1,a6,R1⟩:=A2.back hA B;obtain⟨u2,a5,R2⟩:=A2.back hA hy;have bp:j+1<↑rs:=(wr1.mp a5).1;have au:=hR.l j u1 a6 bp;obtain⟨z,b6,c9,bj⟩:=Rn.more ar (hR.a j u1 a6) (bT _) au<|hR.a (j+1) u2 a5;have fz:FrS [] H4 (upd Hy T<|.tup [.ref N,.ref l2]):=M.trans<|FrS.new hT;have ax:upd Hy T (.tup [.ref N,.ref l2]) T=some (.tup [.ref N,.ref l2]):=zb1;generalize upd Hy T (.tup [.ref N,.ref l2])=Hz at fz ax;obtain⟨a7,bc,b7,a1,a2,a3,a4⟩:=R1.keep<|Tup.of0<|f4.trans fz;obtain⟨ab,cb,an,b1,b2,b3,b4⟩:=R2.keep<|Tup.of0<|f4.trans fz;rw[b6]at b3;have ba:↑b7<=↑an:=by rw[<-a3.len,<-b3.len,bJ];lia
  obtain⟨b3,b5⟩:=A2.split b3;rw[a3.len]at b3 b5;exists T,_,rfl,SqT.of ax,rfl,_,_,rfl,_,_,rfl,rfl;refine⟨_,rfl,l2,_,_,.ref ab,rfl,rfl,SqT.of b1,rfl,_,rfl,N,_,_,.ref a7,rfl,rfl,SqT.of a1,rfl,a7,_,rfl,.inr<|SqT.of a2,_,rfl,ab,_,rfl,b2,λpc O f5 bb=>?_⟩;rw[aI,CU _ (by rw[aI];exact ba),<-rL]at bb;have g5:FrS [] Hz O:=λb o _ e=>f5 b o e;have C:=Tup.of0 g5;refine⟨_,rfl,N,_,_,.ref a7,rfl,rfl,SqT.of<|C _ _ a1,rfl,⟨pc,a7,_,_,rfl,rfl,.inl bb,.inl<|C _ _ a2,PD (hF j u1 a6).1.2 (b3.imp λ_ _ e=>C _ _ e)<|a3.imp λ_ _ e=>C _ _ e⟩,_,rfl,cP ?_⟩;exists _,rfl,N,_,_,.int u1.1.lk,rfl,rfl,SqT.of<|C _ _ a1,rfl,_,rfl,l2,_,_,.int u2.1.lk,rfl,rfl,SqT.of<|C _ _ b1,rfl,_,_,rfl,rfl,_,rfl;rw[gA<|by lia];refine cP ⟨_,rfl,N,_,_,.ref bc,rfl,rfl,SqT.of<|C _ _ a1,rfl,bc,_,_,.str u1.2.1,rfl,rfl,SqT.of<|C _ _ a4,rfl,rfl,_,rfl,?_⟩;rw[au];refine cP ?_;refine⟨_,rfl,l2,_,_,.ref ab,rfl,rfl,SqT.of<|C _ _ b1,rfl,_,rfl,N,_,_,.ref a7,rfl,rfl,SqT.of<|C _ _ a1,rfl,a7,_,rfl,.inr<|SqT.of<|C _ _ a2,_,rfl,ab,_,rfl,C _ _ b2,λpm H6 f6 a9=>?_⟩;rw[aI,BL _ (by rw[aI];exact ba),<-vj2]at a9;have am:FrS [] H4 H6:=λb o _ e=>f6 b o<|f5 b o<|fz b o aZ e;replace b5:=b5.imp λ_ _ e=>f6 _ _<|f5 _ _ e;have c5:=b5.len;generalize an.drop ↑b7=lm at a9 b5 c5;exists _,rfl,pm,_,rfl,.inr<|SqT.of a9,_,_,rfl,rfl,_,rfl;refine bB (λc=>?_) λc=>cP ⟨_,_,_,rfl,am⟩;have c2:¬↑z<=1:=λh=>by
   have:=cS c;rw[aI]at this;lia
  have bf:=bj.resolve_left c2;have b9:↑z<=2000:=by
   have:=(hF (j+1) u2 a5).1.1;rw[b6,bJ]at this;lia
  refine⟨_,rfl,pm,rfl,⟨_,SqT.of a9⟩,λDl aw=>?_⟩;refine JB (xs:=lm.map V.ref) (QG H6 Dl) ⟨_,rfl,(FrS.refl).put aw,zb1⟩ ?_ ?_ ?_
  .rintro n σ Hv hn ⟨_,_,fv,_⟩;exact SqT.of<|fv _ _ aZ a9
  .rintro n x σ Hv B ⟨_,rfl,fv,ae⟩;rw[bZ,wt0]at B;obtain⟨lr,B,rfl⟩:=B;obtain⟨r,ap,er⟩:=A2.back b5 B;have as:=bf r<|dC ap;cases r with
   | nil=>cases as
   | cons y r=>
    cases as;exists _,rfl,lr,_,_,_,rfl,rfl,SqT.of<|fv _ _ aZ er,wJ _ _,rfl;exists _,ae,lR (by rw[aI,List.length_replicate];have:=(wr1.mp ap).1;lia),_,rfl,fv.put aw;rw[zb1,List.replicate_succ',bX];rfl
  .rintro σ Hv ⟨_,rfl,fv,ae⟩;exists Dl,_,rfl,SqL.of ae,_,rfl;rw[show((List.replicate ↑(lm.map V.ref) true).all id)=true by simp];exact cP ⟨_,_,_,rfl,am.trans fv⟩
 rintro _ σ O ⟨y1,y2,y3,rfl,f5⟩;have aa:=f4.trans f5;obtain⟨J,l,rfl⟩:∃J l,ls=J++[l]:=by
  rcases List.eq_nil_or_concat ls with h | ⟨L,b,h⟩
  .rw[h]at ah;rw[ah]at h1;cases h1
  .exact⟨L,b,by rw[h,List.concat_eq_append]⟩
 rw[bJ,dQ]at ah;obtain⟨u,hu,R0⟩:=A2.back hA (i:=J.length) (b:=l) (by rw[iR<|aY _,vB];rfl);have aq:=hR.a _ u hu;have av:=hF _ u hu;have ai:O fl=some (.lst<|J.map V.ref++[.ref l]):=by
  have:=aa _ _ aZ a8;rw[bX]at this;exact this
 obtain⟨tl,P,lx,c1,c2,c3,c4⟩:=id<|R0.keep<|Tup.of0 aa;exists _,rfl,_,rfl,fl,_,_,.ref l,rfl,rfl,SqL.of ai,MS _ _;exists _,rfl,l,_,_,.ref P,rfl,rfl,SqT.of c1,rfl,P,_,_,.str u.2.1,rfl,rfl,SqT.of c4,rfl,rfl,_,rfl;refine bB (λc=>?_) λc=>?_
 .have ne:u.2.1≠"long":=λz=>by rw[z]at c;cases c
  refine⟨_,rfl,fl,_,rfl,.inl<|SqL.of ai,_,rfl,fl,_,rfl,.inl<|SqL.of ai,_,_,rfl,rfl,_,_,rfl,rfl,⟨by decide,by decide,by decide⟩,dM<|bO (by show 3<=_;decide),λW c8=>?_⟩;obtain⟨xs,bv,aj⟩:∃xs:List V,[V.int ((↑(J.map V.ref++[V.ref l]):Nat):Int),V.int<|((↑(J.map V.ref++[V.ref l]):Nat):Int)+7,V.int<|10 ^ (9:Int).toNat]=xs/\∀x∈xs,∃mo:Nat,x=.int mo/\J.length<=mo:=by
   refine⟨_,rfl,λx B=>?_⟩;have hn:↑(J.map V.ref++[V.ref l])=J.length+1:=by rw[bJ,aI];rfl
   rw[hn]at B;simp only[wr5,aZ,cY]at B;rcases B with rfl | rfl | rfl
   .exact⟨_,rfl,jB _⟩
   .exact⟨J.length+1+7,rfl,by lia⟩
   .exact⟨1000000000,rfl,by lia⟩
  refine(λ(key:FP Y.K (V.ref W) (upd O W<|.tup xs) _)=>by rw[<-bv]at key;exact key) ?_;have f6:FrS [] O (upd O W<|.tup xs):=FrS.new c8;have af:upd O W (.tup xs) W=some (.tup xs):=zb1;exists W,rfl,⟨_,SqT.of af⟩;generalize upd O W (.tup xs)=H6 at f6 af;have ag:=aa.trans f6;refine lC (xs:=xs) (PN H6 [some<|.ref a,some al,some<|.ref hd,some<|.ref p,some<|.ref ch,some<|.ref fl,y1,y2,y3,some<|.ref l]) ⟨_,rfl,FrS.refl⟩ ?_ ?_ ?_
  .rintro j σ Hy hj ⟨_,_,M⟩;exact SqT.of<|M _ _ aZ af
  .rintro j x σ Hy B ⟨_,rfl,M⟩;obtain⟨mo,rfl,bu⟩:=aj x<|dC B;have gy:=bo.keep<|ag.trans M;refine⟨_,rfl,_,rfl,_,rfl,⟨Z,H2,p,G⟩,ch,ks,m0,tr,I,Ls,k',J.length,mo,u.1,u.2.1,u.2.2,rfl,gy.g,gy.c,by lia,.inr ⟨ne,bu⟩,aq,λl' c6 c7 bt H7 f7 e1 e2 e3 e4=>?_⟩;exact⟨_,rfl,pW av.1.2 av.2 ⟨c6,c7,bt,e1,e2,e3,e4⟩<|R0.keep<|Tup.of0<|(ag.trans M).trans f7,_,rfl,cP ⟨_,rfl,M.trans f7⟩⟩
  .rintro σ H7 ⟨y,rfl,f7⟩;have b8:=ag.trans f7;have ac:=Tup.of0<|f6.trans f7;exists _,rfl,l,_,_,.ref P,rfl,rfl,SqT.of<|ac _ _ c1,rfl,P,_,_,.str u.2.1,rfl,rfl,SqT.of<|ac _ _ c4,rfl,rfl,_,rfl;refine bB (λcd=>?_) λ_=>cP ⟨_,_,_,_,_,_,_,_,_,_,rfl,JY ad λb o e=>b8 b o aZ<|k3 b o e⟩;have ed:u.2.1="done":=V.str.inj<|cS cd;have ev:=aq.fin ar ed;rw[ed,ev]at c4;refine⟨_,rfl,l,_,_,.ref P,rfl,rfl,SqT.of<|ac _ _ c1,rfl,dM<|bO (by show 2<=_;decide),λtd bx=>?_⟩;have f8:FrS [] H7 (upd H7 td<|.tup [.str "done",.non]):=FrS.new bx;refine⟨⟨P,td,_,_,rfl,rfl,.inl<|(Tup.of0 f8) _ _<|ac _ _ c4,.inl zb1,.cons lB<|.cons (.inr<|.inr ⟨rfl,rfl⟩) .nil⟩,_,rfl,cP ?_⟩;exact⟨_,_,_,_,_,_,_,_,_,_,rfl,JY ad λb o e=>f8 b o aZ<|b8 b o aZ<|k3 b o e⟩
 .have ce:u.2.1="long":=Classical.byContradiction λn=>c (by rw[gA λz=>n<|V.str.inj z];rfl)
  exists _,rfl,l,_,_,.ref P,rfl,rfl,SqT.of c1,rfl,P,_,_,.str u.2.1,rfl,rfl,SqT.of c4,rfl,rfl,_,rfl;rw[ce];refine cP<|cP ?_;exact⟨_,_,_,_,_,_,_,_,_,_,rfl,JY ad λb o e=>aa b o aZ<|k3 b o e⟩
end
section
variable{k:Nat}{nm qn:Str}{st:Stmt}{ps:List Str}{sp:Sp}
inductive Fh(K:Fq)(nm qn:Str)(st:Stmt)(f:Addr):Prop
 | mk {od an:Option Addr} {sl:Array (Option Value)} {oc kV dc pm cd ct:Value} (l:K.lookup f=some ⟨oc,od,.func<|PySem.W.fnOf nm qn (nG st) (fU st) (bP st) .none kV dc pm an cd ct,sl⟩) (c:PySem.W.codeIn K cd qn=true) (k:PySem.W.keepIn K (.ref f)=true):Fh K nm qn st f
inductive Fg(K:Fq)(nm:Str)(st:Stmt):Prop
 | mk {f:Addr} (a:PySem.W.nsIn K mainGlobals nm=some (some<|.ref f)) (h:Fh K nm nm st f):Fg K nm st
structure Fy(K:Fq)(mg:Str->Option Value)(nm qn:Str)(st:Stmt)(ps:List Str)(f:Addr)(fd:FuncData):Prop where
 F:Fun K nm qn st f fd
 b:Binds K fd ps []
 k:PySem.W.keepIn K (.ref f)=true
def Fh.y(p:Fh K nm qn st f)(d:∀(kV a e:Value)(h:Option Addr)(b ct:Value)(us:List Value),↑us=↑ps->bindArgs (PySem.W.fnOf nm qn (nG st) (fU st) (bP st) .none kV a e h b ct) ⟨us,[]⟩=pure (ps.zip us)):∃fd,Fy K mg nm qn st ps f fd:=by
 obtain⟨l,c,k⟩:=p;have F:=MX (st:=st) l c k;exact⟨_,F,F.binds d,k⟩
theorem Fg.y{h:Heap}(p:Fg K nm st)(X:K.In h)(G:h.Ns mainGlobals mg)(e:∀(kV b i:Value)(j:Option Addr)(d ct:Value)(us:List Value),↑us=↑ps->bindArgs (PySem.W.fnOf nm nm (nG st) (fU st) (bP st) .none kV b i j d ct) ⟨us,[]⟩=pure (ps.zip us)):∃f fd,Fy K mg nm nm st ps f fd/\mg nm=some (.ref f):=by
 obtain⟨a,p⟩:=p;obtain⟨fd,y⟩:=p.y e;exact⟨_,fd,y,jU X G a⟩
def Fy.c(y:Fy K mg nm nm st ps f fd/\mg nm=some (.ref f))(h:aQ P w K mg base bQ k f fd ps sp):aR P w K mg base k nm ps sp:=⟨f,fd,h,y.1.b,y.1.k,y.2⟩
def Fy.v(y:Fy K mg nm qn st ps f fd)(h:aQ P w K mg base bQ k f fd ps sp):oV P w K mg base k ps f sp:=⟨fd,h,y.b,y.k⟩
structure Ck(K:Fq)(x qn:Str)(st:Stmt)(fs:List Str)(C g:Addr):Prop where
 a:PySem.W.nsIn K mainGlobals x=some (some<|.ref C)
 c:Cls K C
 n:∀f∈fs,PySem.W.findIn K (.ref C) f=some none
 m:Mk K C g
 h:Fh K "__init__" qn st g
def mL{P:List Value->Prop}(h:∀a,P [a])(us:List Value)(hl:↑us=1):P us:=match us,hl with | [a],_=>h a
def fJ{P:List Value->Prop}(h:∀a b,P [a,b])(us:List Value)(hl:↑us=2):P us:=match us,hl with | [a,b],_=>h a b
def hZ{P:List Value->Prop}(h:∀a b c,P [a,b,c])(us:List Value)(hl:↑us=3):P us:=match us,hl with | [a,b,c],_=>h a b c
def uI{P:List Value->Prop}(h:∀a b c d,P [a,b,c,d])(us:List Value)(hl:↑us=4):P us:=match us,hl with | [a,b,c,d],_=>h a b c d
def GP{P:List Value->Prop}(h:∀a b c d e,P [a,b,c,d,e])(us:List Value)(hl:↑us=5):P us:=match us,hl with | [a,b,c,d,e],_=>h a b c d e
def Bt{P:List Value->Prop}(h:∀a b c d e f,P [a,b,c,d,e,f])(us:List Value)(hl:↑us=6):P us:=match us,hl with | [a,b,c,d,e,f],_=>h a b c d e f
def Bh(F:Fun K "_law_rows" "_law_rows" AT f fd):aQ P w K mg base bQ (k+1) f fd jX (zW 0):=F.ok ys5 (λ_ _ _ _ h=>h.elim) λ_ _ _ _ _ _ _ _ _ h=>h.elim
def YH(F:Fun K "lay" "lay" kW f fd):aQ P w K mg base bQ (k+1) f fd oN (GV 0):=F.ok scLy (λ_ _ _ _ h=>h.elim) λ_ _ _ _ _ _ _ _ _ h=>h.elim
inductive DEn(w:World):List DictEntry->List (aJ×Value)->Prop
 | nil:DEn w [] []
 | cons {x:Str} {t:Tok} {v:Value} {es:List DictEntry} {kvs:List (aJ×Value)} (h:DEn w es kvs):DEn w (⟨PyData.keyHash w.params x,.str x t,v⟩::es) ((Sum.inr x,v)::kvs)
def DEn.p(h:DEn w es kvs):Pairs (cI P w) es kvs/\∀e∈es,∃k,(cI P w).is k e.key=true/\e.hash=(cI P w).hash k:=by
 induction h with
 | nil=>exact⟨.nil,λe h=>nomatch h⟩
 | @cons x t v es kvs _ ih=>
  refine⟨.cons (GA x t) rfl ih.1,λe he=>?_⟩;rcases wr5.mp he with rfl | he
  .exact⟨Sum.inr x,GA x t,rfl⟩
  .exact ih.2 e he
def Au{a:Addr}{es:List DictEntry}{n:Nat}{kvs:List (aJ×Value)}(l:K.lookup a=some ⟨.type "dict",none,.dict es.toArray n,#[]⟩)(h:DEn w es kvs)(nd:(kvs.map (·.1)).Nodup):IA P w K a kvs:=
 ⟨_,l,λhp e=>⟨_,es.toArray,_,e,⟨rfl,rfl,rfl⟩,rfl,λe he=>h.p.2 e (by simpa using he),h.p.1,nd⟩⟩
end
def JJ{K:Fq}{a:Addr}{od:Option Addr}{x y:Str}{b e n:Nat}{d:Array (Option Value)}(l:K.lookup a=some ⟨.type "tuple",od,.seq #[.str x b,.str y e] n,d⟩)(H:Hp):SqT K H a [.str x,.str y]:=
 .inr ⟨_,_,_,l,rfl,rfl,dJ rfl,.cons ⟨_,rfl⟩<|.cons ⟨_,rfl⟩ .nil⟩
def YC{K:Fq}{a:Addr}{od:Option Addr}{x:Str}{b n:Nat}{d:Array (Option Value)}(l:K.lookup a=some ⟨.type "tuple",od,.seq #[.str x b] n,d⟩)(H:Hp):SqT K H a [.str x]:=
 .inr ⟨_,_,_,l,rfl,rfl,dJ rfl,.cons ⟨_,rfl⟩ .nil⟩
def Ck.m'{Y:Ry}{mg:Str->Option Value}{base:Heap}{k:Nat}{x qn:Str}{st:Stmt}{fs ps:List Str}{C g:Addr}{gd:FuncData}{sp:Sp}{h:Heap}(c:Ck Y.K x qn st fs C g)(X:Y.K.In h)(G:h.Ns mainGlobals mg)(y:Fy Y.K mg "__init__" qn st ps g gd)(o:aQ Y.pr Y.w Y.K mg base bQ k g gd ps sp):fX Y mg base k x C ps sp:=⟨g,gd,o,y.b,c.m,jU X G c.a⟩
def qO{l:PySem.W.OpenLaw}{w:World}{K:Fq}{h:Heap}{mg:Str->Option Value}{fa:Addr}(X:K.In h)(G:h.Ns mainGlobals mg)(cl:mg "law"=some (.ref fa))
  {am ah ap ad:Addr} {cf bf cb:Option Addr} {c7 ck br:Array (Option Value)} {bl be nm bg bu nh tp np nd tw tb tt tu:Nat} {e1 e2 e3 e4 e5 e6 e7 e8 e9:Nat} {g1 g2 T g4 g5 g6 g7 g8 g9 c1 c2 L i1 i2 i3:Addr}
  (p1:Fg K "elders" EM)
  (p2:Fg K "is_below" KF)
  (p3:Fg K "deed_of" IP)
  (p4:Fg K "answer" KH)
  (p5:Fg K "asked" IQ)
  (p6:Fg K "bodies" HH)
  (p7:Fg K "rows_within" FD)
  (p8:Fg K "lay" kW)
  (p9:Fg K "laid" JW)
  (cg:Fg K "forms_of" sW)
  (bm:Fg K "turned_back" IC)
  (bd:Fg K "found_by" EU)
  (cc:Fg K "cost_by" FL)
  (c8:Fg K "end_call" sE)
  (bv:Fg K "next_choice" pH)
  (c9:Fg K "add_due" oY)
  (bh:Fg K "start_call" IB)
  (ch:Fg K "do_row" FR)
  (c6:Fg K "run_on" EV)
  (b7:Fg K "whole_run" JR)
  (bj:Fg K "plain_run" IR)
  (bp:Fg K "_law_hand" FJ)
  (bo:Fg K "_law_take" ES)
  (c0:Fg K "_law_of" DV)
  (bi:Fg K "_law_words" lE)
  (bt:Fg K "_law_tree" HF)
  (bq:Fg K "_law_world" nY)
  (bs:Fg K "_law_line" GF)
  (bw:Fg K "_law_has" tN)
  (c4:Fg K "_law_variable" oX)
  (cj:Fg K "_law_target" pU)
  (ce:Fg K "_law_make" HE)
  (ca:Fg K "_law_args" KL)
  (bn:Fg K "_law_call" JX)
  (bx:Fg K "_law_field" IS)
  (bk:Fg K "_law_row" sB)
  (bz:Fg K "_law_rows" AT)
  (c5:Fg K "_law_deed" GW)
  (ba:Fg K "_law_program" KD)
  (bb:Fg K "_law_choices" oU)
  (cm:Fg K "_law_runs" KO)
  (pL:Fg K "law" fP)
  (q1:Fh K "do_make" "do_make" FQ g1)
  (q2:Fh K "do_copy" "do_copy" FA g2)
  (q3:Fh K "do_put" "do_put" tR T)
  (q4:Fh K "do_take" "do_take" LE g4)
  (q5:Fh K "do_say" "do_say" sO g5)
  (q6:Fh K "do_either" "do_either" HD g6)
  (q7:Fh K "do_again" "do_again" HI g7)
  (q8:Fh K "do_bring" "do_bring" HL g8)
  (q9:Fh K "do_call" "do_call" HC g9)
  (J:Ck K "Thing" "Thing.__init__" qY MJ c1 i1)
  (O:Ck K "Due" "Due.__init__" pV NM c2 i2)
  (N:Ck K "Run" "Run.__init__" FZ ME L i3)
  (a2:c2≠L) (b6:c1≠L)
  (aM:PySem.W.nsIn K mainGlobals "MAIN"=some (some<|.ref am)) (lM:K.lookup am=some ⟨.type "tuple",cf,.seq #[.str "" bl,.str "" be] nm,c7⟩)
  (aH:PySem.W.nsIn K mainGlobals "HOLDERS"=some (some<|.ref ah)) (lH:K.lookup ah=some ⟨.type "tuple",bf,.seq #[.str "either" bg,.str "again" bu] nh,ck⟩)
  (aP:PySem.W.nsIn K mainGlobals "PLAIN"=some (some<|.ref ap)) (lP:K.lookup ap=some ⟨.type "tuple",cb,.seq #[.str "plain" tp] np,br⟩)
  (aW:PySem.W.nsIn K mainGlobals "OWN"=some (some<|.str "own" tw)) (aB:PySem.W.nsIn K mainGlobals "BACK"=some (some<|.str "back" tb))
  (aT:PySem.W.nsIn K mainGlobals "MOST_TIMES"=some (some<|.int 9 tt)) (aU:PySem.W.nsIn K mainGlobals "MOST_UNDER_WAY"=some (some<|.int 40 tu))
  (aD:PySem.W.nsIn K mainGlobals "DOERS"=some (some<|.ref ad)) (lD:K.lookup ad=some ⟨.type "dict",none,.dict #[⟨PyData.keyHash w.params "make",.str "make" e1,.ref g1⟩,⟨PyData.keyHash w.params "copy",.str "copy" e2,.ref g2⟩,⟨PyData.keyHash w.params "put",.str "put" e3,.ref T⟩,⟨PyData.keyHash w.params "take",.str "take" e4,.ref g4⟩,⟨PyData.keyHash w.params "say",.str "say" e5,.ref g5⟩,⟨PyData.keyHash w.params "either",.str "either" e6,.ref g6⟩,⟨PyData.keyHash w.params "again",.str "again" e7,.ref g7⟩,⟨PyData.keyHash w.params "bring",.str "bring" e8,.ref g8⟩,⟨PyData.keyHash w.params "call",.str "call" e9,.ref g9⟩] nd,#[]⟩)
  (z:∀x∈(["len","abs","int","range","tuple","dict","list","any","zip","enumerate","sorted","max","min","reversed","all"]:List Str),PySem.W.nsIn K mainGlobals x=some none):
  ∃fd:FuncData,(∀(s:Shared)(v:Value),BindsTo s fd ⟨[v],[]⟩ [("_law_script",v)])/\∀base:Heap,K.In base->base.Ns mainGlobals mg->aQ l.prog w K mg base bQ 65 fa fd ["_law_script"] (AW K):=by
 have mM:=jU X G aM;have mH:=jU X G aH;have mP:=jU X G aP;have mW:∃tk,mg "OWN"=some (.str "own" tk):=⟨_,jU X G aW⟩;have mB:∃tk,mg "BACK"=some (.str "back" tk):=⟨_,jU X G aB⟩;have mT:∃tk,mg "MOST_TIMES"=some (.int 9 tk):=⟨_,jU X G aT⟩;have mU:∃tk,mg "MOST_UNDER_WAY"=some (.int 40 tk):=⟨_,jU X G aU⟩;have mD:=jU X G aD;obtain⟨_,_,y1⟩:=p1.y (ps:=["program","kind"]) X G λ_ _ _ _ _ _=>fJ λ_ _=>rfl;obtain⟨_,_,y2⟩:=p2.y (ps:=["program","one","other"]) X G λ_ _ _ _ _ _=>hZ λ_ _ _=>rfl;obtain⟨_,_,y3⟩:=p3.y (ps:=qI) X G λ_ _ _ _ _ _=>hZ λ_ _ _=>rfl;obtain⟨_,_,y4⟩:=p4.y (ps:=qI) X G λ_ _ _ _ _ _=>hZ λ_ _ _=>rfl;obtain⟨_,_,y5⟩:=p5.y (ps:=qI) X G λ_ _ _ _ _ _=>hZ λ_ _ _=>rfl;obtain⟨_,_,y6⟩:=p6.y (ps:=qK) X G λ_ _ _ _ _ _=>mL λ_=>rfl;obtain⟨_,_,y7⟩:=p7.y (ps:=["row"]) X G λ_ _ _ _ _ _=>mL λ_=>rfl;obtain⟨_,_,u⟩:=p8.y (ps:=oN) X G λ_ _ _ _ _ _=>hZ λ_ _ _=>rfl;obtain⟨_,_,y9⟩:=p9.y (ps:=["program"]) X G λ_ _ _ _ _ _=>mL λ_=>rfl;obtain⟨_,_,b5⟩:=cg.y (ps:=["made"]) X G λ_ _ _ _ _ _=>mL λ_=>rfl;obtain⟨_,_,b1⟩:=bm.y (ps:=["made","came"]) X G λ_ _ _ _ _ _=>fJ λ_ _=>rfl;obtain⟨_,_,ae⟩:=bd.y (ps:=lW) X G λ_ _ _ _ _ _=>uI λ_ _ _ _=>rfl;obtain⟨_,_,ag⟩:=cc.y (ps:=lW) X G λ_ _ _ _ _ _=>uI λ_ _ _ _=>rfl;obtain⟨_,_,a5⟩:=c8.y (ps:=dE) X G λ_ _ _ _ _ _=>fJ λ_ _=>rfl;obtain⟨_,_,b3⟩:=bv.y (ps:=["run"]) X G λ_ _ _ _ _ _=>mL λ_=>rfl;obtain⟨_,_,ak⟩:=c9.y (ps:=hH) X G λ_ _ _ _ _ _=>hZ λ_ _ _=>rfl;obtain⟨_,_,az⟩:=bh.y (ps:=BJ) X G λ_ _ _ _ _ _=>hZ λ_ _ _=>rfl;obtain⟨_,_,ab⟩:=ch.y (ps:=["run","due","most"]) X G λ_ _ _ _ _ _=>hZ λ_ _ _=>rfl;obtain⟨_,_,a7⟩:=c6.y (ps:=["run","most"]) X G λ_ _ _ _ _ _=>fJ λ_ _=>rfl;obtain⟨_,_,av⟩:=b7.y (ps:=CK) X G λ_ _ _ _ _ _=>uI λ_ _ _ _=>rfl;obtain⟨_,_,aq⟩:=bj.y (ps:=["program","choices","most"]) X G λ_ _ _ _ _ _=>hZ λ_ _ _=>rfl;obtain⟨_,_,b4⟩:=bp.y (ps:=["_law_script","_law_k"]) X G λ_ _ _ _ _ _=>fJ λ_ _=>rfl;obtain⟨_,_,aw⟩:=bo.y (ps:=qB) X G λ_ _ _ _ _ _=>fJ λ_ _=>rfl;obtain⟨_,_,ao⟩:=c0.y (ps:=qC) X G λ_ _ _ _ _ _=>fJ λ_ _=>rfl;obtain⟨_,_,ac⟩:=bi.y (ps:=qB) X G λ_ _ _ _ _ _=>fJ λ_ _=>rfl;obtain⟨_,_,al⟩:=bt.y (ps:=[qH]) X G λ_ _ _ _ _ _=>mL λ_=>rfl;obtain⟨_,_,ar⟩:=bq.y (ps:=[qH]) X G λ_ _ _ _ _ _=>mL λ_=>rfl;obtain⟨_,_,a8⟩:=bs.y (ps:=qG) X G λ_ _ _ _ _ _=>fJ λ_ _=>rfl;obtain⟨_,_,ax⟩:=bw.y (ps:=qE) X G λ_ _ _ _ _ _=>hZ λ_ _ _=>rfl;obtain⟨_,_,ay⟩:=c4.y (ps:=qA) X G λ_ _ _ _ _ _=>hZ λ_ _ _=>rfl;obtain⟨_,_,a3⟩:=cj.y (ps:=qA) X G λ_ _ _ _ _ _=>hZ λ_ _ _=>rfl;obtain⟨_,_,a1⟩:=ce.y (ps:=qA) X G λ_ _ _ _ _ _=>hZ λ_ _ _=>rfl;obtain⟨_,_,a6⟩:=ca.y (ps:=qD) X G λ_ _ _ _ _ _=>GP λ_ _ _ _ _=>rfl;obtain⟨_,_,au⟩:=bn.y (ps:=qF) X G λ_ _ _ _ _ _=>uI λ_ _ _ _=>rfl;obtain⟨_,_,aa⟩:=bx.y (ps:=qA) X G λ_ _ _ _ _ _=>hZ λ_ _ _=>rfl;obtain⟨_,_,a4⟩:=bk.y (ps:=jW) X G λ_ _ _ _ _ _=>GP λ_ _ _ _ _=>rfl;obtain⟨_,_,A⟩:=bz.y (ps:=jX) X G λ_ _ _ _ _ _=>Bt λ_ _ _ _ _ _=>rfl;obtain⟨_,_,b0⟩:=c5.y (ps:=CI) X G λ_ _ _ _ _ _=>uI λ_ _ _ _=>rfl;obtain⟨_,_,a9⟩:=ba.y (ps:=[qH,"_law_most"]) X G λ_ _ _ _ _ _=>fJ λ_ _=>rfl;obtain⟨_,_,ai⟩:=bb.y (ps:=[qH]) X G λ_ _ _ _ _ _=>mL λ_=>rfl;obtain⟨_,_,aj⟩:=cm.y (ps:=CW) X G λ_ _ _ _ _ _=>fJ λ_ _=>rfl;obtain⟨_,w1⟩:=q1.y (mg:=mg) (ps:=dE) λ_ _ _ _ _ _=>fJ λ_ _=>rfl;obtain⟨_,w2⟩:=q2.y (mg:=mg) (ps:=dE) λ_ _ _ _ _ _=>fJ λ_ _=>rfl;obtain⟨_,w3⟩:=q3.y (mg:=mg) (ps:=dE) λ_ _ _ _ _ _=>fJ λ_ _=>rfl;obtain⟨_,w4⟩:=q4.y (mg:=mg) (ps:=dE) λ_ _ _ _ _ _=>fJ λ_ _=>rfl;obtain⟨_,w5⟩:=q5.y (mg:=mg) (ps:=dE) λ_ _ _ _ _ _=>fJ λ_ _=>rfl;obtain⟨_,w6⟩:=q6.y (mg:=mg) (ps:=dE) λ_ _ _ _ _ _=>fJ λ_ _=>rfl;obtain⟨_,w7⟩:=q7.y (mg:=mg) (ps:=dE) λ_ _ _ _ _ _=>fJ λ_ _=>rfl;obtain⟨_,w8⟩:=q8.y (mg:=mg) (ps:=dE) λ_ _ _ _ _ _=>fJ λ_ _=>rfl;obtain⟨_,w9⟩:=q9.y (mg:=mg) (ps:=dE) λ_ _ _ _ _ _=>fJ λ_ _=>rfl;obtain⟨_,v1⟩:=J.h.y (mg:=mg) (ps:=iW) λ_ _ _ _ _ _=>fJ λ_ _=>rfl;obtain⟨_,v2⟩:=O.h.y (mg:=mg) (ps:=hX) λ_ _ _ _ _ _=>GP λ_ _ _ _ _=>rfl;obtain⟨_,v3⟩:=N.h.y (mg:=mg) (ps:=uY) λ_ _ _ _ _ _=>uI λ_ _ _ _=>rfl;have zz:∀x∈(["len","abs","int","range","tuple","dict","list","any","zip","enumerate","sorted","max","min","reversed","all"]:List Str),mg x=none:=λx hx=>PySem.W.mg_none_of X G<|z x hx;simp only[wG]at zz;obtain⟨j,z2,P,o,e,z6,z7,z8,z9,ci,b9,bc,af,b2,b8,_⟩:=zz;obtain⟨a,@⟨_,an,_,_,kV,dc,pm,cd,ct,ll,c,kk⟩⟩:=pL;cases cl.symm.trans (jU X G a);refine⟨PySem.W.fnOf "law" "law" (nG fP) (fU fP) (bP fP) .none kV dc pm an cd ct,λs v=>.of_eq rfl,λbase _ _=>?_⟩
 let Y:Ry:=⟨⟨c1,c2,L⟩,l.prog,w,K,a2,b6⟩
 have Z:cT Y.K Y.C:=⟨⟨J.c,J.n⟩,⟨O.c,O.n⟩,⟨N.c,N.n⟩,a2,b6⟩;have b:∀k:Nat,aR l.prog w K mg base (k+1) _ _ fZ:=λk=>Fy.c aw<|YB aw.1.F;have i:∀k:Nat,aR l.prog w K mg base (k+2) _ _ (cR K):=λk=>Fy.c ao<|yA ao.1.F (b k) j;have Wd:∀k:Nat,aR l.prog w K mg base (k+2) _ _ DI:=λk=>Fy.c ac<|YL ac.1.F (b k) j o P;have Tr:∀k:Nat,aR l.prog w K mg base (k+3) _ _ GX:=λk=>Fy.c al<|Ao al.1.F (b<|k+1) (i k) (Wd k) j ci;have Wo:∀k:Nat,aR l.prog w K mg base (k+4) _ _ GO:=λk=>Fy.c ar<|VI ar.1.F (b<|k+2) (i<|k+1) (Wd<|k+1) (Tr k) z6 o P;have Li:∀k:Nat,aR l.prog w K mg base (k+1) _ _ xZ:=λk=>Fy.c a8<|TD a8.1.F z6;have Ha:∀k:Nat,aR l.prog w K mg base (k+2) _ _ LB:=λk=>Fy.c ax<|pP ax.1.F (Li k) z8;have B:∀k:Nat,aR l.prog w K mg base (k+3) _ _ nC:=λk=>Fy.c ay<|rS ay.1.F (b<|k+1) (i k) z7;have M:∀k:Nat,aR l.prog w K mg base (k+3) _ _ pM:=λk=>Fy.c a3<|rR a3.1.F<|i k;have Ma:∀k:Nat,aR l.prog w K mg base (k+4) _ _ BI:=λk=>Fy.c a1<|YM a1.1.F (b<|k+2) (i<|k+1)<|M k;have Ar:∀k:Nat,aR l.prog w K mg base (k+4) _ _ JS:=λk=>Fy.c a6<|Br a6.1.F (b<|k+2) (i<|k+1) (B k) (Li<|k+2) e;have Ca:∀k:Nat,aR l.prog w K mg base (k+5) _ _ AL:=λk=>Fy.c au<|XV au.1.F (b<|k+3) (i<|k+2) (B<|k+1) (Li<|k+3) (M<|k+1) (Ha<|k+2) (Ma k)<|Ar k;have Fi:∀k:Nat,aR l.prog w K mg base (k+4) _ _ IF:=λk=>Fy.c aa<|XF aa.1.F (b<|k+2) (i<|k+1) (B k)<|M k;have Rz:∀k:Nat,aR l.prog w K mg base (k+1) _ _ (zW 0):=λk=>Fy.c A<|Bh A.1.F;have Row:∀(n k:Nat),aR l.prog w K mg base (k+5) "_law_rows" jX (zW n)->aR l.prog w K mg base (k+6) "_law_row" jW (GN n):=λn k R=>Fy.c a4<|oZ a4.1.F (b<|k+4) (i<|k+3) (B<|k+2) (M<|k+2) (Ma<|k+1) (Fi<|k+1) (Ca k) R o j e;have E:∀(n k:Nat),aR l.prog w K mg base (k+7+2*n) "_law_rows" jX (tG n):=by
  intro n
  induction n with
  | zero=>intro k;exact Fy.c A<|QT A.1.F (b<|k+5) (Row 0 k<|Rz<|k+4) o e
  | succ n ih=>
   intro k;have R1:=Row (n+1) (k+2+2*n) (by have:=ih k;rwa [show k+2+2*n+5=k+7+2*n by lia]);have R2:aR l.prog w K mg base (k+2+2*n+6+1) "_law_rows" jX (tG<|n+1):=Fy.c A<|QT A.1.F (by have:=b<|k+2+2*n+5;exact this) R1 o e;rwa [show k+7+2*(n+1)=k+2+2*n+6+1 by lia]
 have R4:∀k:Nat,aR l.prog w K mg base (k+15) "_law_rows" jX (tG 4):=λk=>E 4 k;have De:∀k:Nat,aR l.prog w K mg base (k+16) _ _ DS:=λk=>Fy.c b0<|TJ b0.1.F (b<|k+14) (i<|k+13) (B<|k+12) (R4 k) j z7 z9 z6 e;have Pr:∀k:Nat,aR l.prog w K mg base (k+17) _ _ KB:=λk=>Fy.c a9<|Ba a9.1.F (b<|k+15) (i<|k+14) (Wo<|k+12) (De k) (R4<|k+1) j o e b9;have Hn:∀k:Nat,aR l.prog w K mg base (k+1) _ _ (FE K):=λk=>Fy.c b4<|UD b4.1.F j z2 P;have Bo:∀k:Nat,aR l.prog w K mg base (k+1) _ _ (GR K):=λk=>Fy.c y6<|UT y6.1.F mM (JJ lM) e;have Wi:∀k:Nat,aR l.prog w K mg base (k+1) _ _ GI:=λk=>Fy.c y7<|Aw y7.1.F mH<|JJ lH;have Ly:∀(n k:Nat),aR l.prog w K mg base (k+2+n) "lay" oN (jP n):=by
  intro n
  induction n with
  | zero=>intro k;exact Fy.c u<|nH u.1.F (Wi k) (Fy.c u<|YH u.1.F) j e
  | succ n ih=>intro k;exact Fy.c u<|nH u.1.F (by have:=Wi<|k+1+n;rwa [show k+1+n+1=k+2+n by lia]at this) (ih k) j e
 have Ld:∀k:Nat,aR l.prog w K mg base (k+7) _ _ (FC l.prog w K):=λk=>Fy.c y9<|ZB y9.1.F (Bo<|k+5)<|Ly 4 k;have I:∀k:Nat,aR l.prog w K mg base (k+1) _ _ uT:=λk=>Fy.c y1<|VN y1.1.F e;have Be:∀k:Nat,aR l.prog w K mg base (k+2) _ _ IE:=λk=>Fy.c y2<|XU y2.1.F<|I k;have DQ:∀k:Nat,aR l.prog w K mg base (k+1) _ _ EA:=λk=>Fy.c y3<|XL y3.1.F;have AQ:∀k:Nat,aR l.prog w K mg base (k+2) _ _ sX:=λk=>Fy.c y4<|WU y4.1.F (I k) (DQ k) b2;have KQ:∀k:Nat,aR l.prog w K mg base (k+3) _ _ vR:=λk=>Fy.c y5<|YV y5.1.F (I<|k+1) (AQ k) j;have FB:∀k:Nat,aR l.prog w K mg base (k+3) _ _ (iL K sX):=λk=>Fy.c ae<|xW ae.1.F<|AQ k;have CB:∀k:Nat,aR l.prog w K mg base (k+4) _ _ (iL K vR):=λk=>Fy.c ag<|zV ag.1.F<|KQ k;have Fm:∀k:Nat,aR l.prog w K mg base (k+1) _ _ DW:=λk=>Fy.c b5<|tE b5.1.F;have Tb:∀k:Nat,aR l.prog w K mg base (k+1) _ _ tP:=λk=>Fy.c b1<|xN b1.1.F e;have Mt:∀k:Nat,fX Y mg base (k+1) "Thing" Y.C.th iW (EB Y.C.th):=λk=>Ck.m' (Y:=Y) J X G v1<|tK (Y:=Y) v1.F Z;have Md:∀k:Nat,fX Y mg base (k+1) "Due" Y.C.du hX (wZ Y.C.du):=λk=>Ck.m' (Y:=Y) O X G v2<|oH (Y:=Y) v2.F Z;have En:∀k:Nat,aR l.prog w K mg base (k+1) _ _ (JK Y):=λk=>Fy.c a5<|rD (Y:=Y) a5.1.F Z;have Nx:∀k:Nat,aR l.prog w K mg base (k+1) _ _ (CM Y):=λk=>Fy.c b3<|qU (Y:=Y) b3.1.F Z j;have H:∀k:Nat,aR l.prog w K mg base (k+3) _ _ (uN Y):=λk=>Fy.c ak<|sU (Y:=Y) ak.1.F Z (Md k) b2;have St:∀k:Nat,aR l.prog w K mg base (k+5) _ _ (rC Y):=λk=>Fy.c az<|Ab (Y:=Y) az.1.F Z (FB<|k+1) (CB k) (DQ<|k+3) (H<|k+1) (Md<|k+2) z9 mP (YC lP) mW mB;have Ds:∀k:Nat,nU Y mg base (k+6):=λk=>by
  refine⟨ad,_,mD,Au (K:=K) lD (.cons<|.cons<|.cons<|.cons<|.cons<|.cons<|.cons<|.cons<|.cons<|.nil) (by show([Sum.inr "make",Sum.inr "copy",Sum.inr "put",Sum.inr "take",Sum.inr "say",Sum.inr "either",Sum.inr "again",Sum.inr "bring",Sum.inr "call"]:List aJ).Nodup;rfl'),λd hn hz=>?_⟩;cases d with
  | op n a r m=>
   cases r with
   | make x y=>exact⟨g1,_,rfl,w1.v<|yL (Y:=Y) w1.F Z<|Mt<|k+3,⟨_,_,_,_,_,rfl⟩⟩
   | copy x y=>exact⟨g2,_,rfl,w2.v<|YO (Y:=Y) w2.F Z,⟨_,_,_,_,_,rfl⟩⟩
   | put x f y=>exact⟨T,_,rfl,w3.v<|rX (Y:=Y) w3.F Z,⟨_,_,_,_,_,_,rfl⟩⟩
   | take x y f=>exact⟨g4,_,rfl,w4.v<|xC (Y:=Y) w4.F Z,⟨_,_,_,_,_,_,rfl⟩⟩
   | say x=>exact⟨g5,_,rfl,w5.v<|rB (Y:=Y) w5.F Z,⟨_,_,_,_,rfl⟩⟩
   | bring x=>exact⟨g8,_,rfl,w8.v<|zD (Y:=Y) w8.F Z (I<|k+4) (Tb<|k+4)<|Fm<|k+4,⟨_,_,_,_,rfl⟩⟩
  | call n a x y q d as m=>exact⟨g9,_,rfl,w9.v<|ZM (Y:=Y) w9.F Z (Be<|k+3) (St k) mU,⟨_,_,_,_,_,_,_,_,rfl⟩⟩
  | either n a p q m=>exact⟨g6,_,rfl,w6.v<|zI (Y:=Y) w6.F Z (Nx<|k+4)<|H<|k+2,⟨_,_,_,_,_,rfl,hz⟩⟩
  | again n a p m=>exact⟨g7,_,rfl,w7.v<|AH (Y:=Y) w7.F Z (Nx<|k+4) (H<|k+2) af o mT,⟨_,_,_,_,rfl,hz⟩⟩
  | back x g s m=>cases hn
 have DR:∀k:Nat,aR l.prog w K mg base (k+7) _ _ (IN Y):=λk=>Fy.c ab<|Cf (Y:=Y) ab.1.F Z<|Ds k;have RO:∀k:Nat,aR l.prog w K mg base (k+8) _ _ (pG Y):=λk=>Fy.c a7<|Av (Y:=Y) a7.1.F Z (En<|k+6) (DR k) mB;have Mr:∀k:Nat,fX Y mg base (k+8) "Run" Y.C.rn uY (CF Y):=λk=>Ck.m' (Y:=Y) N X G v3<|YQ (Y:=Y) v3.F Z (Fm<|k+6)<|Ld k;have WH:∀k:Nat,aR l.prog w K mg base (k+10) _ _ (qX Y):=λk=>Fy.c av<|YX (Y:=Y) av.1.F Z (Mr k) (H<|k+6) (RO<|k+1) mM (JJ lM) e;have PL:∀k:Nat,aR l.prog w K mg base (k+11) _ _ (DG Y):=λk=>Fy.c aq<|WP (Y:=Y) aq.1.F<|WH k;have Ch:∀k:Nat,aR l.prog w K mg base (k+3) _ _ GY:=λk=>Fy.c ai<|rG ai.1.F (b<|k+1) (i k) o e;have Ru:∀k:Nat,aR l.prog w K mg base (k+12) _ _ (EO Y):=λk=>Fy.c aj<|UR (Y:=Y) aj.1.F (PL k) o;exact pJ (Y:=Y) (MX (st:=fP) ll c kk) (Hn 63) (Pr 47) (Ch 61) (Ru 52) (PL 53) j o bc af z9 b8
def GE{l:PySem.W.OpenLaw}{q:Program}{A:List Str}{B:(Str->Option Value)->Heap->Prop}{e:World->Heap->Prop}{d:DefRec}{K:Params->Fq}(m:l.most=some 63)(i:d.params.defaults=[])
  (o:∀(w:World)(h:Heap),e w h->(K w.params).In h)
  (F:∀(w:World)(mg:Str->Option Value)(b:Addr)(h:Heap),(K w.params).In h->h.Ns mainGlobals mg->mg d.name=some (.ref b)-> ∃fd:FuncData,(∀(s:Shared)(u:Value),BindsTo s fd ⟨[u],[]⟩ [("_law_script",u)])/\∀base:Heap,(K w.params).In base->base.Ns mainGlobals mg->aQ l.prog w (K w.params) mg base bQ 65 b fd ["_law_script"] (AW<|K w.params)):
  PySem.W.WalkO q A B e l.row.toRowW d [] (λf vs=>PySem.call f vs):=
 L2.UX (n:=63) (k:=65) (x:="_law_script") (CX:=λ_=>bQ) (sp:=λw=>AW<|K w.params) m (by decide) i ⟨rfl,by decide,by decide⟩ o F (λ_ _ a j hl _ r=>⟨a,j,rfl,r,hl,λ_=>rfl⟩) λ_ _ _ _ _ z=>z
end Gn
namespace PySem.W.Fast
def tw2477510499421746730:=0
def tw11728546540776131448:=0
def tw11683738856686041263:=0
def tw11002897452194773198:=0
def tw13352091771214411599:=0
def tw13184967725896184635:=0
def tw4080982435626238797:=0
def tw10668386875560684512:=0
def tw7435122553431652774:=0
def tw13786056068877415013:=0
def tw10290631576636667091:=0
def tw7411352958574597348:=0
def tw15024569946629768467:=0
def tw12687084749236731126:=0
def tw5963613441970396285:=0
def tw1083981494577805043:=0
def tw6340280466228265756:=0
def tw16701854706212887230:=0
def tw11322295085333250963:=0
def tw11942151661393446038:=0
def tw4562873850552533505:=0
def tw12176100369491018304:=0
def tw8909215606905230532:=0
def tw11821946927510009982:=0
def tw1793180596824660031:=0
def tw4890729165892400767:=0
def tw13809267131472838470:=0
def tw14906883419211565832:=0
def tw13502277427542305290:=0
def tw2344260972043671609:=0
def tw8825647884900484691:=0
def tw11785402466577186381:=0
def tw12624523525154804430:=0
def tw14500499560816630760:=0
def tw11751798879522010847:=0
def tw7718518553340618651:=0
def tw5446079624999565563:=0
def tw4450077614262422506:=0
def tw3215411095356300736:=0
def tw4178727996132016405:=0
def tw8604679131881385679:=0
def tw10830256678494298167:=0
def tw10015213529550977892:=0
def tw12189120495901736620:=0
def tw9877191268308567106:=0
def tw10714622323559218888:=0
def tw16570317670928207794:=0
def tw2460668020100311679:=0
def tw771853006983599662:=0
def tw16126584726194872738:=0
def tw12465387474817581751:=0
def tw7072208845177662265:=0
def tw15433116753069107737:=0
def tw3386928393828146489:=0
def tw15878298569716763319:=0
def tw6118010163052295410:=0
def tw16791599722644397793:=0
def tw13778179280228464407:=0
def tw15301990041273905013:=0
def tw696816102470747982:=0
def tw7751948075371450284:=0
def tw8511463213663126245:=0
def tw13383938769366663484:=0
def tw1332631984079063069:=0
def tw8594991071934187400:=0
def tw18229103323451830996:=0
def tw1863407660161597182:=0
def tw8718633737228105809:=0
def tw16071106749842814367:=0
def tw16190647477931531026:=0
def tw442913851048065579:=0
def tw12299904732699438061:=0
def tw88559904571450390:=0
def tw7030009946400588833:=0
def tw12325611073769596086:=0
def tw9560077055688248318:=0
def tw2114229647682815894:=0
def tw4626848357034562796:=0
def tw7200353031915165199:=0
def tw18169300473972833098:=0
def tw8488593620380899844:=0
def tw17074265194697371551:=0
def tw8450849335699511298:=0
def tw2481567548615782079:=0
def tw2718698106071695070:=0
def tw5232680241993922872:=0
def tw4984677869168326148:=0
def tw11557197659341350483:=0
def tw12297653471556882653:=0
def tw603088459159444790:=0
def tw2143835661780685150:=0
def tw3954262407576669861:=0
def tw11914458615503129039:=0
def tw927415243600611672:=0
def tw6572867912738155041:=0
def tw4927208645262955083:=0
def tw3526024366357518811:=0
def tw5158186385624607724:=0
def tw9598507337520451318:=0
def tw9797039805211395274:=0
def tw11889664330528025566:=0
def tw6571150416769336208:=0
def tw14512506422381947421:=0
def tw5643581982069476758:=0
def tw7576166703758900108:=0
def tw15216212018137321787:=0
def tw15682533805341760611:=0
def tw2142510072282937877:=0
def tw17311038468614517792:=0
def tw2876424926972252436:=0
def tw15189282721587711020:=0
def tw5818663345564378468:=0
def tw11442272211488455388:=0
def tw8648968959109044205:=0
def tw5573126068675672542:=0
def tw1365944629115424919:=0
def tw14474081652600938497:=0
def tw3308258626504509875:=0
def tw3127270461915950797:=0
def tw9998847808061016398:=0
end PySem.W.Fast
open PySem PySem.W PyProof.Rows
set_option maxRecDepth 100000 in
set_option maxHeartbeats 0 in
theorem PySem.Challenge.cw_surecall_k10_whole_fewer_rows_holds : PySem.Challenge.rw_surecall_k10_whole_fewer_rows.Holds := by
 w_on;o_law;k_head;(case hw=>w_witness2)
 k_fill
 refine Gn.GE (l:=PySem.Challenge.rw_surecall_k10_whole_fewer_rows) rfl rfl (fun w h Y=>PySem.W.kIn_of Y) ?F
 case F=>
  intro w mg fa h KX G a0;refine' Gn.qO KX G a0 ⟨?a1,?l1,?c1,?k1⟩ ⟨?a2,?l2,?c2,?k2⟩ ⟨?a3,?l3,?c3,?k3⟩ ⟨?a4,?l4,?c4,?k4⟩ ⟨?a5,?l5,?c5,?k5⟩ ⟨?a6,?l6,?c6,?k6⟩ ⟨?a7,?l7,?c7,?k7⟩ ⟨?a8,?l8,?c8,?k8⟩ ⟨?a9,?l9,?c9,?k9⟩ ⟨?a10,?l10,?c10,?k10⟩ ⟨?a11,?l11,?c11,?k11⟩ ⟨?a12,?l12,?c12,?k12⟩ ⟨?a13,?l13,?c13,?k13⟩ ⟨?a14,?l14,?c14,?k14⟩ ⟨?a15,?l15,?c15,?k15⟩ ⟨?a16,?l16,?c16,?k16⟩ ⟨?a17,?l17,?c17,?k17⟩ ⟨?a18,?l18,?c18,?k18⟩ ⟨?a19,?l19,?c19,?k19⟩ ⟨?a20,?l20,?c20,?k20⟩ ⟨?a21,?l21,?c21,?k21⟩ ⟨?a22,?l22,?c22,?k22⟩ ⟨?a23,?l23,?c23,?k23⟩ ⟨?a24,?l24,?c24,?k24⟩ ⟨?a25,?l25,?c25,?k25⟩ ⟨?a26,?l26,?c26,?k26⟩ ⟨?a27,?l27,?c27,?k27⟩ ⟨?a28,?l28,?c28,?k28⟩ ⟨?a29,?l29,?c29,?k29⟩ ⟨?a30,?l30,?c30,?k30⟩ ⟨?a31,?l31,?c31,?k31⟩ ⟨?a32,?l32,?c32,?k32⟩ ⟨?a33,?l33,?c33,?k33⟩ ⟨?a34,?l34,?c34,?k34⟩ ⟨?a35,?l35,?c35,?k35⟩ ⟨?a36,?l36,?c36,?k36⟩ ⟨?a37,?l37,?c37,?k37⟩ ⟨?a38,?l38,?c38,?k38⟩ ⟨?a39,?l39,?c39,?k39⟩ ⟨?a40,?l40,?c40,?k40⟩ ⟨?a41,?l41,?c41,?k41⟩ ⟨?a42,?l42,?c42,?k42⟩ ⟨?lq1,?cq1,?kq1⟩ ⟨?lq2,?cq2,?kq2⟩ ⟨?lq3,?cq3,?kq3⟩ ⟨?lq4,?cq4,?kq4⟩ ⟨?lq5,?cq5,?kq5⟩ ⟨?lq6,?cq6,?kq6⟩ ⟨?lq7,?cq7,?kq7⟩ ⟨?lq8,?cq8,?kq8⟩ ⟨?lq9,?cq9,?kq9⟩ ⟨?ca1,⟨?cb1,?cc1,?cd1,?ce1⟩,?cf1,⟨?cg1,?ch1,?ci1,?cj1⟩,?ck1,?cl1,?cm1⟩ ⟨?ca2,⟨?cb2,?cc2,?cd2,?ce2⟩,?cf2,⟨?cg2,?ch2,?ci2,?cj2⟩,?ck2,?cl2,?cm2⟩ ⟨?ca3,⟨?cb3,?cc3,?cd3,?ce3⟩,?cf3,⟨?cg3,?ch3,?ci3,?cj3⟩,?ck3,?cl3,?cm3⟩ ?nd1 ?nd2 ?aM ?lM ?aH ?lH ?aP ?lP ?aW ?aB ?aT ?aU ?aD ?lD ?z
  (case a1 | l1 | c1 | k1=>k_is)
  (case a2 | l2 | c2 | k2=>k_is)
  (case a3 | l3 | c3 | k3=>k_is)
  (case a4 | l4 | c4 | k4=>k_is)
  (case a5 | l5 | c5 | k5=>k_is)
  (case a6 | l6 | c6 | k6=>k_is)
  (case a7 | l7 | c7 | k7=>k_is)
  (case a8 | l8 | c8 | k8=>k_is)
  (case a9 | l9 | c9 | k9=>k_is)
  (case a10 | l10 | c10 | k10=>k_is)
  (case a11 | l11 | c11 | k11=>k_is)
  (case a12 | l12 | c12 | k12=>k_is)
  (case a13 | l13 | c13 | k13=>k_is)
  (case a14 | l14 | c14 | k14=>k_is)
  (case a15 | l15 | c15 | k15=>k_is)
  (case a16 | l16 | c16 | k16=>k_is)
  (case a17 | l17 | c17 | k17=>k_is)
  (case a18 | l18 | c18 | k18=>k_is)
  (case a19 | l19 | c19 | k19=>k_is)
  (case a20 | l20 | c20 | k20=>k_is)
  (case a21 | l21 | c21 | k21=>k_is)
  (case a22 | l22 | c22 | k22=>k_is)
  (case a23 | l23 | c23 | k23=>k_is)
  (case a24 | l24 | c24 | k24=>k_is)
  (case a25 | l25 | c25 | k25=>k_is)
  (case a26 | l26 | c26 | k26=>k_is)
  (case a27 | l27 | c27 | k27=>k_is)
  (case a28 | l28 | c28 | k28=>k_is)
  (case a29 | l29 | c29 | k29=>k_is)
  (case a30 | l30 | c30 | k30=>k_is)
  (case a31 | l31 | c31 | k31=>k_is)
  (case a32 | l32 | c32 | k32=>k_is)
  (case a33 | l33 | c33 | k33=>k_is)
  (case a34 | l34 | c34 | k34=>k_is)
  (case a35 | l35 | c35 | k35=>k_is)
  (case a36 | l36 | c36 | k36=>k_is)
  (case a37 | l37 | c37 | k37=>k_is)
  (case a38 | l38 | c38 | k38=>k_is)
  (case a39 | l39 | c39 | k39=>k_is)
  (case a40 | l40 | c40 | k40=>k_is)
  (case a41 | l41 | c41 | k41=>k_is)
  (case a42 | l42 | c42 | k42=>k_is)
  (case aD=>k_is);(case lD=>k_is)
  (case lq1=>k_is);(case cq1=>k_is);(case kq1=>k_is)
  (case lq2=>k_is);(case cq2=>k_is);(case kq2=>k_is)
  (case lq3=>k_is);(case cq3=>k_is);(case kq3=>k_is)
  (case lq4=>k_is);(case cq4=>k_is);(case kq4=>k_is)
  (case lq5=>k_is);(case cq5=>k_is);(case kq5=>k_is)
  (case lq6=>k_is);(case cq6=>k_is);(case kq6=>k_is)
  (case lq7=>k_is);(case cq7=>k_is);(case kq7=>k_is)
  (case lq8=>k_is);(case cq8=>k_is);(case kq8=>k_is)
  (case lq9=>k_is);(case cq9=>k_is);(case kq9=>k_is)
  (case ca1=>k_is);(case cb1=>k_is);(case cc1=>k_is);(case cd1=>k_is);(case ce1=>k_is);(case ch1=>k_is);(case cg1=>k_is);(case ci1=>k_is);(case cj1=>k_is);(case ck1=>k_is);(case cl1=>k_is);(case cm1=>k_is)
  (case cf1=>simp only[wG];refine⟨?_,?_,fun _ h=>nomatch h⟩ <;> k_is)
  (case ca2=>k_is);(case cb2=>k_is);(case cc2=>k_is);(case cd2=>k_is);(case ce2=>k_is);(case ch2=>k_is);(case cg2=>k_is);(case ci2=>k_is);(case cj2=>k_is);(case ck2=>k_is);(case cl2=>k_is);(case cm2=>k_is)
  (case cf2=>simp only[wG];refine⟨?_,?_,?_,?_,fun _ h=>nomatch h⟩ <;> k_is)
  (case ca3=>k_is);(case cb3=>k_is);(case cc3=>k_is);(case cd3=>k_is);(case ce3=>k_is);(case ch3=>k_is);(case cg3=>k_is);(case ci3=>k_is);(case cj3=>k_is);(case ck3=>k_is);(case cl3=>k_is);(case cm3=>k_is)
  (case cf3=>simp only[wG];refine⟨?_,?_,?_,?_,?_,?_,?_,?_,?_,?_,?_,?_,fun _ h=>nomatch h⟩ <;> k_is)
  (case aM | lM | aH | lH=>k_is);(case aP=>k_is);(case lP=>k_is);(case aW=>k_is);(case aB=>k_is);(case aT=>k_is);(case aU=>k_is)
  (case nd1=>decide);(case nd2=>decide)
  (case z=>simp only[wG];refine⟨?_,?_,?_,?_,?_,?_,?_,?_,?_,?_,?_,?_,?_,?_,?_,fun _ h=>nomatch h⟩ <;> k_is)
#print axioms PySem.Challenge.cw_surecall_k10_whole_fewer_rows_holds
end
