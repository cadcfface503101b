import PyProof.Rows.All
import Wide.All
import OpenK.AllK
import Wide.FinOn
import Lean
import PyProof.EqAt
import PyProof.EqKinds
import PyProof.TupleCall
import PyProof.NeKinds
import KE.KSortTup
import PySem.Challenge.RW_surecall_k17_whole_finer_and_more
local macro_rules|`($x⁻¹)=>`(($x).heap.objs.size)
local macro_rules|`(↑$x)=>`(($x).length)
local macro_rules|`(tactic|exists $es,*)=>`(tactic|refine⟨$es,*, ?_⟩)
set_option maxHeartbeats 8000000
local macro_rules|`(tactic|rfl')=>`(tactic|decide +kernel)
abbrev Fg:=PySem.W.Frag
abbrev Vp:=PySem.Value->PySem.Shared->Prop
set_option Elab.async false
set_option linter.all false
set_option maxRecDepth 100000
def aB:=@PySem.wpAny_bind
def aD:=@PySem.wpAny_pure
def bH:=@List.getElem?_eq_getElem
def aZ:=@PySem.Heap.get?_push_of_some
def aT:=@List.not_mem_nil
def vg4:=@List.getElem?_eq_some_iff
def bD:=@List.getElem?_map
def aO:=@Nat.le_refl
def bL:=@List.length_append
def vg8:=@Option.map_eq_some_iff
def bA:=@PySem.Heap.lt_size
def bY:=@PySem.Heap.get?_push_size
def bI:=@Nat.ne_of_lt
def bP:=@List.map_append
def vh3:=@List.mem_cons
def cF:=@Array.length_toList
def cA:=@Bool.false_ne_true
def vh6:=@List.mem_map
def vh7:=@List.mem_singleton
def dD:=@List.take_of_length_le
def cC:=@of_decide_eq_true
def cM:=@Nat.le_of_lt
def cX:=@List.mem_of_getElem?
def cL:=@List.size_toArray
def bO:=@Nat.zero_le
def dY:=@List.length_singleton
def vj5:=@List.mem_append
def aK:=@if_neg
def cY:=@List.length_cons
def dG:=@List.take_add_one
def cI:=@decide_eq_true
def dM:=@PySem.wpAny_setState_of
def bC:=@PyProof.Rows.wpS_bind
def dI:=@List.length_take
def dR:=@List.append_assoc
def gJ:=@Array.getElem?_eq_getElem
def fR:=@List.mem_append_right
def aR:=@if_pos
def bM:=@PyProof.Rows.wpS_pure
def cQ:=@Nat.ne_of_gt
def dP:=@PySem.wpAny_holding
def hZ:=@PySem.F.plainAttrs_list
def vm1:=@List.all_eq_true
def eR:=@decide_eq_false
def vm3:=@List.mem_iff_getElem?
def eW:=@PySem.PassesOwn.never
def gE:=@Nat.lt_of_lt_of_le
def iX:=@PySem.F.slot_list_append
def iN:=@PySem.F.type_list_append
def fO:=@PySem.wpAny_call_entry
def fY:=@PySem.wpAny_newObj_type
def eM:=@List.map_cons
def fT:=@List.getElem_mem
def iI:=@PySem.Heap.get?_update_self
def iF:=@Array.getElem?_toList
def jD:=@PySem.wpAny_callSpecial?_slot
def iH:=@List.mem_cons_of_mem
def iM:=@PySem.wpAny_setField_rec
def gZ:=@PySem.wpAny_isInstance
def kM:=@PySem.Heap.get?_update_other
def fI:=@Nat.le_trans
def gK:=@PySem.isSubtype_type
def fP:=@Nat.lt_trans
def hC:=@PySem.wpAny_ite_split
def kG:=@List.length_filter_le
def cR:=@congrArg
def eZ:=@PySem.wpAny_field
def jO:=@Array.toList_append
def iA:=@List.append_nil
def kI:=@PySem.Around.under_plainId
def nW:=@List.getElem?_append_left
def vq0:=@List.mem_filter
def oN:=@PyProof.Rows.callWith_type1
def vq2:=@List.nodup_cons
def oG:=@List.getElem?_append_right
def mC:=@PySem.F.slot_dict_get
def dJ:=@or_false
def mO:=@PySem.builtinLookup_eq_fast
def kT:=@PySem.Heap.SameBut.update
def fM:=@PySem.wpAny_mono
def iB:=@Nat.lt_irrefl
def jE:=@Option.some.inj
def fN:=@PySem.wpAny_rule
def jY:=@Nat.lt_succ_of_lt
def kP:=@PySem.Calls.spliced_cons
def lB:=@Bool.false_eq_true
def nE:=@List.getElem?_eq_none
def wS:=@List.Nodup.length_le_of_subset
def sF:=@List.getD_eq_getElem?_getD
def cW:=@Ne.symm
def oI:=@PySem.F.plainAttrs_dict
def mP:=@List.getElem_of_mem
def kH:=@Bool.and_eq_true
def jP:=@PySem.codeAny_builtin
def lD:=@Int.toNat_natCast
def lR:=@List.length_range
def jA:=@PySem.boot_len
def mQ:=@List.mem_append_left
def hW:=@PyProof.Rows.wpS_forRange
def oM:=@PySem.Calls.callWith_builtin
def jX:=@List.length_nil
def kE:=@PySem.wpAny_specialOf
def iJ:=@Nat.lt_or_ge
def jU:=@PySem.Heap.size_push
def jF:=@PySem.wpAny_seqItems
def vt4:=@List.length_eq_zero_iff
def mN:=@Nat.lt_of_succ_lt
def vt6:=@Array.getElem?_eq_some_iff
def vt7:=@List.mem_range
def kD:=@List.nodup_nil
def kK:=@List.Perm.refl
def wL:=@Classical.byContradiction
def mD:=@List.length_drop
def vv2:=@List.perm_append_comm
def uY:=@List.take_append_drop
def vv4:=@PySem.F.slot_dict_keyiterator_next
def lU:=@PySem.typeLookup_type
def pX:=@decide_eq_true_iff
def lV:=@List.filter_nil
def sK:=@PySem.Calls.evalArgs_plain
def oB:=@Nat.lt_succ_self
def xD:=@PySem.F.entry_dict_get
def pF:=@PySem.Calls.spliced_nil
def uJ:=@PySem.mem_of_lookup
def pG:=@Array.toList_push
def pY:=@PySem.wpAny_dictEntries
def rT:=@List.map_congr_left
def kY:=@PySem.wpAny_attempt
def DS:=@List.drop_eq_getElem_cons
def zF:=@List.mem_of_find?_eq_some
def mS:=@Bool.eq_iff_iff
def wM:=@List.Perm.append_left
def kO:=@List.map_map
def rV:=@List.mem_cons_self
def rB:=@PySem.tupleKind_room_in1
def xS:=@PySem.wpAny_comprehension_free
def GD:=@PySem.wpAny_typeNameOfWhole_keyiter
def gI:=@if_false
def lX:=@PySem.plainId_quiet
def zD:=@List.filter_cons_of_neg
def xR:=@List.filter_cons_of_pos
def sT:=@PySem.wpAny_Call_method
def oJ:=@PySem.F.slot_zip_next
def vU:=@PySem.F.plain_extend_loop
def DQ:=@Array.getElem?_eq_none
def vz4:=@PySem.F.slot_NoneType_hash
def GY:=@PySem.F.slot_tuple_iterator_next
def vz6:=@Array.perm_iff_toList_perm
def jG:=@True.intro
def uO:=@Nat.le_add_right
def mL:=@Nat.zero_add
def vV:=@Int.emod_lt_of_pos
def kR:=@PySem.sizeLine_eq
def ub2:=@List.getElem?_zip_eq_some
def GI:=@PySem.Calls.call_function_entry
def BH:=@List.mem_of_mem_take
def tW:=@PySem.wpAny_passesOwn
def ub6:=@Option.isSome_iff_exists
def GZ:=@List.getElem?_take_of_lt
def ub8:=@PyProof.Rows.slot_tuple_getitem
def wE:=@List.ext_getElem?
def vM:=@PySem.Heap.SameBut.refl
def DY:=@PySem.SetTable.below.go.eq_def
def vR:=@Array.size_append
def nB:=@PySem.wpAny_typeOf
def mV:=@PySem.call_meetsIn
def pV:=@PySem.wpAny_standAt
def DP:=@List.replicate_succ
def BP:=@List.length_reverse
def FY:=@List.getElem?_cons_zero
def oF:=@List.map_take
def ud0:=@List.any_eq_true
def wV:=@PySem.wpAny_forIn_list
def yL:=@PySem.wpAny_pyIter_tuple
def AT:=@PySem.wpAny_Call_Name_kw
def yX:=@List.filterMap_map
def fH:=@Or.inl
def CN:=@List.filter_append
def BA:=@List.length_zipIdx
def xC:=@List.of_mem_zip
def wX:=@List.find?_cons
def FD:=@PySem.F.type_dict_get
def wR:=@List.forIn_cons
def HP:=@PySem.wpAny_notOrdered_dict
def wF:=@PySem.wpAny_updateSeq
def wW:=@List.length_zip
def wP:=@Int.emod_nonneg
def wN:=@List.length_map
def zZ:=@PySem.wpAny_truthy_bool
def zA:=@PySem.wpAny_pyIter_list
def AX:=@Option.some.injEq
def CV:=@PySem.wpAny_storeSet_of
def yB:=@Nat.le_of_lt_succ
def tN:=@List.map_drop
def MT:=@List.length_eraseIdx_of_lt
def ug4:=@Array.getElem?_eq_none_iff
def ug5:=@PySem.F.slot_tuple_getitem
def GK:=@Array.toList_reverse
def ug7:=@Array.mem_toList_iff
def vN:=@PySem.isSubtype_stop
def BC:=@PySem.wpAny_eqBool_str
def yZ:=@List.getElem_inj
def CU:=@List.lookup_cons
def jL:=@PyProof.Rows.wpS_mono
def uh3:=@beq_eq_false_iff_ne
def pR:=@Sum.inr.inj
def FG:=@List.filterMap_cons
def FA:=@List.reverse_append
def uh7:=@List.length_pos_iff
def GC:=@List.flatMap_append
def uh9:=@PySem.F.slot_list_getattribute
def tY:=@Nat.succ_pos
def uj1:=@List.mem_filterMap
def wC:=@List.any_cons
def JR:=@PySem.F.args_dict_get_2
def IU:=@PySem.F.args_dict_get_3
def EO:=@Array.all_eq_true'
def yW:=@Nat.min_eq_left
def CY:=@PySem.wpAny_dictEpoch
def GM:=@List.zip_cons_cons
def zX:=@PySem.size_of_entries
def uk0:=@List.find?_eq_none
def EK:=@Array.forIn_toList
def GE:=@List.flatten_cons
def vC:=@Nat.le_succ
def sO:=@PySem.wpAny_of_eq
def EM:=@PySem.F.args_zip_next_1
def EH:=@PySem.wpAny_pyIter_slot
def GX:=@PySem.F.plain_list_iadd
def FP:=@List.flatMap_cons
def xK:=@PySem.entryFor_alias
def DW:=@PySem.Paired.length
def BG:=@PySem.signature?_of
def sM:=@PyProof.Rows.wpS_modify
def kB:=@PyProof.Rows.wpS_get
def aG{α β:Type _}{f:α->β}{l:List α}:↑(l.map f)=↑l:=by simp
section
set_option autoImplicit true
set_option relaxedAutoImplicit true
namespace L2
open PySem PySem.Spec PyProof.Rows
variable{prog:Program}{w:World}{A:Around}{E:Vp}{s:Shared}
variable{X:Cx}
abbrev aL:=Sum Int Str
def jS:aL->Value->Bool
 | .inl k,v=>Value.isInt k v
 | .inr x,v=>Value.isStrOf x v
def yC(w:World):aL->Int
 | .inl k=>hashInt k
 | .inr x=>hashStr w x
def iZ:∀{k:aL}{v:Value},jS k v=true->(∃i t,k=Sum.inl i/\v=Value.int i t)\/(∃x t,k=Sum.inr x/\v=Value.str x t)
 | .inl i,v,h=>by
  obtain⟨t,e⟩:=Value.isInt_shape (k:=i) (v:=v) h;exact .inl ⟨i,t,rfl,e⟩
 | .inr x,v,h=>by
  obtain⟨t,e⟩:=Value.isStrOf_shape (x:=x) (v:=v) h;exact .inr ⟨x,t,rfl,e⟩
def Hj(i:Int)(t:Tok):jS (.inl i) (.int i t)=true:=by simp[jS,Value.isInt]
def Bv(x:Str)(t:Tok):jS (.inr x) (.str x t)=true:=by simp[jS,Value.isStrOf]
def rZ(a b:Int):decide ((Sum.inl a:aL)=Sum.inl b)=(a == b):=by
 by_cases e:a=b
 .subst e;simp
 .have h:¬(Sum.inl a:aL)=Sum.inl b:=λq=>e<|Sum.inl.inj q;rw[eR h];exact(uh3.mpr e).symm
def tF(a b:Str):decide ((Sum.inr a:aL)=Sum.inr b)=decide (a=b):=by
 by_cases e:a=b
 .subst e;simp
 .have h:¬(Sum.inr a:aL)=Sum.inr b:=λq=>e<|pR q;rw[eR h,eR e]
def tD(a:Int)(b:Str):decide ((Sum.inl a:aL)=Sum.inr b)=false:=eR λq=>nomatch q
def uG(a:Str)(b:Int):decide ((Sum.inr a:aL)=Sum.inl b)=false:=eR λq=>nomatch q
def cE(prog:Program)(w:World):PySem.KeyKind prog w aL where
 is:=jS
 hash:=yC w
 inj:=λv a b ha hb=>by
  rcases iZ ha with ⟨i,t,rfl,rfl⟩ | ⟨x,t,rfl,rfl⟩
  .rcases iZ hb with ⟨j,u,rfl,e⟩ | ⟨y,u,rfl,e⟩
   .injection e with e1 _;rw[e1]
   .exact nomatch e
  .rcases iZ hb with ⟨j,u,rfl,e⟩ | ⟨y,u,rfl,e⟩
   .exact nomatch e
   .injection e with e1 _;rw[e1]
 byValue:=λk v h=>by
  rcases iZ h with ⟨i,t,rfl,rfl⟩ | ⟨x,t,rfl,rfl⟩ <;> rfl
 pyHash:=λhv h=>by
  rcases iZ hv with ⟨i,t,rfl,rfl⟩ | ⟨x,t,rfl,rfl⟩
  .exact wpAny_pyHash_int h
  .exact wpAny_pyHash_str h
 eqBool:=λhu hv h=>by
  rcases iZ hu with ⟨i,t,rfl,rfl⟩ | ⟨x,t,rfl,rfl⟩
  .rcases iZ hv with ⟨j,u,rfl,rfl⟩ | ⟨y,u,rfl,rfl⟩
   .rw[rZ]at h;exact wpAny_eqBool_int h
   .rw[tD]at h;exact SeqAt.EqAt.int_str i t y u _ _ _ _ h
  .rcases iZ hv with ⟨j,u,rfl,rfl⟩ | ⟨y,u,rfl,rfl⟩
   .rw[uG]at h;exact SeqAt.EqAt.str_int x t j u _ _ _ _ h
   .rw[tF]at h;exact BC h
 «strs»:=λk x t v h=>by
  rcases iZ h with ⟨i,u,rfl,e⟩ | ⟨y,u,rfl,e⟩
  .exact nomatch e
  .injection e with e1 _;subst e1;cases v <;> rfl
def Cj(prog:Program)(w:World)(i:Int)(t:Tok):(cE prog w).is (.inl i) (.int i t)=true:=Hj i t
def Da(prog:Program)(w:World)(x:Str)(t:Tok):(cE prog w).is (.inr x) (.str x t)=true:=Bv x t
inductive V where
 | non | bl (b:Bool) | int (i:Int) | str (x:Str) | byt (b:Array UInt8) | flt (b:UInt64) | ref (a:Addr) | ty (n:String)
 deriving DecidableEq
def RelV:V->Value->Prop
 | .non,u=>u=Value.none
 | .bl b,u=>u=Value.bool b
 | .int i,u=>∃t,u=Value.int i t
 | .str x,u=>∃t,u=Value.str x t
 | .byt b,u=>∃t,u=Value.bytes b t
 | .flt b,u=>∃t,u=Value.float b t
 | .ref a,u=>u=Value.ref a
 | .ty n,u=>u=Value.type n
abbrev Vals:List V->List Value->Prop:=Paired RelV
theorem Vals.length{xs:List V}{a:List Value}(r:Vals xs a):↑xs=↑a:=DW r
theorem Vals.get:∀{xs:List V}{a:List Value}{i:Nat}{x:V},Vals xs a->xs[i]?=some x->∃u,a[i]?=some u/\RelV x u
 | _,_,_,_,.nil,e=>by simp at e
 | _,_,0,_,.cons r _,e=>by simp at e;subst e;exact⟨_,rfl,r⟩
 | _,_,i+1,x,.cons _ t,e=>by
  obtain⟨u,h1,h2⟩:=Vals.get (i:=i) (x:=x) t (by simpa using e);exact⟨u,by simpa using h1,h2⟩
theorem Vals.set{x:V}{u:Value}(r:RelV x u):∀{xs:List V}{a:List Value}(i:Nat),Vals xs a->Vals (xs.set i x) (a.set i u)
 | _,_,_,.nil=>.nil
 | _,_,0,.cons _ t=>.cons r t
 | _,_,i+1,.cons q t=>.cons q<|Vals.set r i t
theorem Vals.append:∀{xs ys:List V}{a ws:List Value},Vals xs a->Vals ys ws->Vals (xs++ys) (a++ws)
 | _,_,_,_,.nil,s=>s
 | _,_,_,_,.cons r t,s=>.cons r<|Vals.append t s
theorem Vals.take:∀{xs:List V}{a:List Value}(n:Nat),Vals xs a->Vals (xs.take n) (a.take n)
 | _,_,0,_=>.nil
 | _,_,_+1,.nil=>.nil
 | _,_,n+1,.cons r t=>.cons r<|Vals.take n t
theorem Vals.drop:∀{xs:List V}{a:List Value}(n:Nat),Vals xs a->Vals (xs.drop n) (a.drop n)
 | _,_,0,r=>r
 | _,_,_+1,.nil=>.nil
 | _,_,n+1,.cons _ t=>Vals.drop n t
def RelO:Option V->Option Value->Prop
 | some v,some u=>RelV v u
 | none,none=>True
 | _,_=>False
def KV{κ:Type}:List (κ×V)->List (κ×Value)->Prop:=Paired λ(p:κ×V) (q:κ×Value)=>p.1=q.1/\RelV p.2 q.2
def kV:aL->V
 | .inl i=>.int i
 | .inr x=>.str x
inductive HO where
 /-- a list -/
 | lst (xs:List V)
 /-- a tuple (never changes) -/
 | tup (xs:List V)
 /-- a dict whose keys are ints and texts;one whose keys are tuples of ints and texts (the empty one is both) -/
 | dK (kvs:List (aL×V)) | dT (kvs:List (List aL×V))
 /-- a set of ints: its members,its size -/
 | set (S:Int->Bool) (n:Nat)
 /-- an instance of the class at C,its dict at dx,its attributes -/
 | ins (C dx:Addr) (fs:List (Str×V))
 /-- the dict of the instance at x -/
 | own (x:Addr)
 /-- the dict of an exception -/
 | xd (fs:List (Str×V))
 /-- a bound method,f of x -/
 | met (f x:Addr)
 /-- a range object lo,lo+1,.. below hi -/
 | rng (lo hi:Int)
 /-- a thing that is known to the object (the script;a dict while a loop walks it): read,never written while it is so -/
 | frz (o:Obj) (u:HO)
 /-- a fV object's table -/
 | tbl (ps:Array Value)
 /-- any other thing,by what is true of its one object (a def of one's own: SetO a S n:=HO.ext λh=>..) -/
 | ext (φ:Heap->Prop)
abbrev Hp:=Addr->Option HO
def aA(H:Hp)(a:Addr)(o:HO):Hp:=λb=>if b=a then some o else H b
def aE{H:Hp}{a:Addr}{o:HO}:aA H a o a=some o:=by unfold aA;rw[aR rfl]
def aI{H:Hp}{a b:Addr}{o:HO}(h:b≠a):aA H a o b=H b:=by unfold aA;rw[aK h]
def vY{H:Hp}{a:Addr}{o u:HO}:aA (aA H a o) a u=aA H a u:=by
 funext b;unfold aA;split <;> rfl
def KS{H:Hp}{a b:Addr}{o u:HO}(h:H a=some o)(h':H b=some u)(d:o≠u):a≠b:=by
 intro e;subst e;rw[h]at h';exact d<|jE h'
def aX{H:Hp}{a b:Addr}{o:HO}(h:H a=some o)(h':H b=none):a≠b:=by
 intro e;subst e;rw[h]at h';cases h'
def DN(h:Heap)(a:Addr):Prop:=∃o,h.get? a=some o/\o.dict=none
section
variable(P:Program)(w:World)
def ObjOk(H:Hp)(h:Heap)(a:Addr):HO->Prop
 | .lst xs=>↑xs<=sizeLine/\∃(its:List Value)(n:Nat),Vals xs its/\h.get? a=some {cls:=.type "list",data:=.seq its.toArray n}
 | .tup xs=>(↑xs<=sizeLine/\DN h a)/\∃its:List Value,Vals xs its/\IsTup h a its.toArray
 | .dK kvs=>↑kvs<=sizeLine/\(a == sysModules)=false/\∃vs,KV kvs vs/\h.DictOf (cE P w) a vs
 | .dT kvs=>↑kvs<=sizeLine/\(a == sysModules)=false/\∃xs:List (List aL×Addr×Value),
   Paired (λ(p:List aL×V) (q:List aL×Addr×Value)=>p.1=q.1/\H q.2.1=some (.tup<|p.1.map kV)/\RelV p.2 q.2.2) kvs xs/\
   ∃o es ep,h.get? a=some o/\o.ExactDict/\o.data=.dict es ep/\es.toList=xs.map (entryOfKey<|tupleKind<|cE P w)/\(xs.map (·.1)).Nodup
 | .set S n=>h.SetOf (intKind P w) a S n
 | .ins C dx fs=>H dx=some (.own a)/\↑fs<=1000/\dx≠a/\h.get? a=some (PySem.W.instObj C dx)/\
   ∃mA,h.Ns1 dx mA/\(∀f,RelO (fs.lookup f)<|mA f)/\PySem.Within mA (fs.map (·.1))
 | .own _=>∃o,h.get? a=some o
 | .xd fs=>∃mA,h.Ns1 a mA/\∀f,RelO (fs.lookup f)<|mA f
 | .rng lo hi=>∃t u v,h.get? a=some {cls:=.type "range",data:=.fields #[.int lo t,.int hi u,.int 1 v]}
 | .frz o u=>h.get? a=some o/\ObjOk H h a u
 | .tbl ps=>h.get? a=some {cls:=.none,data:=.fields ps}
 | .met f x=>h.get? a=some (PySem.W.methodObj (.ref f)<|.ref x)
 | .ext φ=>φ h/\(∃o,h.get? a=some o)/\∀h1 h2:Heap,φ h1->(∀o,h1.get? a=some o->h2.get? a=some o)->φ h2
def HOk(H:Hp)(h:Heap):Prop:=∀a o,H a=some o->ObjOk P w H h a o
end
section
variable{P:Program}{w:World}{H H':Hp}{h h':Heap}{a:Addr}{o:HO}
theorem ObjOk.lt(x:ObjOk P w H h a o):a<h.objs.size:=by
 cases o with
 | lst xs=>obtain⟨_,_,_,_,e⟩:=x;exact bA e
 | tup xs=>obtain⟨_,_,_,p⟩:=x;exact p.lt
 | dK kvs=>obtain⟨_,_,_,_,o,_,_,e,_⟩:=x;exact bA e
 | dT kvs=>obtain⟨_,_,_,_,o,_,_,e,_⟩:=x;exact bA e
 | set S n=>obtain⟨o,_,_,_,e,_⟩:=x;exact bA e
 | ins C dx fs=>obtain⟨_,_,_,e,_⟩:=x;exact bA e
 | own y=>obtain⟨_,e⟩:=x;exact bA e
 | xd fs=>obtain⟨_,⟨_,_,_,e,_⟩,_⟩:=x;exact bA e
 | rng lo hi=>obtain⟨_,_,_,e⟩:=x;exact bA e
 | frz ob u=>obtain⟨e,_⟩:=x;exact bA e
 | tbl ps=>exact bA (show h.get? a=some _ from x)
 | met f y=>exact bA (show h.get? a=some _ from x)
 | ext φ=>obtain⟨_,⟨_,e⟩,_⟩:=x;exact bA e
theorem Paired.mapP{α β:Type}{F G:α->β->Prop}:∀{l₁:List α}{l₂:List β},Paired F l₁ l₂->(∀a b,F a b->G a b)->Paired G l₁ l₂
 | _,_,.nil,_=>.nil
 | _,_,.cons r t,f=>.cons (f _ _ r)<|Paired.mapP t f
def ObjOk.stay(x:ObjOk P w H h a o)(k:∀b u,(b=a\/H b=some (.own a))->h.get? b=some u->h'.get? b=some u)
  (s:∀b,H b=some (.own a)->H' b=some (.own a)) (A:∀b xs,H b=some (.tup xs)->H' b=some (.tup xs)):ObjOk P w H' h' a o:=by
 induction o with
 | lst xs=>obtain⟨z,its,n,r,e⟩:=x;exact⟨z,its,n,r,k _ _ (.inl rfl) e⟩
 | tup xs=>obtain⟨⟨z,od,j,l⟩,y⟩:=x;obtain⟨its,r,i,e,c⟩:=y;exact⟨⟨z,od,k _ _ (.inl rfl) j,l⟩,its,r,i,k _ _ (.inl rfl) e,c⟩
 | dK kvs=>obtain⟨z,y,m,r,i,es,ep,e,c⟩:=x;exact⟨z,y,m,r,i,es,ep,k _ _ (.inl rfl) e,c⟩
 | dT kvs=>
  obtain⟨z,y,xs,r,i,es,ep,e,c⟩:=x;exact⟨z,y,xs,Paired.mapP r λp q z=>⟨z.1,A _ _ z.2.1,z.2.2⟩,i,es,ep,k _ _ (.inl rfl) e,c⟩
 | set S n=>obtain⟨i,es,ep,t,e,c⟩:=x;exact⟨i,es,ep,t,k _ _ (.inl rfl) e,c⟩
 | ins C dx fs=>
  obtain⟨d,z,ne,e,mA,⟨od,es,ep,B,c⟩,r⟩:=x;exact⟨s _ d,z,ne,k _ _ (.inl rfl) e,mA,⟨od,es,ep,k _ _ (.inr d) B,c⟩,r⟩
 | own y=>obtain⟨i,e⟩:=x;exact⟨i,k _ _ (.inl rfl) e⟩
 | xd fs=>obtain⟨mA,⟨od,es,ep,e,c⟩,r⟩:=x;exact⟨mA,⟨od,es,ep,k _ _ (.inl rfl) e,c⟩,r⟩
 | rng lo hi=>obtain⟨t,u,v,e⟩:=x;exact⟨t,u,v,k _ _ (.inl rfl) e⟩
 | frz i u ih=>obtain⟨e,q⟩:=x;exact⟨k _ _ (.inl rfl) e,ih q⟩
 | tbl ps=>
  have e:h.get? a=some {cls:=.none,data:=.fields ps}:=x;show h'.get? a=some {cls:=.none,data:=.fields ps};exact k a _ (.inl rfl) e
 | met f y=>
  have e:h.get? a=some (PySem.W.methodObj (.ref f)<|.ref y):=x;show h'.get? a=some (PySem.W.methodObj (.ref f)<|.ref y);exact k a _ (.inl rfl) e
 | ext φ=>obtain⟨p,⟨o,e⟩,st⟩:=x;exact⟨st _ _ p λo q=>k _ _ (.inl rfl) q,⟨o,k _ _ (.inl rfl) e⟩,st⟩
theorem HOk.lt(x:HOk P w H h)(e:H a=some o):a<h.objs.size:=(x a o e).lt
def HOk.fresh(x:HOk P w H h)(e:h.objs.size<=a):H a=none:=by
 cases q:H a with
 | none=>rfl
 | some u=>exact absurd (gE (x.lt q) e)<|iB _
def HOk.kept(x:HOk P w H h)(k:∀b u,h.get? b=some u->h'.get? b=some u):HOk P w H h':=λa o e=>
 (x a o e).stay (λb u _ q=>k b u q) (λ_ q=>q) λ_ _ q=>q
def HOk.laid(x:HOk P w H h)(k:∀b u,h.get? b=some u->h'.get? b=some u)(i:h.objs.size<=a)(new:ObjOk P w (aA H a o) h' a o):HOk P w (aA H a o) h':=λb u e=>by
 have f:=x.fresh i
 by_cases d:b=a
 .subst d;rw[aE]at e;cases e;exact new
 .rw[aI d]at e;exact(x b u e).stay (λc v _ q=>k c v q) (λc q=>by rw[aI<|aX q f];exact q) λc xs q=>by rw[aI<|aX q f];exact q
end
def Rd(H:Hp)(a:Addr)(u:HO):Prop:=H a=some u\/∃o,H a=some (.frz o u)
def Rd.of{H:Hp}{a:Addr}{u:HO}(h:H a=some u):Rd H a u:=.inl h
def Rd.ok{P:Program}{w:World}{H:Hp}{h:Heap}{a:Addr}{u:HO}(r:Rd H a u)(x:HOk P w H h):ObjOk P w H h a u:=by
 rcases r with r | ⟨o,r⟩
 .exact x a u r
 .obtain⟨_,q⟩:=x a _ r;exact q
def zN:Option HO->Prop
 | some (.lst _)=>True
 | some (.dK _)=>True
 | some (.dT _)=>True
 | some (.set _ _)=>True
 | some (.ins _ _ _)=>True
 | some (.ext _)=>True
 | _=>False
section
variable{P:Program}{w:World}{H:Hp}{h h':Heap}{x e:Addr}{o':HO}
def HOk.write(ok:HOk P w H h)(f:zN (H x))(j:e=x\/H e=some (.own x))(k:∀b u,b≠e->h.get? b=some u->h'.get? b=some u)(n:∃u,h'.get? e=some u)
  (new:ObjOk P w (aA H x o') h' x o'):HOk P w (aA H x o') h':=λb u q=>by
 have i:∀c y,H c=some (.own y)->c≠x:=λc y r z=>by subst z;rw[r]at f;exact f
 have m:∀c xs,H c=some (.tup xs)->c≠x:=λc xs r z=>by subst z;rw[r]at f;exact f
 by_cases a:b=x
 .subst a;rw[aE]at q;cases q;exact new
 .rw[aI a]at q
  by_cases a1:b=e
  .have l:H b=some (.own x):=by
    rcases j with z | z
    .exact absurd (a1.trans z) a
    .rw[a1];exact z
   rw[q]at l;cases l;obtain⟨v,o⟩:=n;exact⟨v,by rw[a1];exact o⟩
  .refine(ok b u q).stay (λc v d r=>k c v ?_ r) (λc r=>by rw[aI<|i c b r];exact r) λc xs r=>by rw[aI<|m c xs r];exact r
   rcases d with rfl | d
   .exact a1
   .rintro rfl;rcases j with z | z
    .exact i c b d z
    .rw[d]at z;cases z;exact a rfl
end
structure Un(fs ex:List Addr)(H H':Hp)(h h':Heap):Prop where
 keep:∀b o,h.get? b=some o->H b=none->b∉fs->b∉ex->h'.get? b=some o
 slot:∀b o,h.get? b=some o->H b=none->b∈fs->b∉ex->∃sl,h'.get? b=some {o with slots:=sl}
 free:∀b o,h.get? b=some o->H b=none->b∉ex->H' b=none
 there:∀b o,h.get? b=some o->b∉ex->∃o',h'.get? b=some o'
 tups:∀b xs,H b=some (.tup xs)->H' b=some (.tup xs)
 frzs:∀b o u,H b=some (.frz o u)->H' b=some (.frz o u)
 tbls:∀b ps,H b=some (.tbl ps)->∃more,H' b=some (.tbl<|ps++more)
section
variable{fs fs' ex ex':List Addr}{H H1 H2:Hp}{h h1 h2 h':Heap}{a x e:Addr}{o:HO}
def Un.any(u:Un fs ex H H1 h h1){b:Addr}{a:Obj}(q:h.get? b=some a)(n:H b=none)(e:b∉ex):∃sl,h1.get? b=some {a with slots:=sl}:=by
 by_cases d:b∈fs
 .exact u.slot b a q n d e
 .exact⟨a.slots,u.keep b a q n d e⟩
def Un.kept(k:∀b u,h.get? b=some u->h'.get? b=some u):Un fs ex H H h h':=
 ⟨λb a q _ _ _=>k b a q,λb a q _ _ _=>⟨a.slots,k b a q⟩,λ_ _ _ n _=>n,λb a q _=>⟨a,k b a q⟩,λ_ _ q=>q,λ_ _ _ q=>q,λ_ ps q=>⟨#[],by rw[q];simp⟩⟩
def Un.refl:Un fs ex H H h h:=Un.kept λ_ _ q=>q
def Un.laid(k:∀b u,h.get? b=some u->h'.get? b=some u)(e:h.objs.size<=a)(d:H a=none):Un fs ex H (aA H a o) h h' where
 keep:=λb u q _ _ _=>k b u q
 slot:=λb u q _ _ _=>⟨u.slots,k b u q⟩
 free:=λb u q n _=>by rw[aI<|bI<|gE (bA q) e];exact n
 there:=λb u q _=>⟨u,k b u q⟩
 tups:=λb xs q=>by rw[aI<|aX q d];exact q
 frzs:=λb u xs q=>by rw[aI<|aX q d];exact q
 tbls:=λb ps q=>⟨#[],by rw[aI<|aX q d,q];simp⟩
def Un.write(a:zN (H x))(l:e=x\/H e=some (.own x))(k:∀b u,b≠e->h.get? b=some u->h'.get? b=some u)(a1:∃u,h'.get? e=some u):Un fs ex H (aA H x o) h h':=by
 have f:∀b,H b=none->b≠x:=λb n z=>by subst z;rw[n]at a;exact a
 have j:∀b,H b=none->b≠e:=λb n z=>by
  subst z;rcases l with r | r
  .exact f b n r
  .rw[n]at r;cases r
 have d:∀b u,H b=some u->¬zN (some u)->b≠x:=λb u q nm z=>by subst z;rw[q]at a;exact nm a
 refine⟨λb u q n _ _=>k b u (j b n) q,λb u q n _ _=>⟨u.slots,k b u (j b n) q⟩,λb u q n _=>by rw[aI<|f b n];exact n,λb u q _=>?_,
  λb xs q=>by rw[aI<|d b _ q λz=>z];exact q,λb u xs q=>by rw[aI<|d b _ q λz=>z];exact q,λb ps q=>⟨#[],by rw[aI<|d b _ q λz=>z,q];simp⟩⟩
 by_cases i:b=e
 .subst i;exact a1
 .exact⟨u,k b u i q⟩
end
def GJ(h:Heap)(H:Hp):List Addr:=(List.range h.objs.size).filter λa=>(H a).isSome
def gQ(h:Heap)(H:Hp):Heap:=PySem.W.hideAll h<|GJ h H
def YW(h:Heap)(H:Hp):(gQ h H).objs.size=h.objs.size:=PySem.W.hideAll_size _ _
def ZY{h:Heap}{H:Hp}{b:Addr}{o:Obj}(e:h.get? b=some o)(n:H b=none):(gQ h H).get? b=some o:=
 PySem.W.hideAll_get _ e λa=>by
  have q:(H b).isSome=true:=(vq0.mp a).2;rw[n]at q;simp at q
def Ad{h:Heap}{H:Hp}{b:Addr}{o:Obj}(e:(gQ h H).get? b=some o):h.get? b=some o/\H b=none:=by
 have a:h.get? b=some o:=PySem.W.of_hideAll (GJ h H) e;exists a;cases q:H b with
 | none=>rfl
 | some x=>
  have d:b∈GJ h H:=vq0.mpr ⟨vt7.mpr<|bA a,by simp[q]⟩;have z:(gQ h H).get? b=none:=PySem.W.hideAll_none (GJ h H) d;rw[z]at e;cases e
def Er(g h:Heap)(L:Addr):List (Addr×Obj):=(List.range h.objs.size).filterMap λa=>if a=L\/(g.get? a).isSome=true then none else(h.get? a).map λo=>(a,o)
def rest(g h:Heap)(L d:Addr):List (Addr×Obj):=(Er g h L).filter λp=>decide<|p.1≠d
structure Mod(K:Fg)(mg:Str->Option Value)(base:Heap):Prop where
 kin:K.In base
 glob:base.Ns mainGlobals mg
 blt:∃mb,base.Ns builtinsNs mb/\∀x:Str,x≠"__name__"->mb x=bootBuiltins x
 nolimit:base.NoLimit
structure Cx where
 prog:Program
 w:World
 K:Fg
 mg:Str->Option Value
 base:Heap
 A:Around
 N:List Str
 s₀:Shared
 H₀:Hp
 env:Env
 outer:List Env
 stack:List Env
 ex:List Addr
 fn:Str->Bool
 calm:Bool
 pn:List (Addr×Obj)
 xe:Value->Shared->Prop
def mK(l:List Env):List Addr:=l.filterMap (·.frame)
abbrev Cx.fs(X:Cx):List Addr:=mK X.outer
def DG(sc:Scope)(x:Str):Prop:=sc.names.lookup x=some .local\/sc.names.lookup x=some .cell\/sc.names.lookup x=some .free
def wU(sc:Scope)(x:Str):Prop:=sc.names.lookup x=some .local\/sc.names.lookup x=some .cell
def NC(env:Env)(h:Heap)(m:Str->Option Value)(x:Str)(u:Value):Prop:=
 (env.kindOf x=some .local/\m x=some u)\/((env.kindOf x=some .cell\/env.kindOf x=some .free)/\∃c,env.cells.lookup x=some c/\h.IsCell c (some u))
structure Cx.Ok(X:Cx):Prop where
 mod:Mod X.K X.mg X.base
 kind:X.env.scope.kind=.function
 glob:X.env.globals=mainGlobals
 blt:X.env.builtins=builtinsNs
 above:X.s₀⁻¹<=X.env.locals
 inj:∀x y c,X.env.cells.lookup x=some c->X.env.cells.lookup y=some c->x=y
 has:∀x,(X.env.kindOf x=some .cell\/X.env.kindOf x=some .free)->∃c,X.env.cells.lookup x=some c
 cab:∀x c,X.fn x=true->X.env.cells.lookup x=some c->X.s₀⁻¹<=c
 hd:X.calm=true->X.A.handled=none
 frames:X.A.frames=some X.stack
 stk:X.stack=X.outer\/(X.stack=X.env::X.outer/\X.env.frame=some X.env.locals)
 exf:∀b∈X.ex,b≠X.env.locals/\∀x c,X.env.cells.lookup x=some c->c≠b
 bs:∀b o,X.base.get? b=some o->X.s₀.heap.get? b=some o/\X.H₀ b=none
 bsz:X.base.objs.size<=X.s₀⁻¹
 noex:∀b o,X.base.get? b=some o->b∉X.ex
 exfs:∀b∈X.ex,b∉X.fs
 funs:X.s₀.heap.FunFrames X.base X.outer
 frf:∀b∈X.fs,X.H₀ b=none
structure Inv(X:Cx)(pins:List (Addr×Obj))(σ:List (Option V))(H:Hp)(s:Shared):Prop where
 ok:X.Ok
 os:s.os=X.s₀.os
 bare:AllBare s.gens
 base:Un X.fs X.ex X.H₀ H X.s₀.heap s.heap
 loc:∃m,s.heap.Ns X.env.locals m/\∀(i:Nat)(x:Str)(v:V),X.N[i]?=some x->σ[i]?=some (some v)->DG X.env.scope x->∃u,RelV v u/\NC X.env s.heap m x u
 cell:∀x c,X.env.cells.lookup x=some c->∃v,s.heap.IsCell c v
 free:H X.env.locals=none
 freeC:∀x c,X.env.cells.lookup x=some c->H c=none
 pin:∀p∈X.pn++pins,s.heap.get? p.1=some p.2/\H p.1=none/\p.1≠X.env.locals/\p.1∉X.fs/\∀v,p.2.data≠.cell v
 hok:HOk X.prog X.w H s.heap
 len:↑σ=X.N.length
section
variable{pins:List (Addr×Obj)}{σ:List (Option V)}{H H':Hp}{s:Shared}{h':Heap}
def Cx.Ok.nofr(ok:X.Ok){b:Addr}{o:Obj}(e:X.base.get? b=some o):b∉X.fs:=λa=>by
 have:=(ok.funs.mem a).1;rw[e]at this;cases this
theorem Inv.bs(I:Inv X pins σ H s):∀b o,X.base.get? b=some o->s.heap.get? b=some o/\H b=none:=λb o e=>
 ⟨I.base.keep b o (I.ok.bs b o e).1 (I.ok.bs b o e).2 (I.ok.nofr e)<|I.ok.noex b o e,I.base.free b o (I.ok.bs b o e).1 (I.ok.bs b o e).2<|I.ok.noex b o e⟩
def Inv.bk(I:Inv X pins σ H s):∀b o,X.base.get? b=some o->s.heap.get? b=some o:=λb o e=>(I.bs b o e).1
theorem Inv.mod(I:Inv X pins σ H s):Mod X.K X.mg X.base:=I.ok.mod
def Inv.kIn(I:Inv X pins σ H s):X.K.In s.heap:=I.ok.mod.kin.keeps I.bk
theorem Inv.lt(I:Inv X pins σ H s):X.env.locals<s⁻¹:=let ⟨_,hn,_⟩:=I.loc;hn.lt
def Inv.sz(I:Inv X pins σ H s):X.s₀⁻¹<=s⁻¹:=fI I.ok.above<|cM I.lt
def Inv.nofs(I:Inv X pins σ H s){a:Addr}(h:s⁻¹<=a):a∉X.fs:=λb=>by
 obtain⟨_,o,d,_⟩:=I.ok.funs.mem b;exact absurd (gE (bA d)<|fI I.sz h)<|iB _
def Inv.cne(I:Inv X pins σ H s):∀x c,X.env.cells.lookup x=some c->c≠X.env.locals:=λx c e z=>by
 obtain⟨v,o,a,hd⟩:=I.cell x c e;obtain⟨m,⟨o',es,ep,a1,b,_⟩,_⟩:=I.loc;rw[z,a1]at a;cases a;rw[b]at hd;cases hd
theorem Inv.funs(I:Inv X pins σ H s):s.heap.FunFrames X.base X.outer:=by
 have all:∀(l:List Env),(∀b∈mK l,b∈X.fs)->X.s₀.heap.FunFrames X.base l->s.heap.FunFrames X.base l:=by
  intro l
  induction l with
  | nil=>intro _ _;trivial
  | cons env r ih=>
   intro h hl;obtain⟨i,⟨L,o,a,n,j,hd⟩,m⟩:=hl;have d:L∈X.fs:=h L (by unfold mK;rw[FG,a];exact rV);obtain⟨p,e⟩:=I.base.slot L o j (I.ok.frf L d) d λz=>I.ok.exfs L z d;exact⟨i,⟨L,_,a,n,e,hd⟩,ih (λb f=>h b<|by unfold mK;rw[FG,a];exact iH _ f) m⟩
 exact all X.outer (λ_ f=>f) I.ok.funs
theorem Inv.stack(I:Inv X pins σ H s):s.heap.FunFrames X.base X.stack:=by
 rcases I.ok.stk with e | ⟨e,hf⟩
 .rw[e];exact I.funs
 .rw[e];obtain⟨m,a,_⟩:=I.loc;refine .cons (by rw[I.ok.kind];decide) hf a ?_ I.funs;exact Heap.get?_none_of_le<|fI I.ok.bsz I.ok.above
def Inv.stkSub(I:Inv X pins σ H s):∀b∈mK X.stack,b∈X.env.locals::X.fs:=λb a=>by
 rcases I.ok.stk with e | ⟨e,hf⟩
 .rw[e]at a;exact iH _ a
 .rw[e]at a;unfold mK at a;rw[FG,hf]at a;exact a
def Inv.stkFree(I:Inv X pins σ H s):∀b∈mK X.stack,H b=none:=λb a=>by
 rcases vh3.mp (I.stkSub b a)with e | a
 .rw[e];exact I.free
 .obtain⟨_,o,d,_⟩:=I.ok.funs.mem a;exact I.base.free b o d (I.ok.frf b a) λz=>I.ok.exfs b z a
def Inv.step{g':Array GenState}{t':Nat}{d':Drawn}{ch:List Addr}(I:Inv X pins σ H s)
  (A:∀b∈ch,(b∈X.ex\/X.s₀⁻¹<=b)/\b≠X.env.locals/\(∀x c,X.env.cells.lookup x=some c->c≠b)/\∀p∈X.pn++pins,p.1≠b)
  (keep:∀b o,b≠X.env.locals->b∉X.fs->b∉ch->s.heap.get? b=some o->H b=none->h'.get? b=some o)
  (slot:∀b o,b≠X.env.locals->b∈X.fs->b∉ch->s.heap.get? b=some o->H b=none->∃G,h'.get? b=some {o with slots:=G}) (free:∀b o,b∉ch->s.heap.get? b=some o->H b=none->H' b=none)
  (there:∀b o,b∉ch->s.heap.get? b=some o->∃o',h'.get? b=some o')
  (tups:∀b xs,H b=some (.tup xs)->H' b=some (.tup xs)) (frzs:∀b o u,H b=some (.frz o u)->H' b=some (.frz o u)) (tbls:∀b ps,H b=some (.tbl ps)->∃more,H' b=some (.tbl<|ps++more))
  (Y:∀m,s.heap.Ns X.env.locals m->h'.Ns X.env.locals m) (E:HOk X.prog X.w H' h') (O:AllBare g'):
  Inv X pins σ H' {s with heap:=h',gens:=g',drawn:=d',toks:=t'}:=by
 have J:∀b o,X.s₀.heap.get? b=some o->b≠X.env.locals:=λb o e=>bI<|gE (bA e) I.ok.above;have C:∀b o,X.s₀.heap.get? b=some o->b∉X.ex->b∉ch:=λb o e a h=>by
  rcases(A b h).1 with z | z
  .exact a z
  .exact absurd (gE (bA e) z)<|iB _
 have L:∀x c,X.env.cells.lookup x=some c->∀v,s.heap.IsCell c v->h'.IsCell c v:=by
  rintro x c e v ⟨o,j,hd⟩;have a1:c∉ch:=λz=>(A c z).2.2.1 x c e rfl
  by_cases K:c∈X.fs
  .obtain⟨G,q⟩:=slot c o (I.cne x c e) K a1 j<|I.freeC x c e;exact⟨_,q,hd⟩
  .exact⟨o,keep c o (I.cne x c e) K a1 j<|I.freeC x c e,hd⟩
 refine⟨I.ok,I.os,O,⟨λb o e n h a=>?_,λb o e n h a=>?_,λb o e n a=>?_,λb o e a=>?_,λb xs e=>tups b xs<|I.base.tups b xs e,λb o xs e=>frzs b o xs<|I.base.frzs b o xs e,λb ps e=>?_⟩,?_,λx c e=>?_,?_,λx c e=>?_,λp N=>?_,E,I.len⟩
 .exact keep b o (J b o e) h (C b o e a) (I.base.keep b o e n h a)<|I.base.free b o e n a
 .obtain⟨G,f⟩:=I.base.slot b o e n h a;obtain⟨Z,B⟩:=slot b _ (J b o e) h (C b o e a) f<|I.base.free b o e n a;exact⟨Z,B⟩
 .obtain⟨o',f⟩:=I.base.there b o e a;exact free b o' (C b o e a) f<|I.base.free b o e n a
 .obtain⟨o',f⟩:=I.base.there b o e a;exact there b o' (C b o e a) f
 .obtain⟨T,f⟩:=I.base.tbls b ps e;obtain⟨P,B⟩:=tbls b _ f;exact⟨T++P,by rw[B,Array.append_assoc]⟩
 .obtain⟨m,W,hl⟩:=I.loc;refine⟨m,Y m W,λi x v f B e3=>?_⟩;obtain⟨u,r,l⟩:=hl i x v f B e3;exists u,r;rcases l with l | ⟨k,c,e,z⟩
  .exact .inl l
  .exact .inr ⟨k,c,e,L x c e _ z⟩
 .obtain⟨v,z⟩:=I.cell x c e;exact⟨v,L x c e v z⟩
 .obtain⟨m,⟨o,_,_,j,_⟩,_⟩:=I.loc;exact free _ o (λz=>(A _ z).2.1 rfl) j I.free
 .obtain⟨v,o,j,hd⟩:=I.cell x c e;exact free c o (λz=>(A c z).2.2.1 x c e rfl) j<|I.freeC x c e
 .obtain⟨e,n,ne,M,d⟩:=I.pin p N;have a1:p.1∉ch:=λz=>(A p.1 z).2.2.2 p N rfl;exact⟨keep p.1 p.2 ne M a1 e n,free p.1 p.2 a1 e n,ne,M,d⟩
def Inv.un{t':Nat}(I:Inv X pins σ H s)(u:Un X.fs [] H H' s.heap h')(d:HOk X.prog X.w H' h'):Inv X pins σ H' {s with heap:=h',toks:=t'}:=by
 obtain⟨m,⟨o,es,ep,f,r⟩,_⟩:=id I.loc;obtain⟨q,i⟩:=u.any f I.free (by simp);exact I.step (g':=s.gens) (d':=s.drawn) (ch:=[]) (λ_ z=>nomatch z) (λb o _ a _ e n=>u.keep b o e n a<|by simp) (λb o _ a _ e n=>u.slot b o e n a<|by simp) (λb o _ e n=>u.free b o e n<|by simp) (λb o _ e=>u.there b o e<|by simp) u.tups u.frzs u.tbls (λp l=>by
  obtain⟨o',a1,j,h,r'⟩:=l;rw[f]at h;cases h;exact⟨_,a1,j,i,r'⟩) d I.bare
def Inv.call{g':Array GenState}{t':Nat}{d':Drawn}{ch:List Addr}(I:Inv X pins σ H s)(u:Un (mK X.stack) ch H H' s.heap h')(f:HOk X.prog X.w H' h')(j:AllBare g')
  (a1:∀b∈ch,(b∈X.ex\/X.s₀⁻¹<=b)/\b≠X.env.locals/\(∀x c,X.env.cells.lookup x=some c->c≠b)/\∀p∈X.pn++pins,p.1≠b):
  Inv X pins σ H' {s with heap:=h',gens:=g',drawn:=d',toks:=t'}:=by
 obtain⟨m,⟨o,es,ep,h,r⟩,_⟩:=id I.loc;obtain⟨C,d⟩:=u.any h I.free λz=>(a1 _ z).2.1 rfl;exact I.step (ch:=ch) a1 (λb o d l a e n=>u.keep b o e n (λz=>(vh3.mp<|I.stkSub b z).elim d l) a) (λb o _ _ a e n=>u.any e n a) (λb o a e n=>u.free b o e n a) (λb o a e=>u.there b o e a) u.tups u.frzs u.tbls (λB v=>by
  obtain⟨o',q,A,i,r'⟩:=v;rw[h]at i;cases i;exact⟨_,q,A,d,r'⟩) f j
def Inv.turned{t':Nat}{it:Addr}(I:Inv X pins σ H s)(k:∀b o,b≠it->s.heap.get? b=some o->h'.get? b=some o)(h:H it=none)(d:it≠X.env.locals)
  (h1:it∈X.ex\/X.s₀⁻¹<=it) (h2:∀x c,X.env.cells.lookup x=some c->c≠it) (w:∀p∈X.pn++pins,p.1≠it):Inv X pins σ H {s with heap:=h',toks:=t'}:=by
 have f:∀b u,H b=some u->b≠it:=λb u e z=>by rw[z,h]at e;cases e
 refine I.step (g':=s.gens) (d':=s.drawn) (ch:=[it]) (λb i=>?_) (λb o _ _ a e _=>k b o (λz=>a<|by simp[z]) e) (λb o _ _ a e _=>⟨o.slots,k b o (λz=>a<|by simp[z]) e⟩) (λ_ _ _ _ n=>n)
  (λb o a e=>⟨o,k b o (λz=>a<|by simp[z]) e⟩) (λ_ _ e=>e) (λ_ _ _ e=>e) (λb ps e=>⟨#[],by rw[e];simp⟩) (λm l=>?_) (λb u e=>?_) I.bare
 .have e:b=it:=by simpa using i
  subst e;exact⟨h1,d,h2,w⟩
 .obtain⟨o,es,ep,j,r⟩:=l;exact⟨o,es,ep,k _ o (cW d) j,r⟩
 .refine(I.hok b u e).stay (λc v a q=>k c v ?_ q) (λ_ q=>q) λ_ _ q=>q;rcases a with z | z
  .rw[z];exact f b u e
  .exact f c _ z
def Inv.tok(I:Inv X pins σ H s)(t:Nat):Inv X pins σ H {s with toks:=t}:=I.un (h':=s.heap) (t':=t) Un.refl I.hok
theorem Inv.kept{t':Nat}(I:Inv X pins σ H s)(k:∀b u,s.heap.get? b=some u->h'.get? b=some u):Inv X pins σ H {s with heap:=h',toks:=t'}:=I.un (Un.kept k)<|I.hok.kept k
theorem Inv.laid{a:Addr}{o:HO}{t':Nat}(I:Inv X pins σ H s)(k:∀b u,s.heap.get? b=some u->h'.get? b=some u)(d:s⁻¹<=a)(new:ObjOk X.prog X.w (aA H a o) h' a o):
  Inv X pins σ (aA H a o) {s with heap:=h',toks:=t'}:=I.un (Un.laid k d<|I.hok.fresh d)<|I.hok.laid k d new
theorem Inv.write{x e:Addr}{o:HO}{t':Nat}(I:Inv X pins σ H s)(d:zN (H x))(f:e=x\/H e=some (.own x))(k:∀b u,b≠e->s.heap.get? b=some u->h'.get? b=some u)(a:∃u,h'.get? e=some u)
  (new:ObjOk X.prog X.w (aA H x o) h' x o):Inv X pins σ (aA H x o) {s with heap:=h',toks:=t'}:=I.un (Un.write d f k a)<|I.hok.write d f k a new
def Inv.pins_of{a:List (Addr×Obj)}(I:Inv X pins σ H s)(h:∀p∈a,s.heap.get? p.1=some p.2/\H p.1=none/\p.1≠X.env.locals/\p.1∉X.fs/\∀v,p.2.data≠.cell v):Inv X a σ H s:=
 ⟨I.ok,I.os,I.bare,I.base,I.loc,I.cell,I.free,I.freeC,λp b=>(vj5.mp b).elim (λz=>I.pin p<|mQ _ z)<|h p,I.hok,I.len⟩
def QT{N:List Str}(e:N.Nodup){i j:Nat}{x:Str}(a:N[i]?=some x)(b:N[j]?=some x):i=j:=by
 obtain⟨h1,d⟩:=vg4.mp a;obtain⟨h2,f⟩:=vg4.mp b;exact(yZ e).mp<|d.trans f.symm
def MQ{M:Model}{A:Around}{E:Vp}{i:Nat}{x:Str}{v:V}{u:Value}{Q:Unit->Shared->Prop}(I:Inv X pins σ H s)(hN:X.N.Nodup)(hi:X.N[i]?=some x)(C:wU X.env.scope x)(r:RelV v u)
  (h:∀s',Inv X pins (σ.set i<|some v) H s'->(∃a,Heap.SameBut a s.heap s'.heap/\(a=X.env.locals\/X.env.cells.lookup x=some a))->Q () s') (hf:X.fn x=true\/X.env.scope.names.lookup x=some .local:=by first | exact .inl rfl | exact .inr rfl | assumption):wpAny M A (storeName X.env x u) Q E s:=by
 obtain⟨m,W,hl⟩:=id I.loc;have a2:(X.env.scope.kind == .class || (X.env.scope.kind == .module && X.env.locals != X.env.globals))=false:=by rw[I.ok.kind];rfl
 have a7:i<↑σ:=by rw[I.len];exact(vg4.mp hi).1
 have cne:=I.cne;have a0:∀{a:Addr}{h':Heap},(∃o,s.heap.get? a=some o/\H a=none)->Heap.SameBut a s.heap h'->HOk X.prog X.w H h':=λ{a h'} ha f b ob e=>by
  obtain⟨_,_,a1⟩:=ha;refine(I.hok b ob e).stay (λc L B q=>(f.2 c ?_).trans q) (λ_ q=>q) λ_ _ q=>q;rintro rfl;rcases B with rfl | B
  .rw[a1]at e;cases e
  .rw[a1]at B;cases B
 rcases C with hk | hk
 .refine wpAny_storeName_local hk W (λh' aa f=>?_) a2;obtain⟨oL,_,_,a9,_⟩:=id W;refine h _ ⟨I.ok,I.os,I.bare,⟨λb o e n J C=>?_,λb o e n J C=>?_,I.base.free,λb o e C=>?_,I.base.tups,I.base.frzs,I.base.tbls⟩,⟨_,aa,λj y T l G Z=>?_⟩,λy c e=>?_,I.free,I.freeC,λp Y=>?_,a0 ⟨oL,a9,I.free⟩ f,by simpa using I.len⟩ ⟨_,f,.inl rfl⟩
  .exact(f.2 b<|bI<|gE (bA e) I.ok.above).trans (I.base.keep b o e n J C)
  .obtain⟨sl,l⟩:=I.base.slot b o e n J C;exact⟨sl,(f.2 b<|bI<|gE (bA e) I.ok.above).trans l⟩
  .obtain⟨o',l⟩:=I.base.there b o e C;exact⟨o',(f.2 b<|bI<|gE (bA e) I.ok.above).trans l⟩
  .by_cases K:j=i
   .subst K;rw[hi]at l;cases l;rw[List.getElem?_set_self a7]at G;cases G;exact⟨u,r,.inl ⟨hk,by simp⟩⟩
   .rw[List.getElem?_set_ne<|cW K]at G;obtain⟨u',r',q⟩:=hl j y T l G Z;exists u',r';rcases q with ⟨k,e⟩ | ⟨k,c,e,z⟩
    .refine .inl ⟨k,?_⟩;have:y≠x:=λe=>K<|QT hN l<|e▸hi;simp[this,e]
    .exact .inr ⟨k,c,e,z.sameBut f<|cne y c e⟩
  .obtain⟨L,z⟩:=I.cell y c e;exact⟨L,z.sameBut f<|cne y c e⟩
  .obtain⟨e,n,ne,P,d⟩:=I.pin p Y;exact⟨(f.2 p.1 ne).trans e,n,ne,P,d⟩
 .have O:X.fn x=true:=by
   rcases hf with z | z
   .exact z
   .rw[z]at hk;cases hk
  obtain⟨c,B⟩:=I.ok.has x<|.inl hk;obtain⟨L,z⟩:=I.cell x c B;refine wpAny_storeName_cell I.ok.kind hk B z λh' a6 f=>?_;obtain⟨oc,a8,a3⟩:=id z;refine h {s with heap:=h'} ⟨I.ok,I.os,I.bare,⟨λb o e n J C=>?_,λb o e n J C=>?_,I.base.free,λb o e C=>?_,I.base.tups,I.base.frzs,I.base.tbls⟩,⟨m,W.sameBut f<|cW<|cne x c B,λj y T l G Z=>?_⟩,λy c' e=>?_,I.free,I.freeC,λp Y=>?_,a0 ⟨oc,a8,I.freeC x c B⟩ f,by simpa using I.len⟩ ⟨c,f,.inr B⟩
  .exact(f.2 b<|bI<|gE (bA e)<|I.ok.cab x c O B).trans (I.base.keep b o e n J C)
  .obtain⟨sl,l⟩:=I.base.slot b o e n J C;exact⟨sl,(f.2 b<|bI<|gE (bA e)<|I.ok.cab x c O B).trans l⟩
  .obtain⟨o',l⟩:=I.base.there b o e C;exact⟨o',(f.2 b<|bI<|gE (bA e)<|I.ok.cab x c O B).trans l⟩
  .by_cases K:j=i
   .subst K;rw[hi]at l;cases l;rw[List.getElem?_set_self a7]at G;cases G;exact⟨u,r,.inr ⟨.inl hk,c,B,a6⟩⟩
   .rw[List.getElem?_set_ne<|cW K]at G;obtain⟨u',r',q⟩:=hl j y T l G Z;exists u',r';rcases q with q | ⟨k,c',e,z'⟩
    .exact .inl q
    .refine .inr ⟨k,c',e,z'.sameBut f ?_⟩;rintro rfl;exact K<|QT hN l<|I.ok.inj _ _ _ e B▸hi
  .by_cases a5:c'=c
   .subst a5;exact⟨_,a6⟩
   .obtain⟨w2,z2⟩:=I.cell y c' e;exact⟨w2,z2.sameBut f a5⟩
  .obtain⟨e,n,ne,P,d⟩:=I.pin p Y;refine⟨(f.2 p.1 ?_).trans e,n,ne,P,d⟩;intro q;rw[q,a8]at e;have q':oc=p.2:=jE e;exact d L (by rw[<-q'];exact a3)
def EN{M:Model}{A:Around}{E:Vp}{i:Nat}{x:Str}{v:V}{u:Value}{Q:Unit->Shared->Prop}(I:Inv X pins σ H s)(e:X.N.Nodup)(hi:X.N[i]?=some x)(b:wU X.env.scope x)(r:RelV v u)
  (h:∀s',Inv X pins (σ.set i<|some v) H s'->Q () s') (a:X.fn x=true\/X.env.scope.names.lookup x=some .local:=by first | exact .inl rfl | exact .inr rfl | assumption):wpAny M A (storeName X.env x u) Q E s:=
 MQ I e hi b r (λs' d _=>h s' d) a
end
abbrev XK:=Value->Option Addr->Hp->Prop
abbrev St:=List<|Option V
abbrev VK:=V->Hp->Prop
abbrev TE:=St->Hp->VK->Prop
abbrev TT:=St->Hp->(Bool->Hp->Prop)->Prop
abbrev TA:=St->Hp->(List V->Hp->Prop)->Prop
structure dU where
 nx:St->Hp->Prop
 rt:VK
 bk:St->Hp->Prop:=λ_ _=>False
 ct:St->Hp->Prop:=λ_ _=>False
abbrev TS:=dU->St->Hp->Prop
def EP(X:Cx)(pins:List (Addr×Obj))(σ:St)(Q:VK)(u:Value)(s':Shared):Prop:=∃v H',Inv X pins σ H' s'/\RelV v u/\Q v H'
def TP(X:Cx)(pins:List (Addr×Obj))(σ:St)(Q:Bool->Hp->Prop)(b:Bool)(s':Shared):Prop:=∃H',Inv X pins σ H' s'/\Q b H'
def AP(X:Cx)(pins:List (Addr×Obj))(σ:St)(Q:List V->Hp->Prop)(us:List Value)(s':Shared):Prop:=∃vs H',Inv X pins σ H' s'/\Vals vs us/\Q vs H'
def SP(X:Cx)(pins:List (Addr×Obj))(D:dU)(f:Flow)(s':Shared):Prop:=
 match f with
 | .next=>∃σ' H',Inv X pins σ' H' s'/\D.nx σ' H'
 | .brk=>∃σ' H',Inv X pins σ' H' s'/\D.bk σ' H'
 | .cont=>∃σ' H',Inv X pins σ' H' s'/\D.ct σ' H'
 | .ret u=>∃v σ' H',Inv X pins σ' H' s'/\RelV v u/\D.rt v H'
def PE(X:Cx)(e:Expr)(t:TE):Prop:=
 ∀(pins:List (Addr×Obj))(s:Shared)(σ:St)(H:Hp)(Q:VK),Inv X pins σ H s->t σ H Q->wpAny (model X.prog X.w) X.A (eval e X.env) (EP X pins σ Q) X.xe s
def PT(X:Cx)(e:Expr)(t:TT):Prop:=
 ∀(pins:List (Addr×Obj))(s:Shared)(σ:St)(H:Hp)(Q:Bool->Hp->Prop),Inv X pins σ H s->t σ H Q->wpAny (model X.prog X.w) X.A (isTrue e X.env<|eval e X.env) (TP X pins σ Q) X.xe s
def PW(X:Cx)(e:Expr)(t:TT):Prop:=
 ∀(whole:Sem Value)(pins:List (Addr×Obj))(s:Shared)(σ:St)(H:Hp)(Q:Bool->Hp->Prop),Inv X pins σ H s->t σ H Q->wpAny (model X.prog X.w) X.A (isTrue e X.env whole) (TP X pins σ Q) X.xe s
def PW.pt{X:Cx}{e:Expr}{t:TT}(h:PW X e t):PT X e t:=h _
def PA(X:Cx)(es:List Expr)(t:TA):Prop:=
 ∀(pos:Pos)(pins:List (Addr×Obj))(s:Shared)(σ:St)(H:Hp)(Q:List V->Hp->Prop),Inv X pins σ H s->t σ H Q->wpAny (model X.prog X.w) X.A (spliced<|backTo pos<|starEach es X.env) (AP X pins σ Q) X.xe s
def PS(X:Cx)(st:Stmt)(t:TS):Prop:=
 ∀(pins:List (Addr×Obj))(s:Shared)(σ:St)(H:Hp)(D:dU),Inv X pins σ H s->t D σ H->wpAny (model X.prog X.w) X.A (exec st X.env) (SP X pins D) X.xe s
def PSs(X:Cx)(st:List Stmt)(t:TS):Prop:=
 ∀(pins:List (Addr×Obj))(s:Shared)(σ:St)(H:Hp)(D:dU),Inv X pins σ H s->t D σ H->wpAny (model X.prog X.w) X.A (execs st X.env) (SP X pins D) X.xe s
def aS{α:Type}{t:Sem α}{Q b:α->Shared->Prop}{M:Model}{A:Around}{E:Vp}{s:Shared}(h:wpAny M A t Q E s)(d:∀a s,Q a s->b a s):wpAny M A t b E s:=fM h d λ_ _ x=>x
section
inductive xQ(i:Nat)(σ:List (Option V))(H:Hp)(Q:VK):Prop
 | mk(v:V)(h:σ[i]?=some (some v))(q:Q v H):xQ i σ H Q
def aJ(i:Nat):TE:=λσ H Q=>xQ i σ H Q
def tC(v:V):TE:=λ_ H Q=>Q v H
def IB{i:Nat}{x:Str}{pos:Pos}(a:X.N[i]?=some x)(f:DG X.env.scope x)(hd:(x == ("__debug__":Str))=false:=by decide)(b:(x == ("__classdict__":Str))=false:=by decide):PE X (.Name x pos) (aJ i):=by
 intro d s σ H Q I h;obtain⟨v,e,h⟩:=h;obtain⟨m,j,hl⟩:=I.loc;obtain⟨u,r,l⟩:=hl i x v a e f;have a1:EP X d σ Q u s:=⟨v,H,I,r,h⟩;rcases l with ⟨hk,hm⟩ | ⟨hk,c,hc,hcell⟩
 .exact wpAny_Name (wpAny_loadName_local I.ok.kind hk j hm a1) hd
 .rcases hk with hk | hk
  .exact wpAny_Name (wpAny_loadName_cell I.ok.kind hk hc hcell a1) hd
  .exact wpAny_Name (wpAny_loadName_free I.ok.kind hk hc hcell a1 b) hd
def aQ{i j pos}:PE X (.Constant (.int i) j pos) (tC<|.int i):=λ_ _ _ H _ I h=>wpAny_Constant_int ⟨.int i,H,I.tok _,⟨_,rfl⟩,h⟩
def kZ{b j pos}:PE X (.Constant (.bool b) j pos) (tC<|.bl b):=λ_ _ _ H _ I h=>Constant_bool ⟨.bl b,H,I,rfl,h⟩
def xG{j pos}:PE X (.Constant .none j pos) (tC .non):=λ_ _ _ H _ I h=>Constant_none ⟨.non,H,I,rfl,h⟩
def cD{x j pos}:PE X (.Constant (.str x) j pos) (tC<|.str x):=λ_ _ _ H _ I h=>Calls.Constant_str ⟨.str x,H,I.tok _,⟨_,rfl⟩,h⟩
def Gl(X:Cx)(x:Str):Prop:=X.env.kindOf x=some .globalImplicit
def PL{E:Vp}{b:List (Addr×Obj)}{s:Shared}{σ:St}{H:Hp}{x:Str}{u:Value}{pos:Pos}{Q:Vp}(I:Inv X b σ H s)(d:Gl X x)(a:X.mg x=some u)(h:Q u s)
  (hd:(x == ("__debug__":Str))=false:=by decide):wpAny (model X.prog X.w) X.A (eval (.Name x pos) X.env) Q E s:=
 Calls.Name_function_global I.ok.kind d (Calls.loadGlobal_global (by rw[I.ok.glob];exact I.mod.glob.keeps I.bk) a h) hd
def lS{E:Vp}{b:List (Addr×Obj)}{s:Shared}{σ:St}{H:Hp}{x:Str}{u:Value}{pos:Pos}{Q:Vp}(I:Inv X b σ H s)(d:Gl X x)(a:X.mg x=none)(e:bootBuiltins x=some u)(h:Q u s)
  (f:x≠"__name__":=by decide) (hd:(x == ("__debug__":Str))=false:=by decide):wpAny (model X.prog X.w) X.A (eval (.Name x pos) X.env) Q E s:=by
 obtain⟨i,h1,h2⟩:=I.mod.blt;exact Calls.Name_function_global I.ok.kind d (Calls.loadGlobal_builtin (by rw[I.ok.glob];exact I.mod.glob.keeps I.bk) a (by rw[I.ok.blt];exact h1.keeps I.bk) ((h2 x f).trans e) h) hd
def EW{x:Str}{v:V}{u:Value}{pos:Pos}(b:Gl X x)(a:X.mg x=some u)(r:RelV v u)(hd:(x == ("__debug__":Str))=false:=by decide):PE X (.Name x pos) (tC v):=
 λ_ _ _ H _ I h=>PL I b a ⟨v,H,I,r,h⟩ hd
variable{a b:Expr}{ta tb:TE}{pos:Pos}
def PC(X:Cx)(op:CmpOp)(a b:Expr)(t:TE):Prop:=
 ∀(pins:List (Addr×Obj))(s:Shared)(σ:St)(H:Hp)(Q:VK),Inv X pins σ H s->t σ H Q->
  wpAny (model X.prog X.w) X.A (eval a X.env) (λv s₁=>wpAny (model X.prog X.w) X.A (eval b X.env) (λu s₂=>wpAny (model X.prog X.w) X.A (compareOp op v u) (EP X pins σ Q) X.xe s₂) X.xe s₁) X.xe s
def QM(b:Expr){a:CmpOp}(h:a≠.In)(h2:a≠.NotIn):behindInMarks a b=false:=by
 have d:(a == CmpOp.In)=false:=by cases a <;> first | rfl | exact absurd rfl h
 have e:(a == CmpOp.NotIn)=false:=by cases a <;> first | rfl | exact absurd rfl h2
 cases b <;> simp[behindInMarks,d,e]
def uD(ta:TE):TE:=λσ H Q=>ta σ H λx H1=>Q (.bl<|decide<|x=.non) H1
def DH(ta:TE):TE:=λσ H Q=>ta σ H λx H1=>Q (.bl<|!decide (x=.non)) H1
def RelV.none_iff{x:V}{v:Value}(r:RelV x v):(v == Value.none)=decide (x=.non):=by
 cases x with
 | non=>cases r;rfl
 | bl _=>cases r;rfl
 | int _=>obtain⟨t,rfl⟩:=r;rfl
 | str _=>obtain⟨t,rfl⟩:=r;rfl
 | byt _=>obtain⟨t,rfl⟩:=r;rfl
 | flt _=>obtain⟨t,rfl⟩:=r;rfl
 | ref _=>cases r;rfl
 | ty _=>cases r;rfl
def LQ{j pos'}(ha:PE X a ta):PC X .Is a (.Constant .none j pos') (uD ta):=by
 intro d s σ H Q I h;refine aS (ha d s σ H _ I h) ?_;rintro v i ⟨x,H1,f,b,e⟩;exact Constant_none<|is_none_gen ⟨.bl _,H1,f,by rw[b.none_iff];rfl,e⟩
def CM{j pos'}(ha:PE X a ta):PC X .IsNot a (.Constant .none j pos') (DH ta):=by
 intro d s σ H Q I h;refine aS (ha d s σ H _ I h) ?_;rintro v i ⟨x,H1,f,b,e⟩;exact Constant_none<|isnot_none_gen ⟨.bl _,H1,f,by rw[b.none_iff];rfl,e⟩
inductive vH(x:V)(H:Hp)(Q:Bool->Hp->Prop):Prop
 | mk(c:Bool)(h:x=.bl c)(q:Q c H):vH x H Q
def tB(t:TE):TT:=λσ H Q=>t σ H λx H1=>vH x H1 Q
def sQ{d:CmpOp}{t:TE}(h:PC X d a b t)(h1:behindInMarks d b=false:=by first | exact QM _ (by decide) (by decide) | rfl):PE X (.Compare a [d] [b] pos) t:=λe s σ H Q I f=>wpAny_Compare1 (h e s σ H Q I f) h1
def pE{e:CmpOp}{t:TE}(h:PC X e a b t)(h1:behindInMarks e b=false:=by first | exact QM _ (by decide) (by decide) | rfl):PT X (.Compare a [e] [b] pos) (tB t):=by
 intro l s σ H Q I f;refine wpAny_isTrue_Compare1 (aS (h l s σ H _ I f) λv n h1=>aS h1 λu s2 h2=>aS h2 λc s3 ⟨x,H1,m,i,j⟩=>?_) h1;obtain⟨d,rfl,q⟩:=j;cases i;exact zZ ⟨H1,m,q⟩
def vQ{e:Expr}{t:TE}(h:PE X e t)(l:∀whole,isTrue e X.env whole=(do let v <-whole;standAt e.pos;holding [v]<|truthy v):=by intro _;rfl):PT X e (tB t):=by
 intro i s σ H Q I a;refine isTrue_plain (aS (h i s σ H _ I a) λv m ⟨x,H1,j,b,f⟩=>?_)<|l _;obtain⟨d,rfl,q⟩:=f;cases b;exact zZ ⟨H1,j,q⟩
variable{tA tB':TT}{rest:List Expr}
def iU(t u:TT):TT:=λσ H Q=>t σ H λc H1=>if c=true then u σ H1 Q else Q false H1
def AA(t u:TT):TT:=λσ H Q=>t σ H λc H1=>if c=true then Q true H1 else u σ H1 Q
def KP(t:TT):TT:=λσ H Q=>t σ H λc H1=>Q (!c) H1
def lW(ha:PT X a tA):PW X (.BoolOp .And [a] pos) tA:=by
 intro f b s σ H Q I h;refine isTrue_and<|aS (ha b s σ H Q I h) λc d e=>?_;cases c with
 | true=>exact isTrue_and_nil e
 | false=>exact e
def BW(ha:PT X a tA):PW X (.BoolOp .Or [a] pos) tA:=by
 intro f b s σ H Q I h;refine isTrue_or<|aS (ha b s σ H Q I h) λc d e=>?_;cases c with
 | false=>exact isTrue_or_nil e
 | true=>exact e
def kL(ha:PT X a tA)(i:PW X (.BoolOp .And (b::rest) pos) tB'):PW X (.BoolOp .And (a::b::rest) pos) (iU tA tB'):=by
 intro l d s σ H Q I h;refine isTrue_and<|aS (ha d s σ H _ I h) ?_;rintro c j ⟨H1,f,e⟩;cases c with
 | true=>exact i l d j σ H1 Q f e
 | false=>exact⟨H1,f,e⟩
def CF(ha:PT X a tA)(i:PW X (.BoolOp .Or (b::rest) pos) tB'):PW X (.BoolOp .Or (a::b::rest) pos) (AA tA tB'):=by
 intro l d s σ H Q I h;refine isTrue_or<|aS (ha d s σ H _ I h) ?_;rintro c j ⟨H1,f,e⟩;cases c with
 | true=>exact⟨H1,f,e⟩
 | false=>exact i l d j σ H1 Q f e
def EI(ha:PT X a tA):PT X (.UnaryOp .Not a pos) (KP tA):=by
 intro b s σ H Q I h;exact isTrue_not<|ha b s σ H (λc H1=>Q (!c) H1) I h
def xT(ta tb:TE):TE:=λσ H Q=>ta σ H λx H1=>∃c,x=.bl c/\if c=true then tb σ H1 Q else Q (.bl false) H1
def rE{op}{t:TE}(h:PE X a t):PE X (.BoolOp op [a] pos) t:=λb s σ H Q I d=>BoolOp_one<|h b s σ H Q I d
def qV(ha:PE X a ta)(i:PE X (.BoolOp .And (b::rest) pos) tb):PE X (.BoolOp .And (a::b::rest) pos) (xT ta tb):=by
 intro e s σ H Q I h;refine BoolOp_and<|aS (ha e s σ H _ I h) ?_;rintro v l ⟨x,H1,f,j,d⟩;obtain⟨c,rfl,d⟩:=d;cases j;refine zZ ?_;cases c with
 | true=>exact i e l σ H1 Q f d
 | false=>exact⟨.bl false,H1,f,rfl,d⟩
def QX(t:TT)(ta tb:TE):TE:=λσ H Q=>t σ H λc H1=>if c=true then ta σ H1 Q else tb σ H1 Q
def RP{c:Expr}(l:PT X c tA)(ha:PE X a ta)(m:PE X b tb):PE X (.IfExp c a b pos) (QX tA ta tb):=by
 intro e s σ H Q I h;refine wpAny_IfExp<|aS (l e s σ H _ I h) ?_;rintro d j ⟨H1,i,f⟩;cases d with
 | true=>exact ha e j σ H1 Q i f
 | false=>exact m e j σ H1 Q i f
end
def SqL(K:Fg)(H:Hp)(a:Addr)(xs:List V):Prop:=
 Rd H a (.lst xs)\/
  ∃(o:Obj)(its:Array Value)(n:Nat),K.lookup a=some o/\o.cls=.type "list"/\o.dict=none/\o.data=.seq its n/\its.size<=sizeLine/\Vals xs its.toList
def SqT(K:Fg)(H:Hp)(a:Addr)(xs:List V):Prop:=
 Rd H a (.tup xs)\/
  ∃(o:Obj)(its:Array Value)(n:Nat),K.lookup a=some o/\o.cls=.type "tuple"/\o.data=.seq its n/\its.size<=sizeLine/\Vals xs its.toList
def IA:Value->Option V
 | .none=>some .non
 | .bool b=>some<|.bl b
 | .int i _=>some<|.int i
 | .str x _=>some<|.str x
 | .bytes b _=>some<|.byt b
 | .float b _=>some<|.flt b
 | .ref a=>some<|.ref a
 | .type n=>some<|.ty n
 | _=>none
def RelV.abs{x:V}{u:Value}(r:RelV x u):IA u=some x:=by
 cases x with
 | non=>cases r;rfl
 | bl _=>cases r;rfl
 | int _=>obtain⟨t,rfl⟩:=r;rfl
 | str _=>obtain⟨t,rfl⟩:=r;rfl
 | byt _=>obtain⟨t,rfl⟩:=r;rfl
 | flt _=>obtain⟨t,rfl⟩:=r;rfl
 | ref _=>cases r;rfl
 | ty _=>cases r;rfl
def RelV.inj{x y:V}{u:Value}(r:RelV x u)(q:RelV y u):x=y:=jE<|r.abs.symm.trans q.abs
theorem Vals.inj:∀{xs ys:List V}{a:List Value},Vals xs a->Vals ys a->xs=ys
 | _,_,_,.nil,.nil=>rfl
 | _,_,_,.cons r t,.cons r' t'=>by rw[r.inj r',Vals.inj t t']
section
variable{pins:List (Addr×Obj)}{σ:St}{H:Hp}{s:Shared}{a:Addr}{xs ys:List V}
def SqL.of{K:Fg}(h:H a=some (.lst xs)):SqL K H a xs:=.inl<|.inl h
def SqT.of{K:Fg}(h:H a=some (.tup xs)):SqT K H a xs:=.inl<|.inl h
def Inv.list(I:Inv X pins σ H s)(h:SqL X.K H a xs):∃its:List Value,Vals xs its/\PlainL s.heap a its.toArray/\↑xs<=sizeLine:=by
 rcases h with h | ⟨o,its,n,hk,hc,hd,hs,hz,r⟩
 .obtain⟨z,its,n,r,e⟩:=h.ok I.hok;exact⟨its,r,⟨_,n,e,rfl,rfl,rfl⟩,z⟩
 .exists its.toList,r,⟨o,n,I.kIn a o hk,hc,hd,by simpa using hs⟩;have e:=↑r;simp only[cF]at e;lia
def Inv.tuple(I:Inv X pins σ H s)(h:SqT X.K H a xs):∃its:List Value,Vals xs its/\IsTup s.heap a its.toArray/\↑xs<=sizeLine:=by
 rcases h with h | ⟨o,its,n,hk,hc,hs,hz,r⟩
 .obtain⟨z,its,r,p⟩:=h.ok I.hok;exact⟨its,r,p,z.1⟩
 .exists its.toList,r,⟨o,I.kIn a o hk,hc,n,by simpa using hs⟩;have e:=↑r;simp only[cF]at e;lia
def Inv.list_inj(I:Inv X pins σ H s)(h:SqL X.K H a xs)(h':SqL X.K H a ys):xs=ys:=by
 obtain⟨its,r,⟨o,n,e,_,_,d⟩,_⟩:=I.list h;obtain⟨its',r',⟨o',f,b,_,_,d'⟩,_⟩:=I.list h';rw[e]at b;cases b;rw[d]at d';injection d' with d1 _;have:its=its':=by simpa using cR Array.toList d1
 subst this;exact r.inj r'
def Inv.tuple_inj(I:Inv X pins σ H s)(h:SqT X.K H a xs)(h':SqT X.K H a ys):xs=ys:=by
 obtain⟨its,r,⟨o,e,_,n,d⟩,_⟩:=I.tuple h;obtain⟨its',r',⟨o',b,_,f,d'⟩,_⟩:=I.tuple h';rw[e]at b;cases b;rw[d]at d';injection d' with d1 _;have:its=its':=by simpa using cR Array.toList d1
 subst this;exact r.inj r'
end
abbrev Cx.wish(X:Cx)(E:Vp):Cx:={X with xe:=E}
abbrev Cx.nox(X:Cx):Cx:=X.wish λ_ _=>False
theorem Cx.Ok.wish{X:Cx}(ok:X.Ok)(E:Vp):(X.wish E).Ok:=
 ⟨ok.mod,ok.kind,ok.glob,ok.blt,ok.above,ok.inj,ok.has,ok.cab,ok.hd,ok.frames,ok.stk,ok.exf,ok.bs,ok.bsz,ok.noex,ok.exfs,ok.funs,ok.frf⟩
def Cx.Ok.unwish{X:Cx}{E:Vp}(ok:(X.wish E).Ok):X.Ok:=
 ⟨ok.mod,ok.kind,ok.glob,ok.blt,ok.above,ok.inj,ok.has,ok.cab,ok.hd,ok.frames,ok.stk,ok.exf,ok.bs,ok.bsz,ok.noex,ok.exfs,ok.funs,ok.frf⟩
section
variable{pins:List (Addr×Obj)}{σ:St}{H:Hp}{s:Shared}{E:Vp}
theorem Inv.wish(I:Inv X pins σ H s)(E:Vp):Inv (X.wish E) pins σ H s:=⟨I.ok.wish E,I.os,I.bare,I.base,I.loc,I.cell,I.free,I.freeC,I.pin,I.hok,I.len⟩
theorem Inv.unwish(I:Inv (X.wish E) pins σ H s):Inv X pins σ H s:=⟨I.ok.unwish,I.os,I.bare,I.base,I.loc,I.cell,I.free,I.freeC,I.pin,I.hok,I.len⟩
theorem SP.unwish{D:dU}{f:Flow}{s':Shared}(h:SP (X.wish E) pins D f s'):SP X pins D f s':=by
 cases f with
 | next=>obtain⟨σ',H',I,q⟩:=h;exact⟨σ',H',I.unwish,q⟩
 | brk=>obtain⟨σ',H',I,q⟩:=h;exact⟨σ',H',I.unwish,q⟩
 | cont=>obtain⟨σ',H',I,q⟩:=h;exact⟨σ',H',I.unwish,q⟩
 | ret u=>obtain⟨v,σ',H',I,r,q⟩:=h;exact⟨v,σ',H',I.unwish,r,q⟩
theorem PSs.nox{st:List Stmt}{t:TS}(h:PSs X.nox st t):PSs X st t:=λa s σ H D I b=>
 fM (h a s σ H D (I.wish _) b) (λ_ _ q=>q.unwish) λ_ _ z=>False.elim z
end
section
variable{st:Stmt}{rest:List Stmt}{t u:TS}{e:Expr}{te:TE}{pos:Pos}
def sP:TS:=λD σ H=>D.nx σ H
def gT(t u:TS):TS:=λD σ H=>t {D with nx:=u D} σ H
def dW:PSs X [] sP:=λ_ _ σ H _ I h=>wpAny_execs_nil ⟨σ,H,I,h⟩
def aP(h1:PS X st t)(h2:PSs X rest u):PSs X (st::rest) (gT t u):=by
 intro a s σ H D I h;refine wpAny_execs_cons<|aS (h1 a s σ H {D with nx:=u D} I h) λf d q=>?_;cases f with
 | next=>
  obtain⟨σ',H',b,q⟩:=q;exact h2 a d σ' H' D b q
 | ret v=>exact q
 | brk=>exact q
 | cont=>exact q
def bE(h1:PS X st t):PSs X [st] t:=by
 intro a s σ H D I h;refine wpAny_execs_cons<|aS (h1 a s σ H D I h) λf b q=>?_;cases f with
 | next=>exact wpAny_execs_nil q
 | ret v=>exact q
 | brk=>exact q
 | cont=>exact q
def Inv.quiet{a:List (Addr×Obj)}{σ:St}{H:Hp}{s:Shared}(I:Inv X a σ H s):interactive X.env=false:=by simp[interactive,I.ok.kind]
def AS(te:TE):TS:=λD σ H=>te σ H λ_ H1=>D.nx σ H1
def gS(i:PE X e te)(f:swapsWith e none pos.line X.env=pure false:=by rfl):PS X (.Expr e pos) (AS te):=by
 intro a s σ H D I h;exact wpAny_Expr_any (aS (i a s σ H _ I h) <| by rintro v l ⟨x,H1,d,j,b⟩;exact⟨σ,H1,d,b⟩) I.quiet f
def iE(te:TE):TS:=λD σ H=>te σ H D.rt
def bU(i:PE X e te):PS X (.Return (some e) pos) (iE te):=by
 intro b s σ H D I h;exact wpAny_Return_some (aS (i b s σ H _ I h) <| by rintro v j ⟨x,H1,f,a,d⟩;exact⟨x,σ,H1,f,a,d⟩)
def iO(c:TT)(t u:TS):TS:=λD σ H=>c σ H λb H1=>if b=true then t D σ H1 else u D σ H1
def dS{c:Expr}{a b:List Stmt}{tc:TT}(l:PT X c tc)(ha:PSs X a t)(m:PSs X b u):PS X (.If c a b pos) (iO tc t u):=by
 intro e s σ H D I h;refine wpAny_If<|aS (l e s σ H _ I h) ?_;rintro d j ⟨H1,i,f⟩;cases d with
 | true=>exact ha e j σ H1 D i f
 | false=>exact m e j σ H1 D i f
end
abbrev TG:=V->St->Hp->(St->Hp->Prop)->Prop
abbrev nO:=List V->St->Hp->(St->Hp->Prop)->Prop
def PG(X:Cx)(target:Expr)(t:TG):Prop:=
 ∀(pins:List (Addr×Obj))(s:Shared)(σ:St)(H:Hp)(v:V)(u:Value)(Q:St->Hp->Prop),Inv X pins σ H s->RelV v u->t v σ H Q->
  wpAny (model X.prog X.w) X.A (assign target X.env u) (λ_ s'=>∃σ' H',Inv X pins σ' H' s'/\Q σ' H') X.xe s
def EZ(X:Cx)(ts:List Expr)(t:nO):Prop:=
 ∀(pins:List (Addr×Obj))(s:Shared)(σ:St)(H:Hp)(vs:List V)(us:List Value)(Q:St->Hp->Prop),Inv X pins σ H s->Vals vs us->t vs σ H Q->
  wpAny (model X.prog X.w) X.A (assignInOrder ((assignEach ts X.env).map (·.2)) us) (λ_ s'=>∃σ' H',Inv X pins σ' H' s'/\Q σ' H') X.xe s
abbrev uK:=V->V->V->Hp->(Hp->Prop)->Prop
def CK(X:Cx)(t:uK):Prop:=
 ∀(pins:List (Addr×Obj))(s:Shared)(σ:St)(H:Hp)(o i v:V)(ov iv u:Value)(Q:Hp->Prop),Inv X pins σ H s->RelV o ov->RelV i iv->RelV v u->t o i v H Q->
  wpAny (model X.prog X.w) X.A (setItem ov iv u) (λ_ s'=>∃H',Inv X pins σ H' s'/\Q H') X.xe s
section
variable{pos:Pos}
def bS(i:Nat):TG:=λv σ H Q=>Q (σ.set i<|some v) H
def sS{i:Nat}{x:Str}(d:X.N.Nodup)(hi:X.N[i]?=some x)(b:wU X.env.scope x)(a:X.fn x=true\/X.env.scope.names.lookup x=some .local:=by first | exact .inl rfl | exact .inr rfl | assumption):PG X (.Name x pos) (bS i):=by
 intro f s σ H v u Q I r h;exact wpAny_assign_Name<|EN I d hi b r (λs' e=>⟨_,H,e,h⟩) a
inductive PY(vs:List V)(σ:List (Option V))(H:Hp)(Q:List (Option V)->Hp->Prop):Prop
 | mk(h:vs=[])(q:Q σ H):PY vs σ H Q
def dZ:nO:=λvs σ H Q=>PY vs σ H Q
inductive WM(t:TG)(u:nO)(vs:List V)(σ:List (Option V))(H:Hp)(Q:List (Option V)->Hp->Prop):Prop
 | mk(v:V)(r:List V)(h:vs=v::r)(q:t v σ H λσ2 H2=>u r σ2 H2 Q):WM t u vs σ H Q
def eC(t:TG)(u:nO):nO:=λvs σ H Q=>WM t u vs σ H Q
def fE:EZ X [] dZ:=by
 intro a s σ H d b Q I r h;obtain⟨e,h⟩:=h;subst e;cases r;exact assignInOrder_nil ⟨σ,H,I,h⟩
def bR{e:Expr}{es:List Expr}{t:TG}{u:nO}(h1:PG X e t)(h2:EZ X es u)
  (i:(assignEach (e::es) X.env).map (·.2)=assign e X.env::(assignEach es X.env).map (·.2):=by rfl):EZ X (e::es) (eC t u):=by
 intro a s σ H m l Q I r h;obtain⟨v,n,b,h⟩:=h;subst b;cases r with
 | cons r rr=>
  rw[i];refine assignInOrder_cons<|aS (h1 a s σ H _ _ _ I r h) ?_;rintro _ d ⟨σ1,H1,j,f⟩;exact h2 a d σ1 H1 _ _ Q j rr f
inductive VE(K:Fg)(n:Nat)(t:nO)(v:V)(σ:List (Option V))(H:Hp)(Q:List (Option V)->Hp->Prop):Prop
 | mk(a:Addr)(xs:List V)(h1:v=.ref a)(h2:SqT K H a xs)(h3:↑xs=n)(q:t xs σ H Q):VE K n t v σ H Q
def eA(K:Fg)(n:Nat)(t:nO):TG:=λv σ H Q=>VE K n t v σ H Q
def fG{es:List Expr}{k:Nat}{t:nO}{n:Nat}(q:X.calm=true)(h:EZ X es t)
  (x:↑(assignEach es X.env)=n:=by rfl) (a1:(assignEach es X.env).findIdx? (·.1)=none:=by rfl):PG X (.Tuple es k pos) (eA X.K n t):=by
 intro f s σ H v u Q I r d;obtain⟨a,xs,j,m,hl,d⟩:=d;subst j;cases r;obtain⟨its,i,l,hz⟩:=I.tuple m;refine assign_Tuple_tuple (I.ok.hd q) l (by simp[x,<-hl,i.length]) a1 λh' p=>?_
 have w:Inv X f σ H {s with heap:=h'}:=I.kept (t':=s.toks) λb o e=>p b o (bI<|bA e) e;exact h f _ σ H xs _ Q w (by simpa using i) d
def IS(to ti:TE)(t:uK):TG:=λv σ H Q=>to σ H λo H1=>ti σ H1 λi H2=>t o i v H2 λH3=>Q σ H3
def vX{o i:Expr}{to e:TE}{t:uK}(l:PE X o to)(hi:PE X i e)(z:CK X t)
  (ha:∀v,assign (.Subscript o i pos) X.env v=(do
   let a <-holding [v] (eval o X.env)
   let b <-holding [v,a] (eval i X.env)
   standAt pos
   holding [v,a,b] (setItem a b v)
   release [v,a,b] []):=by intro _;rfl):PG X (.Subscript o i pos) (IS to e t):=by
 intro d s σ H v u Q I r h;rw[ha];refine aB<|dP<|aS (l d s σ H _ I h) ?_;rintro a B ⟨x,H1,w,p,q⟩;refine aB<|dP<|aS (hi d B σ H1 _ w q) ?_;rintro b s2 ⟨y,H2,n,j,m⟩;refine aB<|pV<|aB<|dP<|aS (z d s2 σ H2 x y v a b u _ n p j r m) ?_;rintro _ s3 ⟨H3,A,f⟩;exact wpAny_release ⟨σ,H3,A,f⟩
def gC(te:TE)(g:TG):TS:=λD σ H=>te σ H λx H1=>g x σ H1 D.nx
def kW{tg e:Expr}{te:TE}{g:TG}(m:PE X e te)(b:PG X tg g)(j:swapsWithSole [tg] e pos.line X.env=pure false:=by rfl)(d:swappedStores [tg] e X.env=pure none:=by rfl)
  (h1:(assignEach [tg] X.env).map (·.2)=[assign tg X.env]:=by rfl):PS X (.Assign [tg] e pos) (gC te g):=by
 intro a s σ H D I h;refine wpAny_Assign_stores (aS (m a s σ H _ I h) λv n ⟨x,H1,l,f,i⟩=>?_) j d;rw[h1];exact aS (b a n σ H1 x v _ l f i) λ_ s2 q=>q
def iW{i:Nat}{x:Str}{e:Expr}{te:TE}{a:Pos}(d:X.N.Nodup)(hi:X.N[i]?=some x)(j:wU X.env.scope x)(p:PE X e te)(n:swapsWith e (some<|.Name x a) pos.line X.env=pure false:=by rfl)(b:X.fn x=true\/X.env.scope.names.lookup x=some .local:=by first | exact .inl rfl | exact .inr rfl | assumption):
  PS X (.Assign [.Name x a] e pos) (gC te<|bS i):=by
 intro a1 s σ H D I h;refine wpAny_Assign_Name (aS (p a1 s σ H _ I h) λv q ⟨y,H1,o,l,m⟩=>?_) n;exact EN o d hi j l (λs2 f=>⟨_,H1,f,m⟩) b
def MU(i j:Nat)(ta:TA):TS:=λD σ H=>ta σ H λvs H1=>∃v w,vs=[v,w]/\D.nx ((σ.set i<|some v).set j<|some w) H1
def OZ{i j:Nat}{x y:Str}{a b:Expr}{ta:TA}{r m pt:Pos}{kt k2 pt2}(M:X.calm=true)(C:X.N.Nodup)(hi:X.N[i]?=some x)(hj:X.N[j]?=some y)(L:i≠j)
  (u:X.env.scope.names.lookup x=some .local) (B:X.env.scope.names.lookup y=some .local) (ha:PA X [a,b] ta)
  (G:swappedStores [.Tuple [.Name x r,.Name y m] kt pt] (.Tuple [a,b] k2 pt2) X.env=pure (some [x,y]))
  (O:swapsWithSole [.Tuple [.Name x r,.Name y m] kt pt] (.Tuple [a,b] k2 pt2) pos.line X.env=pure false:=by rfl):
  PS X (.Assign [.Tuple [.Name x r,.Name y m] kt pt] (.Tuple [a,b] k2 pt2) pos) (MU i j ta):=by
 intro z s σ H D I h;rw[exec_Assign_arm];refine aB<|pV ?_;rw[O];refine aB<|aD ?_;rw[aK<|by decide];refine aB<|Tuple_<|aS (ha _ z s σ H _ I h) ?_;rintro K l ⟨vs,H1,I1,r1,n⟩;obtain⟨v,w,J,n⟩:=n;subst J;obtain⟨d,f,rfl,T,a1⟩:∃d f,K=[d,f]/\RelV v d/\RelV w f:=by
  cases r1 with
  | cons p q=>
   cases q with
   | cons p' q'=>
    cases q';exact⟨_,_,rfl,p,p'⟩
 refine fY ?_ (by show 2<=sizeLine;decide);have Y:Inv X z σ H1 {l with heap:=l.heap.push {cls:=.type "tuple",data:=.seq [d,f].toArray}}:=I1.kept (t':=l.toks) λb o e=>aZ _ e;rw[G];refine aB<|aD ?_;show wpAny (model X.prog X.w) X.A (do rule "assign.swapped-stores";let items <-unpackItems (.ref l⁻¹) 2 none;assignInOrder [λv=>bindName X.env y v,λv=>bindName X.env x v] items.reverse;pure Flow.next) _ _ _;refine aB<|fN<|aB<|unpackItems_tuple (items:=#[d,f]) (I.ok.hd M) (IsTup.new l.heap _) λh' P=>?_;have W:=Y.kept (h':=h') (t':=l.toks) λb o e=>P b o (bI<|bA e) e;show wpAny _ _ (assignInOrder [λv=>bindName X.env y v,λv=>bindName X.env x v] [f,d] >>= λ_=>pure Flow.next) _ _ _;refine aB<|assignInOrder_cons<|wpAny_bindName<|EN W C hj (.inl B) a1 (λs2 Z=>?_)<|.inr B;refine assignInOrder_cons<|wpAny_bindName<|EN Z C hi (.inl u) T (λs3 E=>assignInOrder_nil<|aD ?_)<|.inr u;rw[List.set_comm _ _<|cW L]at E;exact⟨_,H1,E,n⟩
end
section
variable{pos:Pos}
def UC(c:TT)(tb:TS):TS:=λD σ H=>∃W:Nat->St->Hp->Prop,(∃m,W m σ H)/\∀m σ H,W m σ H->
 c σ H λb H1=>if b=true then ∃N:St->Hp->Prop,(∀σ' H',N σ' H'->∃m',m'<m/\W m' σ' H')/\tb {D with nx:=N,ct:=N,bk:=D.nx} σ H1 else D.nx σ H1
def JA{c:Expr}{body:List Stmt}{tc:TT}{tb:TS}(q:PassesOwn (model X.prog X.w) X.A X.env X.xe)(x:PT X c tc)(B:PSs X body tb):PS X (.While c body [] pos) (UC tc tb):=by
 intro i s σ H D I h;obtain⟨W,⟨u,G⟩,turn⟩:=h;refine wpAny_While<|codeAny_whileLoop (λn s'=>∃σ' H',Inv X i σ' H' s'/\W n σ' H') ?_ u ⟨σ,H,I,G⟩;rintro n z ⟨σ1,H1,C,E⟩;refine tW q<|aS (x i z σ1 H1 _ C<|turn n σ1 H1 E) ?_;rintro b s2 ⟨H2,r,d⟩;cases b with
 | true=>
  obtain⟨N,p,d⟩:=d;rw[aR rfl];refine tW q<|aS (B i s2 σ1 H2 _ r d) λf s3 a=>?_;cases f with
  | next=>
   obtain⟨σ3,H3,j,e⟩:=a;obtain⟨l,m,o⟩:=p σ3 H3 e;exact⟨l,m,σ3,H3,j,o⟩
  | cont=>
   obtain⟨σ3,H3,j,e⟩:=a;obtain⟨l,m,o⟩:=p σ3 H3 e;exact⟨l,m,σ3,H3,j,o⟩
  | brk=>exact a
  | ret v=>exact a
 | false=>
  rw[aK cA];exact wpAny_execs_nil ⟨σ1,H2,r,d⟩
end
structure It where
 go:Nat->Hp->Prop
 yld:Nat->Hp->V->Hp->Prop
 stop:Nat->Hp->Prop
def dH(X:Cx)(pins:List (Addr×Obj))(H:Hp)(b:Addr):Prop:=
 H b=none/\b≠X.env.locals/\b∉X.fs/\(b∈X.ex\/X.s₀⁻¹<=b)/\(∀x c,X.env.cells.lookup x=some c->c≠b)/\∀p∈X.pn++pins,p.1≠b
def Inv.fpOk{X:Cx}{d:List (Addr×Obj)}{σ:St}{H H':Hp}{s:Shared}{b:Addr}(I:Inv X d σ H s)(a:s⁻¹<=b)(h:H' b=none):dH X d H' b:=by
 refine⟨h,cQ<|gE I.lt a,I.nofs a,.inr<|fI I.sz a,λx c e z=>?_,λp f z=>?_⟩
 .obtain⟨v,q⟩:=I.cell x c e;exact absurd (gE q.lt<|by rw[z];exact a)<|iB _
 .exact absurd (gE (bA (I.pin p f).1)<|by rw[z];exact a)<|iB _
structure eX(P:Program)(w:World)(K:Fg)(tg:Expr)(J:It)(fp:List Addr)(it:Addr)(tn:Nat->Heap->Prop):Prop where
 mem:it∈fp
 obj:∀i h,tn i h->∀b∈fp,∃o,h.get? b=some o/\∀v,o.data≠.cell v
 keep:∀i h h',tn i h->(∀b∈fp,∀o,h.get? b=some o->h'.get? b=some o)->tn i h'
 item:∀(X:Cx),X.prog=P->X.w=w->X.K=K->X.calm=true->∀(i:Nat)(pins:List (Addr×Obj))(s:Shared)(σ:St)(H:Hp)(E:Vp),Inv X pins σ H s->(∀b∈fp,dH X pins H b)->tn i s.heap->J.go i H->
  wpAny (model P w) X.A (pyNext<|.ref it) (λr s1=>∃u,r=some u/\ wpAny (model P w) X.A (letOwnedTupleGo tg (.ref it) u) (λ_ s2=>∃x H',Inv X pins σ H' s2/\RelV x u/\J.yld i H x H'/\tn (i+1) s2.heap/\∀b∈fp,H' b=none) E s1) E s
 done:∀(X:Cx),X.prog=P->X.w=w->X.K=K->X.calm=true->∀(i:Nat)(pins:List (Addr×Obj))(s:Shared)(σ:St)(H:Hp)(E:Vp),Inv X pins σ H s->(∀b∈fp,dH X pins H b)->tn i s.heap->J.stop i H->
  wpAny (model P w) X.A (pyNext<|.ref it) (λr s1=>r=none/\Inv X pins σ H s1) E s
 self:∀(A:Around)(i:Nat)(s:Shared)(Q:Vp)(E:Vp),tn i s.heap->Q (.ref it) s->wpAny (model P w) A (pyIter<|.ref it) Q E s
abbrev TI:=St->Hp->(It->Hp->Prop)->Prop
def LE(X:Cx)(pins:List (Addr×Obj))(σ:St)(tg:Expr)(R:It->Hp->Prop)(itv:Value)(s2:Shared):Prop:=
 ∃(it:Addr)(fp:List Addr)(tn:Nat->Heap->Prop)(J:It)(H':Hp),itv=.ref it/\Inv X pins σ H' s2/\eX X.prog X.w X.K tg J fp it tn/\tn 0 s2.heap/\(∀b∈fp,dH X pins H' b)/\R J H'
def PI(X:Cx)(tg iter:Expr)(wi:TI):Prop:=
 ∀(pins:List (Addr×Obj))(s:Shared)(σ:St)(H:Hp)(R:It->Hp->Prop),Inv X pins σ H s->wi σ H R->
  wpAny (model X.prog X.w) X.A (eval iter X.env) (λv s1=>wpAny (model X.prog X.w) X.A (pyIter v) (LE X pins σ tg R) X.xe s1) X.xe s
def sY{M:Model}{A:Around}{E:Vp}{s:Shared}{tg:Expr}{it:Addr}{u:Value}{o:Obj}{n:String}{b:Array Value}{Q:Unit->Shared->Prop}(f:s.heap.get? it=some o)(d:o.cls=.type n)(hd:o.data=.fields b)
  (e:["enumerate","zip","dict_itemiterator","dict_reverseitemiterator","odict_iterator","itertools.zip_longest","itertools.pairwise"].contains n=false) (a:Q () s):wpAny M A (letOwnedTupleGo tg (.ref it) u) Q E s:=by
 unfold letOwnedTupleGo;cases tg <;> first
  | exact aD a
  | (cases u <;> first
    | exact aD a
    | (refine aB<|wpAny_load f ?_;rw[d,hd];show wpAny M A (if (["enumerate","zip","dict_itemiterator","dict_reverseitemiterator","odict_iterator","itertools.zip_longest","itertools.pairwise"].contains n && b[0]? == some (rawInt _))=true then _ else _) Q E s;rw[aK<|by intro h;rw[e,Bool.false_and]at h;cases h];exact aD a))
def mW(K:Fg)(a:Addr):It:=
 ⟨λi H=>∃xs x,SqL K H a xs/\xs[i]?=some x,λi H x H'=>H'=H/\∀xs,SqL K H a xs->xs[i]?=some x,λi H=>∃xs,SqL K H a xs/\↑xs<=i⟩
def tE(K:Fg)(a:Addr):It:=
 ⟨λi H=>∃xs x,SqT K H a xs/\xs[i]?=some x,λi H x H'=>H'=H/\∀xs,SqT K H a xs->xs[i]?=some x,λi H=>∃xs,SqT K H a xs/\↑xs<=i⟩
def uA(lo:Int)(n:Nat):It:=⟨λi _=>i<n,λi H x H'=>H'=H/\x=.int (lo+i),λi _=>n<=i⟩
def Ab{P:Program}{w:World}{K:Fg}{tg:Expr}(a it:Addr):eX P w K tg (mW K a) [it] it (λi h=>h.IsListIter it a i) where
 mem:=by simp
 obj:=λi h st b f=>by
  have e:b=it:=by simpa using f
  subst e;obtain⟨o,e,c,d⟩:=st;exact⟨o,e,λv z=>by rw[d]at z;cases z⟩
 keep:=λi h h' st k=>st.at λo e=>k it (by simp) o e
 item:=by
  intro X A n r N i O s σ H E I j st m;subst A n r;obtain⟨xs,x,l,B⟩:=m;obtain⟨its,G,p,hz⟩:=I.list l;obtain⟨u,hu,ru⟩:=G.get B;obtain⟨J,M,W,C,L,q⟩:=j it (by simp);refine wpAny_pyNext_list_item st p.isList (x:=u) (by simpa using hu) λh' a1 T=>?_
  have I1:Inv X O σ H {s with heap:=h'}:=I.turned (t':=s.toks) (λb o f e=>(T.2 b f).trans e) J M C L q;obtain⟨o,e,c,d⟩:=id a1;exact⟨u,rfl,sY (s:={s with heap:=h'}) e c d (by decide) ⟨x,H,I1,ru,⟨rfl,λys Y=>by rw[I.list_inj Y l];exact B⟩,a1,λb f=>(j b f).1⟩⟩
 done:=by
  intro X A n r N i O s σ H E I j st m;subst A n r;obtain⟨xs,l,B⟩:=m;obtain⟨its,G,p,hz⟩:=I.list l;obtain⟨J,M,W,C,L,q⟩:=j it (by simp);have hl:=G.length;exact wpAny_pyNext_list_end (I.ok.hd N) st p.isList (by simp;lia) λh' Z=>⟨rfl,I.turned (t':=s.toks) (λb o f e=>Z b o f e) J M C L q⟩
 self:=λ_ _ _ _ _ st h=>wpAny_pyIter_listiter st h
def ZL{P:Program}{w:World}{K:Fg}{tg:Expr}(a it:Addr):eX P w K tg (tE K a) [it] it (λi h=>h.IsTupleIter it a i) where
 mem:=by simp
 obj:=λi h st b f=>by
  have e:b=it:=by simpa using f
  subst e;obtain⟨o,e,c,d⟩:=st;exact⟨o,e,λv z=>by rw[d]at z;cases z⟩
 keep:=λi h h' st k=>st.at λo e=>k it (by simp) o e
 item:=by
  intro X A n r N i O s σ H E I j st m;subst A n r;obtain⟨xs,x,l,B⟩:=m;obtain⟨its,G,p,hz⟩:=I.tuple l;obtain⟨u,hu,ru⟩:=G.get B;obtain⟨J,M,W,C,L,q⟩:=j it (by simp);refine wpAny_pyNext_tuple_item st (show s.heap.IsTuple a its.toArray from p) (x:=u) (by simpa using hu) λh' a1 T=>?_
  have I1:Inv X O σ H {s with heap:=h'}:=I.turned (t':=s.toks) (λb o f e=>(T.2 b f).trans e) J M C L q;obtain⟨o,e,c,d⟩:=id a1;exact⟨u,rfl,sY (s:={s with heap:=h'}) e c d (by decide) ⟨x,H,I1,ru,⟨rfl,λys Y=>by rw[I.tuple_inj Y l];exact B⟩,a1,λb f=>(j b f).1⟩⟩
 done:=by
  intro X A n r N i O s σ H E I j st m;subst A n r;obtain⟨xs,l,B⟩:=m;obtain⟨its,G,p,hz⟩:=I.tuple l;obtain⟨J,M,W,C,L,q⟩:=j it (by simp);have hl:=G.length;exact wpAny_pyNext_tuple_end (I.ok.hd N) st (show s.heap.IsTuple a its.toArray from p) (by simp;lia) λh' Z=>⟨rfl,I.turned (t':=s.toks) (λb o f e=>Z b o f e) J M C L q⟩
 self:=λ_ _ _ _ _ st h=>wpAny_pyIter_tupleiter st h
def Fv{P:Program}{w:World}{K:Fg}{tg:Expr}(it:Addr)(lo:Int)(n:Nat):eX P w K tg (uA lo n) [it] it (λi h=>IsRangeIter h it (lo+(i:Nat)*1) ((n:Int)-(i:Nat)) 1) where
 mem:=by simp
 obj:=λi h st b a=>by
  have e:b=it:=by simpa using a
  subst e;exact⟨_,st,λv z=>by
   have G:Data.fields _=Data.cell v:=z;cases G⟩
 keep:=λi h h' st k=>k it (by simp) _ st
 item:=by
  intro X p j m q i B s σ H E I d st f;subst p j m;obtain⟨u,A,C,r,x,l⟩:=d it (by simp);have W:=Walks.range (prog:=X.prog) (w:=X.w) (I.ok.hd q) it lo 1 n;refine W.item i s _ _ f st λv h' tk N a1 L=>?_;obtain⟨t,rfl⟩:=N;have M:Inv X B σ H {s with heap:=h',toks:=tk}:=I.turned (λb o a e=>L b o (by simpa using a) e) u A r x l;refine⟨_,rfl,sY (s:={s with heap:=h',toks:=tk}) (n:="range_iterator") a1 rfl rfl (by decide) ⟨.int<|lo+i,H,M,⟨t,?_⟩,⟨rfl,rfl⟩,a1,λb a=>(d b a).1⟩⟩;rw[Int.mul_one]
 done:=by
  intro X p j m q i B s σ H E I d st f;subst p j m;obtain⟨u,A,C,r,x,l⟩:=d it (by simp);exact wpAny_pyNext_range_end (I.ok.hd q) st (by have:n<=i:=f;lia) λh' J=>⟨rfl,I.turned (t':=s.toks) (λb o a e=>J b o a e) u A r x l⟩
 self:=λ_ _ _ _ _ st h=>wpAny_pyIter_rangeiter st h
section
variable{tg:Expr}
inductive SC(K:Fg)(x:V)(H:Hp)(R:It->Hp->Prop):Prop
 | mk(a:Addr)(h:x=.ref a)(h2:∃xs,SqL K H a xs)(q:R (mW K a) H):SC K x H R
def LS(K:Fg)(tl:TE):TI:=λσ H R=>tl σ H λx H1=>SC K x H1 R
inductive UY(K:Fg)(x:V)(H:Hp)(R:It->Hp->Prop):Prop
 | mk(a:Addr)(h:x=.ref a)(h2:∃xs,SqT K H a xs)(q:R (tE K a) H):UY K x H R
def xJ(K:Fg)(tl:TE):TI:=λσ H R=>tl σ H λx H1=>UY K x H1 R
def gM{l:Expr}{tl:TE}(hl:PE X l tl):PI X tg l (LS X.K tl):=by
 intro n s σ H R I h;refine aS (hl n s σ H _ I h) ?_;rintro v f ⟨x,H1,d,m,r⟩;obtain⟨a,e,⟨xs,j⟩,q⟩:=r;subst e;cases m;obtain⟨its,u,p,hz⟩:=d.list j;refine zA p.isList ?_;refine⟨f⁻¹,[f⁻¹],_,_,H1,rfl,d.kept (t':=f.toks) λb o e=>aZ _ e,Ab a _,⟨_,bY _ rfl,rfl,rfl⟩,λb i=>?_,q⟩;have e:b=f⁻¹:=by simpa using i
 subst e;exact d.fpOk (aO _)<|d.hok.fresh<|aO _
def gO{l:Expr}{tl:TE}(hl:PE X l tl):PI X tg l (xJ X.K tl):=by
 intro n s σ H R I h;refine aS (hl n s σ H _ I h) ?_;rintro v d ⟨x,H1,f,m,r⟩;obtain⟨a,e,⟨xs,j⟩,q⟩:=r;subst e;cases m;obtain⟨its,u,p,hz⟩:=f.tuple j;refine yL (show d.heap.IsTuple a its.toArray from p) ?_;refine⟨d⁻¹,[d⁻¹],_,_,H1,rfl,f.kept (t':=d.toks) λb o e=>aZ _ e,ZL a _,⟨_,bY _ rfl,rfl,rfl⟩,λb i=>?_,q⟩;have e:b=d⁻¹:=by simpa using i
 subst e;exact f.fpOk (aO _)<|f.hok.fresh<|aO _
def Dr{a:List (Addr×Obj)}{σ:St}{H:Hp}{s:Shared}{R:It->Hp->Prop}{E:Vp}{lo hi:Int}{t u v:Tok}{tk:Nat}(I:Inv X a σ H s)(h1:-(2 ^ 62)<=lo)(h2:lo<2 ^ 62)(l:-(2 ^ 62)<=hi)(i:hi<2 ^ 62)
  (q:R (uA lo (hi-lo).toNat) H):wpAny (model X.prog X.w) X.A (pyIter<|.ref s⁻¹) (LE X a σ tg R) E {s with heap:=s.heap.push {cls:=.type "range",data:=.fields #[.int lo t,.int hi u,.int 1 v]},toks:=tk}:=by
 refine wpAny_pyIter_range (IsRange.new ..) (small_one h1 h2 l i) ?_;have d:Inv X a σ H {s with heap:=s.heap.push {cls:=.type "range",data:=.fields #[.int lo t,.int hi u,.int 1 v]},toks:=tk}:=I.kept λb o e=>aZ _ e;refine⟨(s.heap.push {cls:=.type "range",data:=.fields #[.int lo t,.int hi u,.int 1 v]}).objs.size,[(s.heap.push {cls:=.type "range",data:=.fields #[.int lo t,.int hi u,.int 1 v]}).objs.size],_,_,H,rfl, d.kept (t':=tk) λb o e=>aZ _ e,Fv _ lo (hi-lo).toNat,?_,λb h=>?_,q⟩
 .have f:lo+((0:Nat):Int)*1=lo:=by simp
  have j:(((hi-lo).toNat:Nat):Int)-((0:Nat):Int)=Builtin.Range.rangeSize lo hi 1:=by rw[rangeSize_one];split <;> lia
  show IsRangeIter _ _ (lo+((0:Nat):Int)*1) ((((hi-lo).toNat:Nat):Int)-((0:Nat):Int)) 1;rw[f,j];exact bY _ rfl
 .have e:b=(s.heap.push {cls:=.type "range",data:=.fields #[.int lo t,.int hi u,.int 1 v]}).objs.size:=by simpa using h
  subst e;exact d.fpOk (aO _)<|d.hok.fresh<|aO _
def oW(ta:TA):TI:=λσ H R=>ta σ H λvs H1=>∃j:Int,vs=[.int j]/\-(2 ^ 62)<=j/\j<2 ^ 62/\R (uA 0 j.toNat) H1
def vT{a:Expr}{ta:TA}{p pos:Pos}(d:Gl X "range")(i:X.mg "range"=none)(ha:PA X [a] ta)(n:starEach [a] X.env=[(false,eval a X.env)]:=by rfl):PI X tg (.Call (.Name "range" p) [a] [] pos) (oW ta):=by
 intro m s σ H R I h;refine Call_<|lS I d i boot_range<|oN (aS (ha pos m s σ H _ I h) λv w ⟨u,H1,o,l,b⟩=>?_) n rfl;obtain⟨j,e,b,f,q⟩:=b;subst e;cases l with
 | cons r rr=>
  cases rr;obtain⟨t,rfl⟩:=r;exact call_range_1 (Dr o (by lia) (by lia) b f<|by simpa using q)
def IO(wi:TI)(g:TG)(tb:TS):TS:=λD σ H=>wi σ H λJ H1=>∃W:Nat->Nat->St->Hp->Prop,(∃m,W 0 m σ H1)/\∀i m σ H,W i m σ H->
 (J.stop i H/\D.nx σ H)\/(J.go i H/\∃N:St->Hp->Prop,(∀σ' H',N σ' H'->∃m',m'<m/\W (i+1) m' σ' H')/\∀x H',J.yld i H x H'->g x σ H' λσ2 H2=>tb {D with nx:=N,ct:=N,bk:=D.nx} σ2 H2)
def tQ(fp:List Addr)(h:Heap):List (Addr×Obj):=fp.filterMap λb=>(h.get? b).map λo=>(b,o)
def pN{fp:List Addr}{h:Heap}{b:Addr}{o:Obj}(a:b∈fp)(e:h.get? b=some o):(b,o)∈tQ fp h:=uj1.mpr ⟨b,a,by rw[e];rfl⟩
def ZM{fp:List Addr}{h:Heap}{p:Addr×Obj}(a:p∈tQ fp h):p.1∈fp/\h.get? p.1=some p.2:=by
 obtain⟨b,f,e⟩:=uj1.mp a;cases q:h.get? b with
 | none=>rw[q]at e;cases e
 | some o=>
  rw[q]at e;have d:(b,o)=p:=jE e;subst d;exact⟨f,q⟩
def Inv.pinned{a:List (Addr×Obj)}{σ:St}{H:Hp}{s:Shared}{fp:List Addr}(I:Inv X a σ H s)(j:∀b∈fp,dH X a H b)(m:∀b∈fp,∃o,s.heap.get? b=some o/\∀v,o.data≠.cell v):Inv X (a++tQ fp s.heap) σ H s:=
 I.pins_of λp i=>(vj5.mp i).elim (λz=>I.pin p<|fR _ z) λz=>by
  obtain⟨f,e⟩:=ZM z;obtain⟨l,q,n,_⟩:=j p.1 f;obtain⟨o,h,d⟩:=m p.1 f;rw[e]at h;cases h;exact⟨e,l,q,n,d⟩
def Inv.unpinned{a d:List (Addr×Obj)}{σ:St}{H:Hp}{s:Shared}(I:Inv X (a++d) σ H s):Inv X a σ H s:=I.pins_of λp b=>I.pin p<|fR _<|mQ _ b
def fQ{C:Expr}{body:List Stmt}{Y:TI}{g:TG}{tb:TS}{pos:Pos}(z:PassesOwn (model X.prog X.w) X.A X.env X.xe)(Z:X.calm=true)(hi:PI X tg C Y)(hg:PG X tg g)(a:PSs X body tb)
  (hs:∀x,foldedSetIterable C X.env x=pure x:=by intro _;rfl):PS X (.For tg C body [] pos) (IO Y g tb):=by
 intro q s σ H D I h;refine wpAny_For (aS (hi q s σ H _ I h) λv s1 h1=>aS h1 λa9 s2 h2=>?_) hs;obtain⟨it,fp,P,J,H2,e,I2,T,a6,M,W,⟨m0,w0⟩,turn⟩:=h2;subst e;have a1:∀{H':Hp},(∀b∈fp,H' b=none)->∀b∈fp,dH X q H' b:=λhn b a=>⟨hn b a,(M b a).2⟩;refine codeAny_forLoop_any (λn s'=>∃i σ' H',Inv X q σ' H' s'/\P i s'.heap/\(∀b∈fp,H' b=none)/\W i n σ' H') ?_ m0 ⟨0,σ,H2,I2,a6,λb a=>(M b a).1,w0⟩;rintro n s3 ⟨i,σ3,H3,I3,a5,L,w3⟩;rcases turn i n σ3 H3 w3 with ⟨stop,qn⟩ | ⟨go,N,hN,step⟩
 .refine tW z<|aS (T.done X rfl rfl rfl Z i q s3 σ3 H3 X.xe I3 (a1 L) a5 stop) ?_;rintro r s4 ⟨K,I4⟩;subst K;exact wpAny_execs_nil ⟨σ3,H3,I4,qn⟩
 .refine tW z<|aS (T.item X rfl rfl rfl Z i q s3 σ3 H3 X.xe I3 (a1 L) a5 go) ?_;rintro r s4 ⟨u,K,h4⟩;subst K;refine tW z<|aS h4 ?_;rintro _ s5 ⟨x,O,I5,r5,y5,E,a7⟩;have a8:=I5.pinned (a1 a7)<|T.obj _ _ E;refine tW z<|aS (hg _ s5 σ3 O x u _ a8 r5<|step x O y5) ?_;rintro _ s6 ⟨σ6,H6,I6,q6⟩;refine tW z<|aS (a _ s6 σ6 H6 _ I6 q6) λf G p=>?_;have again:∀{σ7:St}{j:Hp},Inv X (q++tQ fp s5.heap) σ7 j G->N σ7 j->∃m,m<n/\∃i σ' H',Inv X q σ' H' G/\P i G.heap/\(∀b∈fp,H' b=none)/\W i m σ' H':=λ{σ7 j} l B=>by
   obtain⟨m',hm,w7⟩:=hN σ7 j B;refine⟨m',hm,i+1,σ7,j,l.unpinned,T.keep _ _ _ E λb a o e=>(l.pin (b,o)<|fR _<|fR _<|pN a e).1,λb a=>?_,w7⟩;obtain⟨o,e,d⟩:=T.obj _ _ E b a;exact(l.pin (b,o)<|fR _<|fR _<|pN a e).2.1
  cases f with
  | next=>obtain⟨σ7,j,l,B⟩:=p;exact again l B
  | cont=>obtain⟨σ7,j,l,B⟩:=p;exact again l B
  | brk=>obtain⟨σ7,j,l,p⟩:=p;exact⟨σ7,j,l.unpinned,p⟩
  | ret v=>obtain⟨x7,σ7,j,l,r7,p⟩:=p;exact⟨x7,σ7,j,l.unpinned,r7,p⟩
end
def vO{K:Fg}{a:Addr}{xs:List V}{g:TG}{tb:TS}{D:dU}{σ:St}{H:Hp}(b:Nat->St->Hp->Prop)(j:b 0 σ H)(hl:∀i σ H,i<=↑xs->b i σ H->SqL K H a xs)
  (h:∀i x σ H,xs[i]?=some x->b i σ H->g x σ H λσ2 H2=>tb {D with nx:=b<|i+1,ct:=b<|i+1,bk:=D.nx} σ2 H2) (hd:∀σ H,b ↑xs σ H->D.nx σ H):
  ∃W:Nat->Nat->St->Hp->Prop,(∃m,W 0 m σ H)/\∀i m σ H,W i m σ H->
   ((mW K a).stop i H/\D.nx σ H)\/((mW K a).go i H/\∃N:St->Hp->Prop,(∀σ' H',N σ' H'->∃m',m'<m/\W (i+1) m' σ' H')/\∀x H',(mW K a).yld i H x H'->g x σ H' λσ2 H2=>tb {D with nx:=N,ct:=N,bk:=D.nx} σ2 H2):=by
 exists λi m σ H=>m=↑xs-i/\i<=↑xs/\b i σ H,⟨↑xs,by simp,bO _,j⟩;rintro i m σ H ⟨rfl,hi,p⟩;have q:=hl i σ H hi p
 by_cases d:i<↑xs
 .refine .inr ⟨⟨xs,xs[i],q,by simp[d]⟩,b<|i+1,λσ' H' f=>⟨↑xs-(i+1),by lia,rfl,d,f⟩,λx H' y=>?_⟩;obtain⟨e,y⟩:=y;subst e;exact h i x σ _ (y xs q) p
 .have e:i=↑xs:=by lia
  subst e;exact .inl ⟨⟨xs,q,aO _⟩,hd σ H p⟩
def HE{lo:Int}{n:Nat}{g:TG}{tb:TS}{D:dU}{σ:St}{H:Hp}(a:Nat->St->Hp->Prop)(h:a 0 σ H)
  (f:∀i σ H,i<n->a i σ H->g (.int<|lo+i) σ H λσ2 H2=>tb {D with nx:=a<|i+1,ct:=a<|i+1,bk:=D.nx} σ2 H2) (hd:∀σ H,a n σ H->D.nx σ H):
  ∃W:Nat->Nat->St->Hp->Prop,(∃m,W 0 m σ H)/\∀i m σ H,W i m σ H->
   ((uA lo n).stop i H/\D.nx σ H)\/((uA lo n).go i H/\∃N:St->Hp->Prop,(∀σ' H',N σ' H'->∃m',m'<m/\W (i+1) m' σ' H')/\∀x H',(uA lo n).yld i H x H'->g x σ H' λσ2 H2=>tb {D with nx:=N,ct:=N,bk:=D.nx} σ2 H2):=by
 exists λi m σ H=>m=n-i/\i<=n/\a i σ H,⟨n,by simp,bO _,h⟩;rintro i m σ H ⟨rfl,hi,p⟩
 by_cases b:i<n
 .refine .inr ⟨b,a<|i+1,λσ' H' d=>⟨n-(i+1),by lia,rfl,b,d⟩,λx H' y=>?_⟩;obtain⟨e,y⟩:=y;subst e y;exact f i σ _ b p
 .have e:i=n:=by lia
  subst e;exact .inl ⟨aO _,hd σ H p⟩
def MX{c:TT}{tb:TS}{D:dU}{σ:St}{H:Hp}(a:St->Hp->Prop)(μ:St->Hp->Nat)(d:a σ H)
  (e:∀σ H,a σ H->c σ H λb H1=>if b=true then tb {D with nx:=λσ' H'=>a σ' H'/\μ σ' H'<μ σ H,ct:=λσ' H'=>a σ' H'/\μ σ' H'<μ σ H,bk:=D.nx} σ H1 else D.nx σ H1)
  (mono:∀σ H Q Q',(∀b H1,Q b H1->Q' b H1)->c σ H Q->c σ H Q'):UC c tb D σ H:=by
 exists λm σ H=>m=μ σ H/\a σ H,⟨_,rfl,d⟩;rintro m σ H ⟨rfl,p⟩;refine mono σ H _ _ (λb H1 q=>?_)<|e σ H p;cases b with
 | true=>exact⟨_,by rintro σ' H' ⟨f,l⟩;exact⟨_,l,rfl,f⟩,q⟩
 | false=>exact q
abbrev R2:=V->V->Hp->VK->Prop
def cN(X:Cx)(f:Value->Value->Sem Value)(r:R2):Prop:=
 ∀(pins:List (Addr×Obj))(s:Shared)(σ:St)(H:Hp)(x y:V)(v u:Value)(Q:VK),Inv X pins σ H s->RelV x v->RelV y u->r x y H Q->
  wpAny (model X.prog X.w) X.A (f v u) (EP X pins σ Q) X.xe s
def JF(X:Cx)(f:Value->Sem Value)(r:V->Hp->VK->Prop):Prop:=
 ∀(pins:List (Addr×Obj))(s:Shared)(σ:St)(H:Hp)(x:V)(v:Value)(Q:VK),Inv X pins σ H s->RelV x v->r x H Q->
  wpAny (model X.prog X.w) X.A (f v) (EP X pins σ Q) X.xe s
def CallR(X:Cx)(f:Value)(r:List V->Hp->VK->Prop):Prop:=
 ∀(pins:List (Addr×Obj))(s:Shared)(σ:St)(H:Hp)(xs:List V)(us:List Value)(Q:VK),Inv X pins σ H s->Vals xs us->r xs H Q->
  wpAny (model X.prog X.w) X.A (call f us) (EP X pins σ Q) X.xe s
def cJ(r:R2)(ta tb:TE):TE:=λσ H Q=>ta σ H λx H1=>tb σ H1 λy H2=>r x y H2 Q
def SR(r:V->Hp->VK->Prop)(ta:TE):TE:=λσ H Q=>ta σ H λx H1=>r x H1 Q
def rI(C:Int->Int->Prop)(g:Int->Int->V):R2:=λx y H Q=>∃i j,x=.int i/\y=.int j/\C i j/\Q (g i j) H
inductive PZ(g:Int->Int->V)(x y:V)(H:Hp)(Q:VK):Prop
 | mk(i j:Int)(h1:x=.int i)(h2:y=.int j)(q:Q (g i j) H):PZ g x y H Q
def iT(g:Int->Int->V):R2:=λx y H Q=>PZ g x y H Q
def rU(g:Int->V):V->Hp->VK->Prop:=λx H Q=>∃i,x=.int i/\Q (g i) H
section
variable{a b c:Expr}{ta tb tc:TE}{pos:Pos}
def rW(ha:PE X a ta)(i:PE X b tb){d:List (Addr×Obj)}{s:Shared}{σ:St}{H:Hp}{R:V->V->Hp->Prop}(I:Inv X d σ H s)
  (h:ta σ H λx H1=>tb σ H1 λy H2=>R x y H2) {Q:Vp} {f:Value->Value->Sem Value}
  (e:∀v u s2 x y H2,Inv X d σ H2 s2->RelV x v->RelV y u->R x y H2->wpAny (model X.prog X.w) X.A (f v u) Q X.xe s2):
  wpAny (model X.prog X.w) X.A (eval a X.env) (λv n=>wpAny (model X.prog X.w) X.A (eval b X.env) (λu r=>wpAny (model X.prog X.w) X.A (f v u) Q X.xe r) X.xe n) X.xe s:=by
 refine aS (ha d s σ H _ I h) ?_;rintro v z ⟨x,H1,q,o,p⟩;refine aS (i d z σ H1 _ q p) ?_;rintro u s2 ⟨y,H2,m,j,l⟩;exact e v u s2 x y H2 m o j l
def bV{d:Operator}{r:R2}(f:cN X (binaryOp d) r)(ha:PE X a ta)(e:PE X b tb):PE X (.BinOp a d b pos) (cJ r ta tb):=by
 intro l s σ H Q I h;exact wpAny_BinOp<|rW ha e I h λv u s2 x y H2 j m i q=>f l s2 σ H2 x y v u Q j m i q
def uR{b:UnaryOp}{r:V->Hp->VK->Prop}(j:JF X (unaryOp b) r)(ha:PE X a ta):PE X (.UnaryOp b a pos) (SR r ta):=by
 intro d s σ H Q I h;exact UnaryOp_ (aS (ha d s σ H _ I h) <| by rintro v l ⟨x,H1,i,e,f⟩;exact j d l σ H1 x v Q i e f)
def GU{f:Value->Value->Sem Value}{C:Int->Int->Prop}{g:Int->Int->Int}
  (rule:∀(i j:Int)(t u:Tok)(s:Shared)(Q:Vp)(E:Vp),C i j->Q (.int (g i j) s.toks) {s with toks:=s.toks+1}->wpAny (model X.prog X.w) X.A (f (.int i t)<|.int j u) Q E s):
  cN X f (rI C λi j=>.int<|g i j):=by
 intro e s σ H x y v u Q I d a h;obtain⟨i,j,rfl,rfl,b,q⟩:=h;obtain⟨t,rfl⟩:=d;obtain⟨t',rfl⟩:=a;exact rule i j t t' s _ _ b ⟨.int<|g i j,H,I.tok _,⟨_,rfl⟩,q⟩
def zE{f:Value->Value->Sem Value}{g:Int->Int->Int}
  (rule:∀(i j:Int)(t u:Tok)(s:Shared)(Q:Vp)(E:Vp),Q (.int (g i j) s.toks) {s with toks:=s.toks+1}->wpAny (model X.prog X.w) X.A (f (.int i t)<|.int j u) Q E s):
  cN X f (iT λi j=>.int<|g i j):=by
 intro d s σ H x y v u Q I b a h;obtain⟨i,j,rfl,rfl,q⟩:=h;obtain⟨t,rfl⟩:=b;obtain⟨t',rfl⟩:=a;exact rule i j t t' s _ _ ⟨.int<|g i j,H,I.tok _,⟨_,rfl⟩,q⟩
def qZ{f:Value->Value->Sem Value}{g:Int->Int->Bool}
  (rule:∀(i j:Int)(t u:Tok)(s:Shared)(Q:Vp)(E:Vp),Q (.bool<|g i j) s->wpAny (model X.prog X.w) X.A (f (.int i t)<|.int j u) Q E s):
  cN X f (iT λi j=>.bl<|g i j):=by
 intro d s σ H x y v u Q I b a h;obtain⟨i,j,rfl,rfl,q⟩:=h;obtain⟨t,rfl⟩:=b;obtain⟨t',rfl⟩:=a;exact rule i j t t' s _ _ ⟨.bl<|g i j,H,I,rfl,q⟩
def KJ(i j:Int):Prop:=0<j/\j<1073741824
def LP(i j:Int):Prop:=0<=j/\j<=1000000/\i.natAbs<2 ^ 64
def CMul(i j:Int):Prop:=(-(2 ^ 64)<i/\i<2 ^ 64)\/(-(2 ^ 64)<j/\j<2 ^ 64)
def CMul.ok{i j:Int}(h:CMul i j):IntMulOk i j:=by
 rcases h with ⟨h1,h2⟩ | ⟨h1,h2⟩
 .exact .of_left<|intBits_le_64 h1 h2
 .exact .of_right<|intBits_le_64 h1 h2
def jN:cN X (binaryOp .Add) (iT λi j=>.int<|i+j):=zE λ_ _ _ _ _ _ _ q=>add_int q
def pH:cN X (binaryOp .Sub) (iT λi j=>.int<|i-j):=zE λ_ _ _ _ _ _ _ q=>sub_int q
def rH:cN X (binaryOp .Mult) (rI CMul λi j=>.int<|i*j):=GU λ_ _ _ _ _ _ _ a q=>mul_int q a.ok
def zJ:cN X (binaryOp .FloorDiv) (rI KJ λi j=>.int<|i / j):=GU λi j _ _ _ _ _ a q=>by
 have h1:(0:Int)<j:=a.1;have h2:j<1073741824:=a.2;exact floordiv_int (by lia) (by rw[Int.fdiv_eq_ediv_of_nonneg i<|by lia];exact q) (.inl<|PyProof.noPylong_small<|by lia)
def tL:cN X (binaryOp .Mod) (rI (λ_ j=>0<j) λi j=>.int<|i % j):=GU λi j _ _ _ _ _ a q=>by
 have h1:(0:Int)<j:=a;exact mod_int' (by lia) (by rw[Int.fmod_eq_emod_of_nonneg i<|by lia];exact q)
def qX:cN X (binaryOp .Pow) (rI LP λi j=>.int<|i ^ j.toNat):=GU λ_ _ _ _ _ _ _ a q=>pow_int_small a.1 a.2.1 a.2.2 q
def Hs{f:Value->Sem Value}{g:Int->Int}
  (rule:∀(i:Int)(t:Tok)(s:Shared)(Q:Vp)(E:Vp),Q (.int (g i) s.toks) {s with toks:=s.toks+1}->wpAny (model X.prog X.w) X.A (f<|.int i t) Q E s):
  JF X f (rU λi=>.int<|g i):=by
 intro b s σ H x v Q I a h;obtain⟨i,rfl,q⟩:=h;obtain⟨t,rfl⟩:=a;exact rule i t s _ _ ⟨.int<|g i,H,I.tok _,⟨_,rfl⟩,q⟩
def sG:JF X (unaryOp .USub) (rU λi=>.int<|-i):=Hs λ_ _ _ _ _ q=>neg_int q
end
def xX:V->V->Bool
 | .non,.non=>true | .non,.int _=>true | .int _,.non=>true | .non,.bl _=>true | .bl _,.non=>true | .non,.str _=>true | .str _,.non=>true
 | .int _,.int _=>true | .bl _,.bl _=>true | .str _,.str _=>true | .byt _,.byt _=>true
 | .int _,.str _=>true | .str _,.int _=>true | .bl _,.str _=>true | .str _,.bl _=>true
 | _,_=>false
inductive xY(x y:V)(H:Hp)(Q:VK):Prop
 | mk(h:xX x y=true)(q:Q (.bl<|decide<|x=y) H):xY x y H Q
def nU:R2:=λx y H Q=>xY x y H Q
inductive zP(x y:V)(H:Hp)(Q:VK):Prop
 | mk(h:xX x y=true)(q:Q (.bl<|!decide (x=y)) H):zP x y H Q
def ZH:R2:=λx y H Q=>zP x y H Q
def OL{i j:Int}:decide (V.int i=V.int j)=(i == j):=by
 rw[mS];simp
def SZ{i j:Bool}:decide (V.bl i=V.bl j)=(i == j):=by
 rw[mS];simp
def QU{i j:Str}:decide (V.str i=V.str j)=(i == j):=by
 rw[mS];simp
def RJ{i j:Array UInt8}:decide (V.byt i=V.byt j)=(i.toList == j.toList):=by
 rw[mS];cases i;cases j;simp
section
variable{a b c:Expr}{ta tb tc:TE}{pos:Pos}
def eG{b:List (Addr×Obj)}{σ:St}{H:Hp}{s:Shared}{Q:VK}{k a:Bool}(I:Inv X b σ H s)(q:Q (.bl k) H)(e:k=a):EP X b σ Q (.bool a) s:=by
 subst e;exact⟨.bl k,H,I,rfl,q⟩
def iL:cN X (compareOp .Eq) nU:=by
 intro e s σ H x y v u Q I d a h;obtain⟨b,q⟩:=h;cases x with
 | non=>
  cases d;cases y with
  | non=>cases a;exact PySem.EqNone.eq_none_none (eG I q<|by simp)
  | bl j=>cases a;exact PySem.EqNone.eq_none_bool (eG I q<|by simp)
  | int j=>obtain⟨t',rfl⟩:=a;exact PySem.EqNone.eq_none_int (eG I q<|by simp)
  | str j=>obtain⟨t',rfl⟩:=a;exact PySem.EqNone.eq_none_str (eG I q<|by simp)
  | _=>exact absurd (show false=true from b) cA
 | bl i=>
  cases d;cases y with
  | non=>cases a;exact PySem.EqNone.eq_bool_none (eG I q<|by simp)
  | bl j=>cases a;exact eq_bool<|eG I q SZ
  | str j=>obtain⟨t',rfl⟩:=a;exact PySem.EqMixed.eq_bool_str (eG I q<|by simp)
  | _=>exact absurd (show false=true from b) cA
 | int i=>
  obtain⟨t,rfl⟩:=d;cases y with
  | non=>cases a;exact PySem.EqNone.eq_int_none (eG I q<|by simp)
  | int j=>obtain⟨t',rfl⟩:=a;exact eq_int<|eG I q OL
  | str j=>obtain⟨t',rfl⟩:=a;exact PySem.EqMixed.eq_int_str (eG I q<|by simp)
  | _=>exact absurd (show false=true from b) cA
 | str i=>
  obtain⟨t,rfl⟩:=d;cases y with
  | non=>cases a;exact PySem.EqNone.eq_str_none (eG I q<|by simp)
  | bl j=>cases a;exact PySem.EqMixed.eq_str_bool (eG I q<|by simp)
  | int j=>obtain⟨t',rfl⟩:=a;exact PySem.EqMixed.eq_str_int (eG I q<|by simp)
  | str j=>obtain⟨t',rfl⟩:=a;exact eq_str<|eG I q QU
  | _=>exact absurd (show false=true from b) cA
 | byt i=>
  obtain⟨t,rfl⟩:=d;cases y with
  | byt j=>obtain⟨t',rfl⟩:=a;exact PySem.W.eq_bytes<|eG I q RJ
  | _=>exact absurd (show false=true from b) cA
 | _=>cases y <;> exact absurd (show false=true from b) cA
def yP:cN X (compareOp .NotEq) ZH:=by
 intro e s σ H x y v u Q I d a h;obtain⟨b,q⟩:=h;cases x with
 | non=>
  cases d;cases y with
  | non=>cases a;exact PySem.EqNone.ne_none_none (eG I q<|by simp)
  | bl j=>cases a;exact PySem.EqNone.ne_none_bool (eG I q<|by simp)
  | int j=>obtain⟨t',rfl⟩:=a;exact PySem.EqNone.ne_none_int (eG I q<|by simp)
  | str j=>obtain⟨t',rfl⟩:=a;exact PySem.EqNone.ne_none_str (eG I q<|by simp)
  | _=>exact absurd (show false=true from b) cA
 | bl i=>
  cases d;cases y with
  | non=>cases a;exact PySem.EqNone.ne_bool_none (eG I q<|by simp)
  | bl j=>cases a;exact ne_bool<|eG I q<|cR not SZ
  | str j=>obtain⟨t',rfl⟩:=a;exact PySem.EqMixed.ne_bool_str (eG I q<|by simp)
  | _=>exact absurd (show false=true from b) cA
 | int i=>
  obtain⟨t,rfl⟩:=d;cases y with
  | non=>cases a;exact PySem.EqNone.ne_int_none (eG I q<|by simp)
  | int j=>obtain⟨t',rfl⟩:=a;exact ne_int<|eG I q<|cR not OL
  | str j=>obtain⟨t',rfl⟩:=a;exact PySem.EqMixed.ne_int_str (eG I q<|by simp)
  | _=>exact absurd (show false=true from b) cA
 | str i=>
  obtain⟨t,rfl⟩:=d;cases y with
  | non=>cases a;exact PySem.EqNone.ne_str_none (eG I q<|by simp)
  | bl j=>cases a;exact PySem.EqMixed.ne_str_bool (eG I q<|by simp)
  | int j=>obtain⟨t',rfl⟩:=a;exact PySem.EqMixed.ne_str_int (eG I q<|by simp)
  | str j=>obtain⟨t',rfl⟩:=a;exact ne_str<|eG I q<|cR not QU
  | _=>exact absurd (show false=true from b) cA
 | byt i=>
  obtain⟨t,rfl⟩:=d;cases y with
  | byt j=>obtain⟨t',rfl⟩:=a;exact PySem.W.ne_bytes<|eG I q<|cR not RJ
  | _=>exact absurd (show false=true from b) cA
 | _=>cases y <;> exact absurd (show false=true from b) cA
def vL:cN X (compareOp .Lt) (iT λi j=>.bl<|decide<|i<j):=qZ λ_ _ _ _ _ _ _ q=>lt_int q
def mR:cN X (compareOp .Gt) (iT λi j=>.bl<|decide<|j<i):=qZ λ_ _ _ _ _ _ _ q=>gt_int q
def zO:cN X (compareOp .GtE) (iT λi j=>.bl<|decide<|j<=i):=qZ λ_ _ _ _ _ _ _ q=>ge_int q
def cO(b:Expr){a:CmpOp}(h:a≠.In:=by decide)(h2:a≠.NotIn:=by decide):behindInMarks a b=false:=by
 have d:(a == CmpOp.In)=false:=by cases a <;> first | rfl | exact absurd rfl h
 have e:(a == CmpOp.NotIn)=false:=by cases a <;> first | rfl | exact absurd rfl h2
 cases b <;> simp[behindInMarks,d,e]
def pL{d:CmpOp}{r:R2}(f:cN X (compareOp d) r)(ha:PE X a ta)(e:PE X b tb)(l:behindInMarks d b=false):PE X (.Compare a [d] [b] pos) (cJ r ta tb):=by
 intro m s σ H Q I h;exact wpAny_Compare1 (rW ha e I h λv u s2 x y H2 j n i q=>f m s2 σ H2 x y v u Q j n i q) l
def gH(t:TE):TT:=λσ H Q=>t σ H λx H1=>vH x H1 Q
def cB{d:CmpOp}{r:R2}(m:cN X (compareOp d) r)(ha:PE X a ta)(j:PE X b tb)(q:behindInMarks d b=false):PT X (.Compare a [d] [b] pos) (gH<|cJ r ta tb):=by
 intro f s σ H Q I h;refine wpAny_isTrue_Compare1 (aS (ha f s σ H _ I h) λv C ⟨x,H1,A,p,w⟩=>aS (j f C σ H1 _ A w) λu s2 ⟨y,H2,o,l,n⟩=>
  aS (m f s2 σ H2 x y v u _ o p l n) λc s3 ⟨z,H3,E,B,k,e,i⟩=>?_) q
 subst e;cases B;exact zZ ⟨H3,E,i⟩
def oO:(sizeLine:Nat)<2 ^ 63:=by rw[kR];decide
def ED:cN X (binaryOp .Add) (λx y H Q=>∃i j,x=.str i/\y=.str j/\↑i+↑j<=sizeLine/\Q (.str<|i++j) H):=by
 intro d s σ H x y v u Q I b a h;obtain⟨i,j,rfl,rfl,hz,q⟩:=h;obtain⟨t,rfl⟩:=b;obtain⟨t',rfl⟩:=a;exact add_str (λt' tk=>⟨.str<|i++j,H,I.tok _,⟨_,rfl⟩,q⟩) hz
def gY{x:V}{a:List Value}(r:Vals [x] a):∃u,a=[u]/\RelV x u:=by
 cases r with
 | cons r1 r2=>cases r2;exact⟨_,rfl,r1⟩
def qO{x y:V}{a:List Value}(r:Vals [x,y] a):∃u w',a=[u,w']/\RelV x u/\RelV y w':=by
 cases r with
 | cons r1 r2=>
  cases r2 with
  | cons r3 r4=>cases r4;exact⟨_,_,rfl,r1,r3⟩
def YB:CallR X (.builtin "abs") (λxs H Q=>∃i,xs=[.int i]/\Q (.int<|if i<0 then -i else i) H):=by
 intro a s σ H xs b Q I r h;obtain⟨i,rfl,q⟩:=h;obtain⟨u,rfl,t,rfl⟩:=gY r;exact call_abs_int λu tk=>⟨.int (if i<0 then -i else i),H,I.tok _,⟨_,rfl⟩,q⟩
def Fc(b:X.calm=true):CallR X (.builtin "max") (λxs H Q=>∃i j,xs=[.int i,.int j]/\Q (.int<|if j > i then j else i) H):=by
 intro e s σ H xs d Q I r h;obtain⟨i,j,rfl,q⟩:=h;obtain⟨u,f,rfl,⟨t,rfl⟩,⟨t',rfl⟩⟩:=qO r;refine max_two_ints (I.ok.hd b) λh' tk k=>⟨_,H,I.kept k,?_,q⟩
 by_cases a:j > i
 .rw[aR a,aR a];exact⟨_,rfl⟩
 .rw[aK a,aK a];exact⟨_,rfl⟩
def Cr(b:X.calm=true):CallR X (.builtin "min") (λxs H Q=>∃i j,xs=[.int i,.int j]/\Q (.int<|if j<i then j else i) H):=by
 intro e s σ H xs d Q I r h;obtain⟨i,j,rfl,q⟩:=h;obtain⟨u,f,rfl,⟨t,rfl⟩,⟨t',rfl⟩⟩:=qO r;refine min_two_ints (I.ok.hd b) λh' tk k=>⟨_,H,I.kept k,?_,q⟩
 by_cases a:j<i
 .rw[aR a,aR a];exact⟨_,rfl⟩
 .rw[aK a,aK a];exact⟨_,rfl⟩
def FZ:CallR X (.type "int") (λxs H Q=>(∃i,xs=[.int i]/\Q (.int i) H)\/∃k,xs=[.bl k]/\Q (.int<|if k then 1 else 0) H):=by
 intro b s σ H xs d Q I r h;rcases h with ⟨i,rfl,q⟩ | ⟨k,rfl,q⟩
 .obtain⟨u,rfl,t,rfl⟩:=gY r;exact call_int_int ⟨.int i,H,I,⟨_,rfl⟩,q⟩
 .obtain⟨u,rfl,a⟩:=gY r;cases a;exact call_int_bool ⟨.int (if k then 1 else 0),H,I.tok _,⟨_,rfl⟩,q⟩
end
section
variable{K:Fg}{x dx C f:Addr}{mA:Str->Option Value}{name:Str}{v:Value}
end
def RelO.some_of{v:V}{o:Option Value}(r:RelO (some v) o):∃u,o=some u/\RelV v u:=by
 cases o with
 | none=>exact(show False from r).elim
 | some u=>exact⟨u,rfl,r⟩
section
variable{P:Program}{w:World}{H H':Hp}{h h':Heap}{a C dx:Addr}{fs fs':List (Str×V)}
end
structure Ib(K:Fg)(C:Addr):Prop where
 pg:PySem.W.plainGet K C Str.empty=true
 hd:PySem.W.hasDictIn K C=true
 po:PySem.W.plainOver K C=true
 sa:PySem.W.findIn K (.ref C) "__setattr__"=some (some<|.builtin "object.__setattr__")
section
variable{pins:List (Addr×Obj)}{σ:St}{H:Hp}{s:Shared}{a C dx:Addr}{fs:List (Str×V)}{f:Str}{v:V}{A:Around}{E:Vp}
def Inv.made(I:Inv X pins σ H s):Inv X pins σ (aA (aA H s⁻¹<|.own<|s⁻¹+1) (s⁻¹+1)<|.ins C s⁻¹ [])
  {s with heap:=(s.heap.push PySem.W.emptyDict).push<|PySem.W.instObj C s⁻¹}:=by
 have d:(s.heap.push PySem.W.emptyDict).get? s⁻¹=some PySem.W.emptyDict:=bY s.heap rfl;have j:((s.heap.push PySem.W.emptyDict).push<|PySem.W.instObj C s⁻¹).get? (s⁻¹+1)=some (PySem.W.instObj C s⁻¹):=by
  have:=bY (s.heap.push PySem.W.emptyDict) (o:=PySem.W.instObj C s⁻¹) rfl;rwa [jU]at this
 have l:(s.heap.push PySem.W.emptyDict).Ns s⁻¹ (λ_=>none):=⟨PySem.W.emptyDict,#[],_,d,rfl,(λe i=>absurd i<|by simp),λ_=>rfl⟩;have f:=I.laid (a:=s⁻¹) (o:=.own<|s⁻¹+1) (h':=s.heap.push PySem.W.emptyDict) (t':=s.toks) (λb u q=>aZ _ q) (aO _) ⟨_,d⟩;refine f.laid (a:=s⁻¹+1) (o:=.ins C s⁻¹ []) (t':=s.toks) (λb u q=>aZ _ q) (Nat.le_of_eq<|jU _ _) ?_;have ne:s⁻¹≠s⁻¹+1:=bI<|oB _;refine⟨by rw[aI ne,aE],bO _,ne,j,λ_=>none,(Heap.Ns1.of_empty l).at λo q=>aZ _ q,λ_=>jG,λy h=>absurd rfl h⟩
end
section
variable{o e value:Expr}{f:Str}{pos pos' tpos:Pos}{ta tv:TE}
end
section
variable{pins:List (Addr×Obj)}{σ:St}{H:Hp}{s:Shared}{A:Around}{E:Vp}{Q:Vp}{c:Value}{b:Bool}
end
structure Room(k:Nat)(A:Around):Prop where
 hd:A.handled=none
 dp:A.depth+3*k+5<recursionLimit
 un:A.units+16*k+200<cLine
theorem Room.deeper{k:Nat}{A:Around}(r:Room (k+1) A)(env:Env):Room k (A.deeper env):=
 ⟨r.hd,by have:=r.dp;show A.depth+1+3*k+5<_;lia,by have:=r.un;show A.units+3+16*k+200<_;lia⟩
theorem Room.in1{k:Nat}{A:Around}(r:Room (k+1) A):Room k A.in1:=
 ⟨r.hd,by have:=r.dp;show A.depth+3*k+5<_;lia,by have:=r.un;show A.units+1+16*k+200<_;lia⟩
theorem Room.depth{k:Nat}{A:Around}(r:Room k A):A.depth<recursionLimit:=by have:=r.dp;lia
theorem Room.units{k:Nat}{A:Around}(r:Room k A):A.units+64<cLine:=by have:=r.un;lia
def aY:TA:=λ_ H Q=>Q [] H
def bG(ta:TE)(tr:TA):TA:=λσ H Q=>ta σ H λx H1=>tr σ H1 λxs H2=>Q (x::xs) H2
section
variable{e:Expr}{es:List Expr}{te:TE}{t:TA}{pos:Pos}
def aF:PA X [] aY:=λ_ _ _ _ H Q I h=>pF ⟨[],H,I,.nil,h⟩
def aC(ha:PE X e te)(i:PA X es t)(m:starEach (e::es) X.env=(false,eval e X.env)::starEach es X.env:=by rfl):PA X (e::es) (bG te t):=by
 intro pos a s σ H Q I h;rw[m];show wpAny _ _ (spliced<|(false,eval e X.env)::backTo pos (starEach es X.env)) _ _ s;refine kP<|aS (ha a s σ H _ I h) ?_;rintro u o ⟨x,H1,n,j,l⟩;exact aS (i pos a o σ H1 _ n l) <| by rintro p s2 ⟨xs,H2,f,b,d⟩;exact⟨x::xs,H2,f,.cons j b,d⟩
inductive TB(xs:List V)(H:Hp)(Q:VK):Prop
 | mk(h:↑xs<=sizeLine)(q:∀p,H p=none->Q (.ref p) (aA H p<|.tup xs)):TB xs H Q
def gD(t:TA):TE:=λσ H Q=>t σ H λxs H1=>TB xs H1 Q
inductive OV(xs:List V)(H:Hp)(Q:VK):Prop
 | mk(h:↑xs<=sizeLine)(q:∀p,H p=none->Q (.ref p) (aA H p<|.lst xs)):OV xs H Q
def lN(t:TA):TE:=λσ H Q=>t σ H λxs H1=>OV xs H1 Q
def dQ{x1}(h:PA X es t):PE X (.Tuple es x1 pos) (gD t):=by
 intro l s σ H Q I j;refine wpAny_Tuple_spliced<|aS (h pos l s σ H _ I j) λi a ⟨xs,H1,d,r,z,q⟩=>⟨by rw[<-↑r];exact z,?_⟩;have f:H1 a⁻¹=none:=d.hok.fresh<|aO _;refine⟨.ref a⁻¹,aA H1 a⁻¹<|.tup xs,d.laid (t':=a.toks) (λb u e=>aZ _ e) (aO _) ?_,rfl,q _ f⟩;exact⟨⟨z,_,bY _ rfl,rfl⟩,i,r,⟨_,bY _ rfl,rfl,_,rfl⟩⟩
def cS(h:PA X es t):PE X (.List es pos) (lN t):=by
 intro l s σ H Q I j;refine wpAny_List_spliced<|aS (h pos l s σ H _ I j) λi a ⟨xs,H1,d,r,z,q⟩=>⟨by rw[<-↑r];exact z,?_⟩;have f:H1 a⁻¹=none:=d.hok.fresh<|aO _;refine⟨.ref a⁻¹,aA H1 a⁻¹<|.lst xs,d.laid (t':=a.toks) (λb u e=>aZ _ e) (aO _) ?_,rfl,q _ f⟩;exact⟨z,i,0,r,bY _ rfl⟩
end
abbrev Sp:=List V->Hp->VK->XK->Prop
abbrev lC:=List Env->Hp->Shared->XK->Value->Shared->Prop
structure Env0(P:Program)(w:World)(K:Fg)(mg:Str->Option Value)(base:Heap)(A:Around)(outer:List Env)(s:Shared)(H:Hp):Prop where
 frames:A.frames=some outer
 mod:Mod K mg base
 bs:∀b o,base.get? b=some o->s.heap.get? b=some o/\H b=none
 bsz:base.objs.size<=s⁻¹
 funs:s.heap.FunFrames base outer
 frf:∀b∈mK outer,H b=none
 hok:HOk P w H s.heap
 bare:AllBare s.gens
def CE(outer:List Env)(P:Program)(w:World)(H:Hp)(s:Shared)(Q:VK)(u:Value)(s':Shared):Prop:=
 ∃v H',s'.os=s.os/\AllBare s'.gens/\Un (mK outer) [] H H' s.heap s'.heap/\HOk P w H' s'.heap/\RelV v u/\Q v H'
def CR(CX:lC)(outer:List Env)(P:Program)(w:World)(H:Hp)(s:Shared)(Q:VK)(E:XK)(r:Result)(s':Shared):Prop:=
 match r with
 | .ok (.ret u)=>CE outer P w H s Q u s'
 | .ok _=>False
 | .error e=>CX outer H s E e s'
structure bB(P:Program)(w:World)(K:Fg)(mg:Str->Option Value)(base:Heap)(CX:lC)(k:Nat)(f:Addr)(fd:FuncData)(ps:List Str)(sp:Sp):Prop where
 len:∀vs H Q E,sp vs H Q E->↑vs=↑ps
 run:∀(A:Around)(outer:List Env)(s:Shared)(H:Hp)(args:Args)(us:List Value)(vs:List V)(Q:VK)(E:XK),Room k A->Env0 P w K mg base A outer s H->BindsTo s fd args (ps.zip us)->Vals vs us->sp vs H Q E->
  codeAny (model P w) A (.call (.ref f) args) (CR CX outer P w H s Q E) s
theorem Env0.in1{P:Program}{w:World}{K:Fg}{mg:Str->Option Value}{base:Heap}{A:Around}{outer:List Env}{s:Shared}{H:Hp}(e:Env0 P w K mg base A outer s H):
  Env0 P w K mg base A.in1 outer s H:=⟨e.frames,e.mod,e.bs,e.bsz,e.funs,e.frf,e.hok,e.bare⟩
section
variable{pins:List (Addr×Obj)}{σ:St}{H:Hp}{s s':Shared}
def Inv.env0(I:Inv X pins σ H s):Env0 X.prog X.w X.K X.mg X.base X.A X.stack s H:=
 ⟨I.ok.frames,I.ok.mod,I.bs,fI I.ok.bsz I.sz,I.stack,I.stkFree,I.hok,I.bare⟩
def Inv.after{Q:VK}{u:Value}(I:Inv X pins σ H s)(h:CE X.stack X.prog X.w H s Q u s'):EP X pins σ Q u s':=by
 obtain⟨v,H',os,a,un,e,r,q⟩:=h;obtain⟨i,g,d,t,f⟩:=s';obtain rfl:f=s.os:=os;exact⟨v,H',I.call (h':=i) (g':=g) (d':=d) (t':=t) (ch:=[]) un e a (λb z=>absurd z<|by simp),r,q⟩
end
def fZ(sp:Sp)(dvs:List V)(E:XK)(t:TA):TE:=λσ H Q=>t σ H λvs H1=>sp (vs++dvs) H1 Q E
def Binds(K:Fg)(fd:FuncData)(ps:List Str)(ds:List Value):Prop:=
 ∀(s:Shared)(us:List Value),K.In s.heap->↑(us++ds)=↑ps->BindsTo s fd ⟨us,[]⟩ (ps.zip<|us++ds)
def Binds.all{K:Fg}{fd:FuncData}{ps:List Str}(h:∀a:List Value,↑a=↑ps->bindArgs fd ⟨a,[]⟩=pure (ps.zip a)):Binds K fd ps []:=λs a _ hl=>by
 rw[iA]at hl ⊢;exact .of_eq<|h a hl
def JN(CX:lC)(X:Cx)(E:XK):Prop:=∀(pins:List (Addr×Obj))(σ:St)(H:Hp)(s:Shared)(e:Value)(s':Shared),Inv X pins σ H s->CX X.stack H s E e s'->X.xe e s'
section
variable{CX:lC}{k:Nat}{f C:Addr}{fd:FuncData}{ps:List Str}{sp:Sp}{dvs:List V}{ds:List Value}{E:XK}{x m:Str}{p pos apos:Pos}{e o:Expr}{es:List Expr}{ta:TE}{t:TA}
def rS{i:List (Addr×Obj)}{σ:St}{H:Hp}{s:Shared}{Q:VK}{a:List Value}{d:List V}(F:bB X.prog X.w X.K X.mg X.base CX k f fd ps sp)(l:Room k X.A)(n:Binds X.K fd ps ds)(hd:Vals dvs ds)(m:JN CX X E)
  (I:Inv X i σ H s) (r:Vals d a) (h:sp (d++dvs) H Q E):wpAny (model X.prog X.w) X.A (call (.ref f) a) (EP X i σ Q) X.xe s:=by
 have j:Vals (d++dvs) (a++ds):=r.append hd;have hl:↑(a++ds)=↑ps:=by rw[<-↑j];exact F.len _ _ _ _ h
 refine wpAny_call<|codeAny_mono (F.run X.A X.stack s H ⟨a,[]⟩ (a++ds) (d++dvs) Q E l I.env0 (n s a I.kIn hl) j h) λr s' b=>?_;cases r with
 | error e=>exact m i σ H s e s' I b
 | ok fl=>
  cases fl with
  | ret u=>exact I.after b
  | next=>exact False.elim b
  | brk=>exact False.elim b
  | cont=>exact False.elim b
def Cd(F:bB X.prog X.w X.K X.mg X.base CX k f fd ps sp)(u:Room k X.A)(b:Gl X x)(l:X.mg x=some (.ref f))(d:PySem.W.keepIn X.K (.ref f)=true)(i:Binds X.K fd ps ds)(hd:Vals dvs ds)(m:JN CX X E)
  (ha:PA X (e::es) t) (a1:(x == ("__debug__":Str))=false:=by decide) (o:starEach (e::es) X.env=(false,eval e X.env)::starEach es X.env:=by rfl) (j:(backTo pos<|starEach es X.env).any (·.1)=false:=by rfl):
  PE X (.Call (.Name x p) (e::es) [] pos) (fZ sp dvs E t):=by
 intro n s σ H Q I h;refine AT<|PL I b l ?_ a1;refine PySem.W.callWith_K (h₀:=X.base) I.ok.mod.kin d (aS (ha pos n s σ H _ I h) λz B ⟨v,H1,a,r,q⟩=>⟨a.kIn,?_⟩) o j;exact rS F u i hd m a r q
end
section
variable{CX:lC}{k:Nat}{f C:Addr}{fd:FuncData}{ps ks:List Str}{sp:Sp}{E:XK}{x m:Str}{p pos apos kpos:Pos}{e o:Expr}{es:List Expr}{kws:List Keyword}{te ta:TE}{t tk:TA}{nm:Option Str}
variable{g:List Value->List Value->List Value}{gV:List V->List V->List V}
end
structure cU(N P:List Str)(sc:Scope):Prop where
 kind:sc.kind=.function
 co:sc.isCoroutine=false
 gen:sc.isGenerator=false
 nd:N.Nodup
 pre:N.take P.length=P
 par:∀x∈P,sc.names.lookup x=some .local\/sc.names.lookup x=some .cell
 nofree:∀y∈sc.names,y.2≠.free
theorem NR{kindOf:Str->Option NameKind}{x:Str}:∀{binds:List (Str×Value)}{m:Str->Option Value},(∀v,(x,v)∉binds)->bindL kindOf binds m x=m x
 | [],_,_=>rfl
 | (n,v)::r,m,h=>by
  unfold bindL;rw[NR λw a=>h w<|iH _ a]
  split
  .have:x≠n:=by rintro rfl;exact h v rV
   simp[this]
  .rfl
theorem VY{kindOf:Str->Option NameKind}{x:Str}:∀{binds:List (Str×Value)}{m:Str->Option Value},(∀v,(x,v)∉binds)->bindC kindOf binds m x=m x
 | [],_,_=>rfl
 | (n,v)::r,m,h=>by
  unfold bindC;rw[VY λw a=>h w<|iH _ a]
  split
  .rfl
  .have:x≠n:=by rintro rfl;exact h v rV
   simp[this]
theorem RE{kindOf:Str->Option NameKind}{x:Str}{v:Value}:∀{P:List Str}{a:List Value}{i:Nat}{m:Str->Option Value},P.Nodup->P[i]?=some x->a[i]?=some v->kindOf x=some .local->
  bindL kindOf (P.zip a) m x=some v
 | [],_,_,_,_,h,_,_=>by simp at h
 | _::_,[],_,_,_,_,h,_=>by simp at h
 | p::P,w::a,0,m,nd,h1,h2,hk=>by
  simp at h1 h2;subst h1;subst h2;show bindL kindOf ((p,w)::P.zip a) m p=_;unfold bindL;rw[NR λv b=>(vq2.mp nd).1 (xC b).1,aR hk];simp
 | p::P,w::a,i+1,m,nd,h1,h2,hk=>by
  show bindL kindOf ((p,w)::P.zip a) m x=_;unfold bindL;exact RE (i:=i) (vq2.mp nd).2 (by simpa using h1) (by simpa using h2) hk
theorem SV{kindOf:Str->Option NameKind}{x:Str}{v:Value}:∀{P:List Str}{a:List Value}{i:Nat}{m:Str->Option Value},P.Nodup->P[i]?=some x->a[i]?=some v->kindOf x≠some .local->
  bindC kindOf (P.zip a) m x=some v
 | [],_,_,_,_,h,_,_=>by simp at h
 | _::_,[],_,_,_,_,h,_=>by simp at h
 | p::P,w::a,0,m,nd,h1,h2,hk=>by
  simp at h1 h2;subst h1;subst h2;show bindC kindOf ((p,w)::P.zip a) m p=_;unfold bindC;rw[VY λv b=>(vq2.mp nd).1 (xC b).1,aK hk];simp
 | p::P,w::a,i+1,m,nd,h1,h2,hk=>by
  show bindC kindOf ((p,w)::P.zip a) m x=_;unfold bindC;exact SV (i:=i) (vq2.mp nd).2 (by simpa using h1) (by simpa using h2) hk
def start(N:List Str)(vs:List V):St:=vs.map some++List.replicate (N.length-↑vs) none
def iR(CX:lC)(P:Program)(w:World)(K:Fg)(mg:Str->Option Value)(base:Heap)(N:List Str)(qual:Str)(scope:Scope)(f:Addr)(cd:Value)(A:Around)(outer:List Env)(s:Shared)(H:Hp)(E:XK):Cx where
 prog:=P
 w:=w
 K:=K
 mg:=mg
 base:=base
 A:=A.deeper<|envOfC qual scope s⁻¹ f cd
 N:=N
 s₀:=s
 H₀:=H
 env:=envOfC qual scope s⁻¹ f cd
 outer:=outer
 stack:=envOfC qual scope s⁻¹ f cd::outer
 ex:=[]
 calm:=true
 fn:=λ_=>true
 pn:=[]
 xe:=λe s'=>wpAny (model P w) (A.deeper<|envOfC qual scope s⁻¹ f cd) (leaving (envOfC qual scope s⁻¹ f cd) e) (λ_ s''=>CX outer H s E e s'') (λe' s''=>CX outer H s E e' s'') s'
def OO{a:Scope}{n:Nat}{x:Str}(h:a.names.lookup x=some .cell):∃c,(cellsFrom n a.names []).lookup x=some c:=by
 have q:=PySem.W.cellsFrom_some a.names n []<|.inl h;exact ub6.mp q
def Cz{CX:lC}{P:Program}{w:World}{K:Fg}{mg:Str->Option Value}{base:Heap}{N ps:List Str}{d:Str}{scope:Scope}{f:Addr}{B:Value}{A:Around}{outer:List Env}{s I:Shared}{H:Hp}{E:XK}{C:List Value}{m:List V}
  (S:cU N ps scope) (hd:A.handled=none) (j:Env0 P w K mg base A outer s H) (hl:↑m=↑ps) (r:Vals m C)
  (x:InCallC s s⁻¹ (bindL (envOfC d scope s⁻¹ f B).kindOf (ps.zip C) λ_=>none) (cellsFrom (s⁻¹+1) scope.names []) (bindC (envOfC d scope s⁻¹ f B).kindOf (ps.zip C) λ_=>none) I):
  Inv (iR CX P w K mg base N d scope f B A outer s H E) [] (start N m) H I:=by
 have O:↑ps<=N.length:=by have:=cR List.length S.pre;rw[dI]at this;lia
 obtain⟨h1,tk,rfl,J⟩:=x.done;have G:∀b:Addr,b∉(iR CX P w K mg base N d scope f B A outer s H E).ex:=λb z=>absurd (show b∈([]:List Addr) from z) (by simp)
 exists ⟨j.mod,S.kind,rfl,rfl,aO _,λy z c h1 h2=>?_,λy l=>?_,λy c _ h=>?_,λ_=>hd,Around.frames_deeper j.frames,.inr ⟨rfl,rfl⟩,λb z=>absurd z<|G b,j.bs,j.bsz,λb _ _=>G b,λb z=>absurd z<|G b,j.funs,j.frf⟩,
  rfl,j.bare,Un.kept J,⟨_,x.toInCall.ns,λi y v h1 h2 T=>?_⟩,λy c h=>⟨_,x.cell y c h⟩,j.hok.fresh<|aO _,λy c h=>?_,λp o=>absurd (show p∈([]:List (Addr×Obj)) from o) (by simp),j.hok.kept J
 .exact name_of_addr x.apart (uJ h1)<|uJ h2
 .have l:scope.names.lookup y=some .cell\/scope.names.lookup y=some .free:=l;rcases l with l | l
  .exact OO l
  .exact absurd rfl<|S.nofree _<|uJ l
 .exact cM<|x.above y c<|uJ h
 .have hi:i<↑m:=by
   unfold start at h2
   by_cases hi:i<↑m
   .exact hi
   .rw[oG<|by simpa using hi]at h2;rw[List.getElem?_replicate]at h2
    split at h2 <;> cases h2
  have ha:m[i]?=some v:=by
   unfold start at h2;rw[nW (by simpa using hi),bD]at h2;cases e:m[i]? with
   | none=>rw[e]at h2;cases h2
   | some a=>rw[e]at h2;cases h2;rfl
  obtain⟨u,L,M⟩:=r.get ha;have o:ps[i]?=some y:=by
   rw[<-S.pre,GZ<|by lia];exact h1
  have a1:ps.Nodup:=by rw[<-S.pre];exact S.nd.sublist<|List.take_sublist _ _
  exists u,M;rcases S.par y (cX o)with k | k
  .exact .inl ⟨k,RE a1 o L k⟩
  .obtain⟨c,e⟩:=OO (n:=s⁻¹+1) k;refine .inr ⟨.inl k,c,e,?_⟩;have q:=x.cell y c e;rw[SV a1 o L (by show scope.names.lookup y≠_;rw[k];decide)]at q;exact q
 .exact j.hok.fresh<|cM<|x.above y c<|uJ h
 .unfold start;show _=N.length;rw[bL,aG,List.length_replicate];lia
def DX{CX:lC}{P:Program}{w:World}{K:Fg}{mg:Str->Option Value}{base:Heap}{k:Nat}{f:Addr}{name a:Str}{params:Arguments}{body:List Stmt}{scope:Scope}{L kV O z h ct oc:Value}{M od:Option Addr}
  {a7:Array (Option Value)} {N ps:List Str} {sp:Sp} (T:K.lookup f=some ⟨oc,od,.func<|PySem.W.fnOf name a params body scope L kV O z M h ct,a7⟩) (a8:PySem.W.codeIn K h a=true) (S:cU N ps scope)
  (len:∀d H Q E,sp d H Q E->↑d=↑ps)
  (a1:∀(A:Around)(outer:List Env)(s:Shared)(H:Hp)(d:List V)(Q:VK)(E:XK),Room k (A.deeper<|envOfC a scope s⁻¹ f h)->sp d H Q E-> ∃t,PSs (iR CX P w K mg base N a scope f h A outer s H E) body t/\t {nx:=λ_ H'=>Q .non H',rt:=Q} (start N d) H):
  bB P w K mg base CX (k+1) f (PySem.W.fnOf name a params body scope L kV O z M h ct) ps sp:=by
 refine⟨len,λA outer s H args Y d Q E m j hb r p=>?_⟩;have hl:=len _ _ _ _ p;have G:K.In s.heap:=j.mod.kin.keeps λb o e=>(j.bs b o e).1;have X:s.heap.NoLimit:=j.mod.nolimit.keeps λb o e=>(j.bs b o e).1;have a2:∀y∈ps.zip Y,scope.names.lookup y.1=some .local\/(scope.names.lookup y.1=some .cell/\((cellsFrom (s⁻¹+1) scope.names []).lookup y.1).isSome=true):=by
  rintro⟨n,v⟩ hy;rcases S.par n (xC hy).1 with q | q
  .exact .inl q
  .exact .inr ⟨q,PySem.W.cellsFrom_some _ _ _<|.inl q⟩
 refine codeAny_call_function m.depth (G _ _ T) rfl S.co S.gen rfl (PySem.W.codeRec_of G a8)<|hb _ _ _ _ ?_;refine wpAny_newFunctionEnv_cells S.kind a2 λenv he C x=>?_;subst he;refine⟨X.keeps x.toInCall.keep,codeAny_func ?_⟩;obtain⟨t,ht,hq⟩:=a1 A outer s H d Q E (m.deeper _) p;have I:Inv (iR CX P w K mg base N a scope f h A outer s H E) [] (start N d) H C:=Cz S m.hd j hl r x;refine fM (ht [] C (start N d) H _ I hq) (λZ s' i=>?_) λe s' i=>i;have B:∀{σ':St}{H':Hp}{v:V}{u:Value},Inv (iR CX P w K mg base N a scope f h A outer s H E) [] σ' H' s'->RelV v u->Q v H'->CE outer P w H s Q u s':=
  λ{σ' H' v u} J l q=>⟨v,H',J.os,J.bare,J.base,J.hok,l,q⟩
 cases Z with
 | ret u=>
  obtain⟨v,σ',H',J,l,q⟩:=i;exact B J l q
 | next=>
  obtain⟨σ',H',J,q⟩:=i;exact B (v:=V.non) (u:=Value.none) J rfl q
 | brk=>
  obtain⟨_,_,_,q⟩:=i;exact False.elim q
 | cont=>
  obtain⟨_,_,_,q⟩:=i;exact False.elim q
section
variable{x:Str}{p pos:Pos}{e:Expr}{es:List Expr}{t:TA}{id T:String}{r:List V->Hp->VK->Prop}
def jT(r:List V->Hp->VK->Prop)(t:TA):TE:=λσ H Q=>t σ H λvs H1=>r vs H1 Q
def eU(l:CallR X (.builtin id) r)(d:Gl X x)(m:X.mg x=none)(v:bootBuiltins x=some (.builtin id))(ha:PA X (e::es) t)(b:x≠"__name__":=by decide)(a1:(x == ("__debug__":Str))=false:=by decide)
  (u:starEach (e::es) X.env=(false,eval e X.env)::starEach es X.env:=by rfl) (j:(backTo pos<|starEach es X.env).any (·.1)=false:=by rfl):PE X (.Call (.Name x p) (e::es) [] pos) (jT r t):=by
 intro a s σ H Q I h;refine AT<|lS I d m v ?_ b a1;exact PyProof.Rows.callWith_builtin1 (aS (ha pos a s σ H _ I h) <| by rintro i w ⟨f,H1,q,n,o⟩;exact l a w σ H1 f i Q q n o) u j
def dE(l:CallR X (.type T) r)(d:Gl X x)(m:X.mg x=none)(v:bootBuiltins x=some (.type T))(ha:PA X (e::es) t)(b:x≠"__name__":=by decide)(a1:(x == ("__debug__":Str))=false:=by decide)
  (u:starEach (e::es) X.env=(false,eval e X.env)::starEach es X.env:=by rfl) (j:(backTo pos<|starEach es X.env).any (·.1)=false:=by rfl):PE X (.Call (.Name x p) (e::es) [] pos) (jT r t):=by
 intro a s σ H Q I h;refine AT<|lS I d m v ?_ b a1;exact oN (aS (ha pos a s σ H _ I h) <| by rintro i w ⟨f,H1,q,n,o⟩;exact l a w σ H1 f i Q q n o) u j
def JK(a:CallR X (.type T) r)(e:Gl X x)(b:X.mg x=none)(f:bootBuiltins x=some (.type T))(i:x≠"__name__":=by decide)(a1:(x == ("__debug__":Str))=false:=by decide):
  PE X (.Call (.Name x p) [] [] pos) (jT r aY):=by
 intro d s σ H Q I h;refine AT<|lS I e b f ?_ i a1;exact PyProof.Rows.callWith_type0<|a d s σ H [] [] Q I .nil h
end
end L2
namespace HT
open PySem PyProof.Rows
section
open PySem.SeqAt
open PySem.AutoSeq1 (wpAny_loadPart')
open PySem.MeetsSeq PySem.MeetsSeq2 PySem.MeetsSeq3
end
section
variable{prog:Program}{w:World}{A:Around}{E:Vp}{s:Shared}
def Fq{t b:Addr}{a ws:List Value}{Q:Vp}(v:IsTup s.heap t a.toArray)(u:IsTup s.heap b ws.toArray)(r:a≠[])
  (h1:ws=[]->Q (.ref t) s) (h2:ws≠[]->Q (.ref s⁻¹) {s with heap:=s.heap.push {cls:=.type "tuple",data:=.seq (a++ws).toArray}})
  (hsz:↑a+↑ws<=sizeLine):wpAny (model prog w) A (binaryOp .Add (.ref t)<|.ref b) Q E s:=by
 obtain⟨⟨cls,l,data,p⟩,f,o,n,hd⟩:=id v;obtain⟨⟨x,m,data2,q⟩,h,i,j,a1⟩:=id u;simp only at o hd i a1;subst o hd i a1;have e:a.toArray++ws.toArray=(a++ws).toArray:=by simp
 by_cases d:ws=[]
 .exact concat_meets ⟨_,f,rfl⟩ ⟨_,h,rfl⟩ noFill_tuple_add seq_tuple_add PySem.F.slot_tuple_add PySem.F.entry_tuple_add (PySem.F.args_tuple_add_2 _ _)
   (tuple_addW1 t b a.toArray ws.toArray n j l m p q (by simpa using r)<|by simp[d]) ⟨f,h,h1 d⟩
 .refine concat_meets ⟨_,f,rfl⟩ ⟨_,h,rfl⟩ noFill_tuple_add seq_tuple_add PySem.F.slot_tuple_add PySem.F.entry_tuple_add (PySem.F.args_tuple_add_2 _ _)
   (tuple_addW2 t b a.toArray ws.toArray n j l m p q (by simpa using r) (by simpa using d)<|by rw[cL,cL];exact hsz) ⟨f,h,?_⟩
  rw[e];exact h2 d
def sIx(n d:Nat):Option Int->Nat
 | none=>d
 | some v=>if v<0 then(v+(n:Int)).toNat else min v.toNat n
def OS(n d:Nat):sIx n d none=d:=rfl
def HG(n d k:Nat):sIx n d (some (k:Int))=min k n:=by
 show(if (k:Int)<0 then((k:Int)+(n:Int)).toNat else min (k:Int).toNat n)=min k n;rw[aK (by lia),lD]
def rF(n d:Nat)(hd:d<=n)(o:Option Int):sIx n d o<=n:=by
 cases o with
 | none=>exact hd
 | some v=>
  show(if v<0 then(v+(n:Int)).toNat else min v.toNat n)<=n
  by_cases a:v<0
  .rw[aR a];lia
  .rw[aK a];exact Nat.min_le_right _ _
def WK(v:Int)(n d:Nat):(if v<0 then max (v+(n:Int)) 0 else min v (n:Int))=((sIx n d (some v):Nat):Int):=by
 show(if v<0 then max (v+(n:Int)) 0 else min v (n:Int))=(((if v<0 then(v+(n:Int)).toNat else min v.toNat n):Nat):Int)
 by_cases a:v<0
 .simp only[aR a];lia
 .simp only[aK a];lia
def Bw(lo hi:Option Int)(n:Nat):Builtin.Slice.sliceAdjust lo hi 1 (n:Int)=(((sIx n 0 lo:Nat):Int),((sIx n n hi:Nat):Int)):=by
 have h1:¬((1:Int)<0):=by lia
 unfold Builtin.Slice.sliceAdjust;simp only[h1,gI];refine Prod.ext ?_ ?_
 .cases lo with
  | none=>rfl
  | some v=>exact WK v n 0
 .cases hi with
  | none=>rfl
  | some v=>exact WK v n n
def Gf(i j:Nat):Builtin.Slice.slicePlaces (i:Int) (j:Int) 1=j-i:=by
 unfold Builtin.Slice.slicePlaces;have h1:(1:Int) > 0:=by lia
 simp only[h1,if_true,Int.ediv_one]
 split <;> lia
def OM{v:Value}{o:Option Int}{Q:Option Int->Shared->Prop}(p:IsPart v o)(h:Q o s):wpAny (model prog w) A (Builtin.Slice.slicePartIndex v) Q E s:=by
 cases p with
 | none=>exact slicePart_none h
 | int i t=>exact slicePart_int h
def YM{e:Addr}{b a:Value}{lo hi:Option Int}{n:Nat}{Q:Int×Int×Nat->Shared->Prop}(i:s.heap.IsSliceOf e b a .none)(j:IsPart b lo)(f:IsPart a hi)
  (h:Q (((sIx n 0 lo:Nat):Int),1,sIx n n hi-sIx n 0 lo) s):wpAny (model prog w) A (Builtin.Slice.sliceApplied (.ref e)<|pure (n:Int)) Q E s:=by
 obtain⟨os,a1,l,d⟩:=id i;unfold Builtin.Slice.sliceApplied Builtin.Slice.sliceFields;refine aB<|aB<|eZ a1 d (x:=b) rfl<|aB<|eZ a1 d (x:=a) rfl<|aB<|eZ a1 d (x:=.none) rfl<|aD ?_;refine aB<|slicePart_none ?_;show wpAny _ _ (if ((1:Int) == 0)=true then _ else _) _ _ s;rw[aK<|by decide];refine aB<|OM j<|aB<|OM f<|aB<|aD ?_;show wpAny _ _ (match Builtin.Slice.sliceAdjust lo hi 1 (n:Int)with | (lo,hi)=>pure (lo,(1:Int),Builtin.Slice.slicePlaces lo hi 1)) _ _ s;rw[Bw lo hi n];show wpAny _ _ (pure (((sIx n 0 lo:Nat):Int),(1:Int),Builtin.Slice.slicePlaces ((sIx n 0 lo:Nat):Int) ((sIx n n hi:Nat):Int) 1)) _ _ s;rw[Gf];exact aD h
def Ci(xs:Array Value)(i k:Nat):((List.range k).filterMap λ(m:Nat)=>xs[((i:Int)+(m:Int)*1).toNat]?).toArray=((xs.toList.drop i).take k).toArray:=by
 have e:(λ(m:Nat)=>xs[((i:Int)+(m:Int)*1).toNat]?)=λm=>xs[i+m]?:=by
  funext m
  have:((i:Int)+(m:Int)*1).toNat=i+m:=by lia
  rw[this]
 rw[e];have:=pick_run xs i k;rw[yX]at this;have a:((λx=>xs[x]?)∘λx=>i+x)=λm=>xs[i+m]?:=rfl;rw[a]at this;rw[this]
def Ck{t d:Addr}{items:Array Value}{f e:Value}{lo hi:Option Int}{Q:Vp}(a:IsTup s.heap t items)(i:s.heap.IsSliceOf d f e .none)(n:IsPart f lo)(l:IsPart e hi)
  (o:¬(sIx items.size 0 lo=0/\sIx items.size items.size hi=items.size))
  (h:Q (.ref s⁻¹) {s with heap:=s.heap.push {cls:=.type "tuple",data:=.seq ((items.toList.drop<|sIx items.size 0 lo).take<|sIx items.size items.size hi-sIx items.size 0 lo).toArray}})
  (hsz:items.size<=sizeLine):wpAny (model prog w) A (getItem (.ref t)<|.ref d) Q E s:=by
 have b:sizeOk (.seq ((items.toList.drop<|sIx items.size 0 lo).take<|sIx items.size items.size hi-sIx items.size 0 lo).toArray):=by
  show((items.toList.drop<|sIx items.size 0 lo).take<|sIx items.size items.size hi-sIx items.size 0 lo).toArray.size<=sizeLine;rw[cL,dI,mD,cF];lia
 have x:sIx items.size items.size hi<=items.size:=rF _ _ (aO _) hi;obtain⟨os,r,p,v⟩:=id i;have j:s.TypeIs (.ref d) "slice":=⟨os,r,p⟩;unfold getItem
 try with_reducible refine dP ?_
 first | refine aB (aD ?_) | skip
 refine aB<|wpAny_sequenceKey a.typeIs (by decide) ?_;refine aB<|jD (name:=Str.ofString "__getitem__") a.typeIs ub8<|fO ub8 a.typeIs entry_tuple_getitem ?_<|args_tuple_getitem _ _
 show wpAny _ _ (Builtin.Tuple.tupleItemsOf (.ref t) >>= _) _ _ s;refine aB<|tupleItemsOf_ a ?_;refine aB<|nB j ?_;rw[aR<|by decide];refine aB<|YM i n l ?_;have a1:¬((((sIx items.size 0 lo:Nat):Int) == 0 && (1:Int) == 1 && (sIx items.size items.size hi-sIx items.size 0 lo) == items.size)=true):=by
  intro q;rw[kH,kH]at q;have z:((sIx items.size 0 lo:Nat):Int)=0:=eq_of_beq q.1.1;have u:sIx items.size items.size hi-sIx items.size 0 lo=items.size:=eq_of_beq q.2;exact o ⟨by lia,by lia⟩
 show wpAny _ _ (if (((sIx items.size 0 lo:Nat):Int) == 0 && (1:Int) == 1 && (sIx items.size items.size hi-sIx items.size 0 lo) == items.size)=true then _ else _) _ _ s;rw[aK a1,Ci]
 first
  | exact aB (m:=Builtin.Tuple.tupleExact _) (fY (aD ⟨_,rfl,aD h⟩) b)
  | exact aB (m:=Builtin.Tuple.tupleExact _) (fY (aB<|aD<|aD ⟨_,rfl,aD h⟩) b)
  | exact aB (aB (m:=Builtin.Tuple.tupleExact _)<|fY (aD<|aD ⟨_,rfl,aD h⟩) b)
  | exact aB (aB (m:=Builtin.Tuple.tupleExact _)<|fY (aD ⟨_,rfl,aD h⟩) b)
end
end HT
namespace L2
open PySem PySem.Spec PyProof.Rows
variable{prog:Program}{w:World}{A:Around}{E:Vp}{s:Shared}
variable{X:Cx}
abbrev TO:=St->Hp->(Option Int->Hp->Prop)->Prop
def PO(X:Cx)(e:Option Expr)(t:TO):Prop:=
 ∀(pins:List (Addr×Obj))(s:Shared)(σ:St)(H:Hp)(Q:Option Int->Hp->Prop),Inv X pins σ H s->t σ H Q->
  wpAny (model X.prog X.w) X.A (evalPart e X.env) (λu s'=>∃o H',Inv X pins σ H' s'/\IsPart u o/\Q o H') X.xe s
def UZ:TO:=λ_ H Q=>Q none H
def oS(t:TE):TO:=λσ H Q=>t σ H λx H1=>∃i,x=.int i/\Q (some i) H1
section
variable{e:Expr}{te:TE}{lo hi:Option Expr}{tl th:TO}{pos p2:Pos}
def mY:PO X none UZ:=by
 intro a s σ H Q I h;rw[evalPart_none];exact aD ⟨none,H,I,.none,h⟩
def nN(h:PE X e te):PO X (some e) (oS te):=by
 intro b s σ H Q I f;rw[evalPart_some];refine aS (h b s σ H _ I f) ?_;rintro u l ⟨x,H1,j,a,d⟩;obtain⟨i,rfl,q⟩:=d;obtain⟨t,rfl⟩:=a;exact⟨some i,H1,j,.int i t,q⟩
def EA(X:Cx)(r:V->Option Int->Option Int->Hp->VK->Prop):Prop:=
 ∀(pins:List (Addr×Obj))(s:Shared)(σ:St)(H:Hp)(x:V)(v vl vu:Value)(lo hi:Option Int)(sl:Addr)(Q:VK),Inv X pins σ H s->RelV x v->s.heap.IsSliceOf sl vl vu .none->IsPart vl lo->IsPart vu hi->r x lo hi H Q->
  ∃T id,typeLookup (.type T) "__getitem__"=pure (some<|.builtin id)/\s.TypeIs v T/\wpAny (model X.prog X.w) X.A (getItem v<|.ref sl) (EP X pins σ Q) X.xe s
def WP(r:V->Option Int->Option Int->Hp->VK->Prop)(te:TE)(tl th:TO):TE:=λσ H Q=>te σ H λx H1=>tl σ H1 λl H2=>th σ H2 λu H3=>r x l u H3 Q
def nY{r:V->Option Int->Option Int->Hp->VK->Prop}(O:EA X r)(N:PE X e te)(hl:PO X lo tl)(B:PO X hi th):PE X (.Subscript e (.Slice lo hi none p2) pos) (WP r te tl th):=by
 intro a s σ H Q I h;refine Subscript_<|aS (N a s σ H _ I h) ?_;rintro v n ⟨x,H1,M,K,L⟩;refine wpAny_Slice<|aS (hl a n σ H1 _ M L) λf s2 ⟨l,H2,E,z,G⟩=>aS (B a s2 σ H2 _ E G) ?_;rintro d s3 ⟨u,H3,o,p,i⟩;rw[evalPart_none];refine aD ?_;have J:Inv X a σ H3 {s3 with heap:=s3.heap.push {cls:=.type "slice",data:=.fields #[f,d,.none]}}:=o.kept (t':=s3.toks) λb P q=>aZ _ q;obtain⟨T,id,m,C,j⟩:=O a {s3 with heap:=s3.heap.push {cls:=.type "slice",data:=.fields #[f,d,.none]}} σ H3 x v f d l u s3⁻¹ Q J K (Heap.IsSliceOf.new ..) z p i;show wpAny (model X.prog X.w) X.A (subscriptTail e (.Slice lo hi none p2) v<|.ref s3⁻¹) (EP X a σ Q) X.xe {s3 with heap:=s3.heap.push {cls:=.type "slice",data:=.fields #[f,d,.none]}};exact tail_any (ops:=[.ref s3⁻¹,v]) C m j (by with_unfolding_all rfl)
def dC(xs:List V)(lo hi:Option Int):List V:=(xs.drop<|HT.sIx ↑xs 0 lo).take<|HT.sIx ↑xs ↑xs hi-HT.sIx ↑xs 0 lo
def QR(xs:List V)(lo hi:Option Int):↑(dC xs lo hi)<=↑xs:=by
 unfold dC;rw[dI,mD];lia
def LD(K:Fg):V->Option Int->Option Int->Hp->VK->Prop:=λx lo hi H Q=>∃a xs,x=.ref a/\SqT K H a xs/\
 ¬(HT.sIx ↑xs 0 lo=0/\HT.sIx ↑xs ↑xs hi=↑xs)/\∀p,H p=none->Q (.ref p) (aA H p<|.tup<|dC xs lo hi)
def sV:EA X (LD X.K):=by
 intro a1 s σ H x v u p lo hi w Q I n m i f h;obtain⟨a,xs,rfl,l,j,q⟩:=h;cases n;obtain⟨its,r,e,hz⟩:=I.tuple l;have d:its.toArray.size=↑xs:=by rw[cL];exact r.length.symm
 exists "tuple",_,ub8.lookup,e.typeIs;refine HT.Ck e m i f (by rw[d];exact j) ?_ (by rw[d];exact hz);rw[d];refine⟨.ref s⁻¹,_,I.laid (t':=s.toks) (o:=.tup<|dC xs lo hi) (λb z q=>aZ _ q) (aO _) ?_,rfl,q _<|I.hok.fresh<|aO _⟩;exact⟨⟨fI (QR xs lo hi) hz,_,bY _ rfl,rfl⟩,_,(r.drop<|HT.sIx ↑xs 0 lo).take<|HT.sIx ↑xs ↑xs hi-HT.sIx ↑xs 0 lo,IsTup.new _ _⟩
def ER(K:Fg):R2:=λx y H Q=>∃a b xs ys,x=.ref a/\y=.ref b/\SqT K H a xs/\SqT K H b ys/\xs≠[]/\↑xs+↑ys<=sizeLine/\
 (ys=[]->Q (.ref a) H)/\(ys≠[]->∀p,H p=none->Q (.ref p) (aA H p<|.tup<|xs++ys))
def Vals.nil_iff{xs:List V}{a:List Value}(r:Vals xs a):a=[]↔xs=[]:=by
 cases r with
 | nil=>simp
 | cons _ _=>simp
def JE:cN X (binaryOp .Add) (ER X.K):=by
 intro r s σ H x y v u Q I p j h;obtain⟨a,b,xs,ys,rfl,rfl,ha,i,m,hz,n,l⟩:=h;cases p;cases j;obtain⟨its,e,f,_⟩:=I.tuple ha;obtain⟨a1,d,p2,_⟩:=I.tuple i;refine HT.Fq f p2 (λz=>m<|e.nil_iff.mp z) (λz=>⟨.ref a,H,I,rfl,n<|d.nil_iff.mp z⟩) (λz=>?_) (by rw[<-↑e,<-↑d];exact hz);refine⟨.ref s⁻¹,_,I.laid (t':=s.toks) (o:=.tup<|xs++ys) (λb A q=>aZ _ q) (aO _) ?_,rfl,l (λw=>z<|d.nil_iff.mpr w) _<|I.hok.fresh<|aO _⟩;exact⟨⟨by rw[bL];exact hz,_,bY _ rfl,rfl⟩,_,e.append d,IsTup.new _ _⟩
end
def nA(n:Nat)(i:Int):Option Nat:=if 0<=i then(if i<n then some i.toNat else none) else if -(n:Int)<=i then some (i+n).toNat else none
def fK{α:Type}(xs:List α)(i:Int):Option α:=(nA ↑xs i).bind λj=>xs[j]?
def VI{n:Nat}{i:Int}{j:Nat}(h:nA n i=some j):seqIndex? i n=some j/\j<n/\-(n:Int)<=i/\i<n:=by
 unfold nA at h
 by_cases a:0<=i
 .rw[aR a]at h
  by_cases h1:i<n
  .rw[aR h1]at h;have e:i.toNat=j:=jE h;exact⟨by rw[seqIndex_of a h1,e],by lia,by lia,h1⟩
  .rw[aK h1]at h;cases h
 .rw[aK a]at h
  by_cases h1:-(n:Int)<=i
  .rw[aR h1]at h;have e:(i+n).toNat=j:=jE h;exact⟨by rw[seqIndex_neg (by lia) h1,e],by lia,h1,by lia⟩
  .rw[aK h1]at h;cases h
def KG{α:Type}{xs:List α}{i:Int}{v:α}(h:fK xs i=some v):∃j,seqIndex? i ↑xs=some j/\xs[j]?=some v/\j<↑xs/\-(↑xs:Int)<=i/\i<↑xs:=by
 unfold fK at h;cases e:nA ↑xs i with
 | none=>rw[e]at h;cases h
 | some j=>
  rw[e]at h;obtain⟨h1,h2,b,a⟩:=VI e;exact⟨j,h1,h,h2,b,a⟩
def uI{α:Type}{xs:List α}{j:Nat}{v:α}(h:xs[j]?=some v):fK xs (j:Int)=some v:=by
 have a:j<↑xs:=(vg4.mp h).1;have e:nA ↑xs (j:Int)=some j:=by
  unfold nA;rw[aR (by lia),aR<|by lia];simp
 unfold fK;rw[e];exact h
def JM(b:Expr):Prop:=∀o i,subscripted b false o i=operate [o,i] (getItem o i)
def kQ(X:Cx)(r:R2):Prop:=
 ∀(value slice:Expr)(pins:List (Addr×Obj))(s:Shared)(σ:St)(H:Hp)(x y:V)(v u:Value)(Q:VK),Inv X pins σ H s->RelV x v->RelV y u->r x y H Q->
  subscripted slice false v u=operate [v,u] (getItem v u)->wpAny (model X.prog X.w) X.A (subscriptTail value slice v u) (EP X pins σ Q) X.xe s
def LR(X:Cx)(id:String)(r:V->List V->Hp->VK->Prop):Prop:=
 ∀(pins:List (Addr×Obj))(s:Shared)(σ:St)(H:Hp)(x:V)(xs:List V)(v:Value)(us:List Value)(Q:VK),Inv X pins σ H s->RelV x v->Vals xs us->r x xs H Q->
  wpAny (model X.prog X.w) X.A (call (.builtin id)<|v::us) (EP X pins σ Q) X.xe s
section
variable{a b:Expr}{ta tb:TE}{pos:Pos}
def lK{r:R2}(m:kQ X r)(ha:PE X a ta)(d:PE X b tb)(j:JM b):PE X (.Subscript a b pos) (cJ r ta tb):=by
 intro i s σ H Q I h;exact Subscript_<|rW ha d I h λv u s2 x y H2 f l e q=>m a b i s2 σ H2 x y v u Q f l e q<|j _ _
inductive zR(K:Fg)(x y:V)(H:Hp)(Q:VK):Prop
 | mk(p:Addr)(xs:List V)(i:Int)(v:V)(h1:x=.ref p)(h2:y=.int i)(h3:SqL K H p xs)(h4:fK xs i=some v)(q:Q v H):zR K x y H Q
def nZ(K:Fg):R2:=λx y H Q=>zR K x y H Q
inductive BI(K:Fg)(x y:V)(H:Hp)(Q:VK):Prop
 | mk(p:Addr)(xs:List V)(i:Int)(v:V)(h1:x=.ref p)(h2:y=.int i)(h3:SqT K H p xs)(h4:fK xs i=some v)(q:Q v H):BI K x y H Q
def dB(K:Fg):R2:=λx y H Q=>BI K x y H Q
def MJ:R2:=λx y H Q=>∃z i c,x=.str z/\y=.int i/\↑z<=sizeLine/\fK z.cps.toList i=some c/\Q (.str ⟨#[c]⟩) H
def Bj:kQ X (nZ X.K):=by
 intro value a e s σ H x y v u Q I A B h f;obtain⟨p,xs,i,z,rfl,rfl,n,E,q⟩:=h;cases A;obtain⟨t,rfl⟩:=B;obtain⟨its,r,b,hz⟩:=I.list n;obtain⟨j,h1,h2,J,C,G⟩:=KG E;obtain⟨w,m,o⟩:=r.get h2;have hl:=↑r;have L:=oO;have a1:EP X e σ Q w s:=⟨z,H,I,o,q⟩
 by_cases l:0<=i
 .have d:i.toNat=j:=by
   rw[seqIndex_of l G]at h1;exact jE h1
  exact item_listR b.isList l (by lia) (by rw[d];simpa using m) a1 f
 .have d:(i+(its.toArray.size:Int)).toNat=j:=by
   rw[seqIndex_neg (by lia) C]at h1;rw[cL,<-hl];exact jE h1
  exact subscriptTail_builtinR (x:=w) b.isList.typeIs slot_list_getitem.lookup
   (wpAny_getItem_list_neg (Q:=λr s'=>r=w/\EP X e σ Q r s') b.isList (by lia) (by rw[cL] <;> lia) (by lia) (by rw[d];simpa using m) ⟨rfl,a1⟩) f
def oT:kQ X (dB X.K):=by
 intro value a b s σ H x y v u Q I m n h l;obtain⟨p,xs,i,z,rfl,rfl,e,A,q⟩:=h;cases m;obtain⟨t,rfl⟩:=n;obtain⟨its,r,d,hz⟩:=I.tuple e;obtain⟨j,h1,h2,B,E,G⟩:=KG A;obtain⟨w,o,f⟩:=r.get h2;have hl:=↑r;have C:=oO;have a1:EP X b σ Q w s:=⟨z,H,I,f,q⟩;exact subscriptTail_builtinR (x:=w) d.typeIs slot_tuple_getitem.lookup
  (getItem_tuple (j:=j) (Q:=λr s'=>r=w/\EP X b σ Q r s') d (by lia) (by lia) (by rw[cL,<-hl];exact h1) (by simpa using o) ⟨rfl,a1⟩) l
def UA:kQ X MJ:=by
 intro value a p s σ H x y v u Q I o d h f;obtain⟨z,i,c,rfl,rfl,hz,m,q⟩:=h;obtain⟨t,rfl⟩:=o;obtain⟨t',rfl⟩:=d;obtain⟨j,h1,h2,r,l,n⟩:=KG m;have hl:↑z.cps.toList=↑z:=by simp[Str.length]
 rw[hl]at h1 l n;have w:=oO;exact tail_any (typeIs_str s z t) slot_str_getitem.lookup (getItem_str (c:=c) (by
  have b:decide (i < -(2 ^ 63:Int))=false:=eR (by lia);have e:decide (i≥2 ^ 63)=false:=eR (by lia);rw[b,e,Bool.or_false]) (by rw[h1];simpa using h2) ⟨.str ⟨#[c]⟩,H,I.tok _,⟨_,rfl⟩,q⟩) f
def WX(its:List Value)(n j:Nat)(u:Value):Obj.mapSeq (·.setIfInBounds j u) {cls:=.type "list",data:=.seq its.toArray n}={cls:=.type "list",data:=.seq (its.set j u).toArray n}:=by
 simp[Obj.mapSeq]
theorem Inv.lst{a:List (Addr×Obj)}{σ:St}{H:Hp}{s:Shared}{p:Addr}{xs:List V}(I:Inv X a σ H s)(h:H p=some (.lst xs)):
  ∃(its:List Value)(n:Nat),Vals xs its/\s.heap.get? p=some {cls:=.type "list",data:=.seq its.toArray n}/\↑xs<=sizeLine:=by
 obtain⟨z,its,n,r,e⟩:=I.hok p _ h;exact⟨its,n,r,e,z⟩
def Inv.lstUpd{i:List (Addr×Obj)}{σ:St}{H:Hp}{s:Shared}{p:Addr}{xs ys:List V}{its its':List Value}{n a:Nat}{f:Obj->Obj}(I:Inv X i σ H s)(h:H p=some (.lst xs))
  (l:s.heap.get? p=some {cls:=.type "list",data:=.seq its.toArray n}) (d:f {cls:=.type "list",data:=.seq its.toArray n}={cls:=.type "list",data:=.seq its'.toArray a}) (r:Vals ys its') (hz:↑ys<=sizeLine) (t:Nat):
  Inv X i σ (aA H p<|.lst ys) {s with heap:=s.heap.update p f,toks:=t}:=by
 have e:(s.heap.update p f).get? p=some {cls:=.type "list",data:=.seq its'.toArray a}:=by
  rw[iI f l (by rw[d] <;> rfl),d]
 refine I.write (x:=p) (e:=p) (by rw[h];trivial) (.inl rfl) (λb u j q=>(kM _ _<|cW j).trans q) ⟨_,e⟩ ?_;exact⟨hz,its',a,r,e⟩
def yD:V->V->V->Hp->(Hp->Prop)->Prop:=λo i v H Q=>∃p xs k j,o=.ref p/\i=.int k/\H p=some (.lst xs)/\nA ↑xs k=some j/\Q (aA H p<|.lst<|xs.set j v)
def vW:CK X yD:=by
 intro w s σ H o i v G E u Q I B x z h;obtain⟨p,xs,k,j,rfl,rfl,f,A,q⟩:=h;cases B;obtain⟨t,rfl⟩:=x;obtain⟨its,n,r,b,hz⟩:=I.lst f;obtain⟨h1,h2,d,m⟩:=VI A;have hl:=↑r;have C:=oO;have l:Inv X w σ (aA H p<|.lst<|xs.set j v) {s with heap:=s.heap.update p<|Obj.mapSeq (·.setIfInBounds j u)}:=
  I.lstUpd f b (WX its n j u) (r.set z j) (by rw[List.length_set];exact hz) s.toks
 by_cases e:0<=k
 .have a:k.toNat=j:=by
   rw[seqIndex_of e m]at h1;exact jE h1
  exact PySem.W.ki_setAt b e (by lia) (by rw[cL,<-hl];exact m) (by rw[a];exact⟨_,l,q⟩)
 .have a:(k+(its.toArray.size:Int)).toNat=j:=by
   rw[seqIndex_neg (by lia) d]at h1;rw[cL,<-hl];exact jE h1
  exact PySem.W.ki_setBack b (by lia) (by rw[cL,<-hl];exact d) (by lia) (by rw[a];exact⟨_,l,q⟩)
def Bn(lo hi:Option Int)(n:Nat):(sliceBounds lo hi none n).1=((HT.sIx n 0 lo:Nat):Int)/\(sliceBounds lo hi none n).2.1=((HT.sIx n n hi:Nat):Int)/\(sliceBounds lo hi none n).2.2=1:=by
 refine⟨?_,?_,rfl⟩
 .cases lo with
  | none=>simp[sliceBounds,HT.sIx]
  | some i=>
   simp only[sliceBounds,HT.sIx,Option.getD_none,show(1:Int) > 0 by decide,if_true]
   by_cases h:i<0
   .simp only[h,if_true] <;> lia
   .simp only[h,gI] <;> lia
 .cases hi with
  | none=>simp[sliceBounds,HT.sIx]
  | some i=>
   simp only[sliceBounds,HT.sIx,Option.getD_none,show(1:Int) > 0 by decide,if_true]
   by_cases h:i<0
   .simp only[h,if_true] <;> lia
   .simp only[h,gI] <;> lia
def ZO(its:List Value)(lo hi:Option Int):slicePick its.toArray lo hi none=((its.drop<|HT.sIx ↑its 0 lo).take<|HT.sIx ↑its ↑its hi-HT.sIx ↑its 0 lo).toArray:=by
 obtain⟨h1,h2,a⟩:=Bn lo hi its.toArray.size;unfold slicePick;rw[h1,h2,a];simp only[sliceRange_one,pick_run,cL] <;> rfl
def BV(K:Fg):V->Option Int->Option Int->Hp->VK->Prop:=λx lo hi H Q=>∃a xs,x=.ref a/\SqL K H a xs/\∀p,H p=none->Q (.ref p) (aA H p<|.lst<|dC xs lo hi)
def wD:EA X (BV X.K):=by
 intro a1 s σ H x v p n lo hi u Q I m l f e h;obtain⟨a,xs,rfl,i,q⟩:=h;cases m;obtain⟨its,r,d,hz⟩:=I.list i;have j:=↑r;exists "list",_,slot_list_getitem.lookup,d.isList.typeIs;refine wpAny_getItem_list_slice d.isList l f e .none (by simp) ?_ (by rw[cL] <;> lia);rw[ZO,<-j];refine⟨.ref s⁻¹,_,I.laid (t':=s.toks) (o:=.lst<|dC xs lo hi) (λb w q=>aZ _ q) (aO _) ?_,rfl,q _<|I.hok.fresh<|aO _⟩;exact⟨fI (QR xs lo hi) hz,_,0,(r.drop<|HT.sIx ↑xs 0 lo).take<|HT.sIx ↑xs ↑xs hi-HT.sIx ↑xs 0 lo,bY _ rfl⟩
def lI:V->Bool
 | .non=>true
 | .bl _=>true
 | .int _=>true
 | .str _=>true
 | _=>false
def lJ:V->V->Bool
 | .non,.non=>true
 | .bl a,.bl b=>a == b
 | .bl a,.int b=>(if a then 1 else 0) == b
 | .int a,.bl b=>a == (if b then 1 else 0)
 | .int a,.int b=>a == b
 | .str a,.str b=>a == b
 | _,_=>false
def rK{A:Around}{s:Shared}{y x:V}{u v:Value}(f:RelV y u)(d:RelV x v)(h:lI y=true)(e:lI x=true):SeqAt.EqAt A s u v (lJ y x):=by
 cases y with
 | non=>
  cases f;cases x with
  | non=>cases d;exact SeqAt.EqAt.same _
  | bl b=>cases d;exact SeqAt.EqAt.none_bool b
  | int b=>obtain⟨t,rfl⟩:=d;exact SeqAt.EqAt.none_int b t
  | str b=>obtain⟨t,rfl⟩:=d;exact SeqAt.EqAt.none_str b t
  | _=>exact absurd (show false=true from e) cA
 | bl a=>
  cases f;cases x with
  | non=>cases d;exact SeqAt.EqAt.bool_none a
  | bl b=>cases d;exact SeqAt.EqAt.bool_bool a b
  | int b=>obtain⟨t,rfl⟩:=d;exact SeqAt.EqAt.bool_int a b t
  | str b=>obtain⟨t,rfl⟩:=d;exact SeqAt.EqAt.bool_str a b t
  | _=>exact absurd (show false=true from e) cA
 | int a=>
  obtain⟨t',rfl⟩:=f;cases x with
  | non=>cases d;exact SeqAt.EqAt.int_none a t'
  | bl b=>cases d;exact SeqAt.EqAt.int_bool a t' b
  | int b=>obtain⟨t,rfl⟩:=d;exact SeqAt.EqAt.int_int a t' b t
  | str b=>obtain⟨t,rfl⟩:=d;exact SeqAt.EqAt.int_str a t' b t
  | _=>exact absurd (show false=true from e) cA
 | str a=>
  obtain⟨t',rfl⟩:=f;cases x with
  | non=>cases d;exact SeqAt.EqAt.str_none a t'
  | bl b=>cases d;exact SeqAt.EqAt.str_bool a t' b
  | int b=>obtain⟨t,rfl⟩:=d;exact SeqAt.EqAt.str_int a t' b t
  | str b=>obtain⟨t,rfl⟩:=d;exact SeqAt.EqAt.str_str a t' b t
  | _=>exact absurd (show false=true from e) cA
 | _=>exact absurd (show false=true from h) cA
def iQ(x:V)(u:Value):Bool:=match u with
 | .none=>lJ .non x
 | .bool b=>lJ (.bl b) x
 | .int i _=>lJ (.int i) x
 | .str z _=>lJ (.str z) x
 | _=>false
def TJ{x y:V}{u:Value}(r:RelV y u)(f:lI y=true):iQ x u=lJ y x:=by
 cases y with
 | non=>cases r;rfl
 | bl b=>cases r;rfl
 | int i=>obtain⟨t,rfl⟩:=r;rfl
 | str z=>obtain⟨t,rfl⟩:=r;rfl
 | _=>exact absurd (show false=true from f) cA
theorem zY{x:V}:∀{xs:List V}{a:List Value},Vals xs a->xs.all lI=true->a.any (iQ x)=xs.any λy=>lJ y x
 | _,_,.nil,_=>rfl
 | y::xs,u::a,.cons r t,f=>by
  rw[List.all_cons,kH]at f;rw[wC,wC,TJ r f.1,zY t f.2]
theorem zH{A:Around}{s:Shared}{x:V}{v:Value}(e:RelV x v)(d:lI x=true):∀{xs:List V}{b:List Value},Vals xs b->xs.all lI=true->∀u∈b,SeqAt.EqAt A s u v<|iQ x u
 | _,_,.nil,_=>λu a=>by cases a
 | y::xs,u::b,.cons r t,f=>λh a=>by
  rw[List.all_cons,kH]at f;rcases vh3.mp a with rfl | a
  .rw[TJ r f.1];exact rK r e f.1 d
  .exact zH e d t f.2 h a
def hX(x:V)(xs:List V):Bool:=xs.any λy=>lJ y x
inductive VP(K:Fg)(neg:Bool)(x y:V)(H:Hp)(Q:VK):Prop
 | mk(p:Addr)(xs:List V)(h1:y=.ref p)(h2:SqL K H p xs\/SqT K H p xs)(h3:lI x=true)(h4:xs.all lI=true)(q:Q (.bl<|if neg then !hX x xs else hX x xs) H):VP K neg x y H Q
def iG(K:Fg)(neg:Bool):R2:=λx y H Q=>VP K neg x y H Q
def mJ:cN X (compareOp .In) (iG X.K false):=by
 intro j s σ H x y v u Q I f i h;obtain⟨p,xs,rfl,a,e,fs,q⟩:=h;cases i;rcases a with a | a
 .obtain⟨its,r,b,hz⟩:=I.list a;refine SeqAt.in_listAt (iQ x) b.isList (λw d=>zH f e r fs w<|by simpa using d) ⟨.bl _,H,I,rfl,?_⟩;rw[show its.toArray.any (iQ x)=its.any (iQ x) by simp,zY r fs];exact q
 .obtain⟨its,r,b,hz⟩:=I.tuple a;refine SeqAt.in_tupleAt (iQ x) b (λw d=>zH f e r fs w<|by simpa using d) ⟨.bl _,H,I,rfl,?_⟩;rw[show its.toArray.any (iQ x)=its.any (iQ x) by simp,zY r fs];exact q
def GV:cN X (compareOp .NotIn) (iG X.K true):=by
 intro j s σ H x y v u Q I f i h;obtain⟨p,xs,rfl,a,e,fs,q⟩:=h;cases i;rcases a with a | a
 .obtain⟨its,r,b,hz⟩:=I.list a;refine SeqAt.notIn_listAt (iQ x) b.isList (λw d=>zH f e r fs w<|by simpa using d) ⟨.bl _,H,I,rfl,?_⟩;rw[show its.toArray.any (iQ x)=its.any (iQ x) by simp,zY r fs];exact q
 .obtain⟨its,r,b,hz⟩:=I.tuple a;refine SeqAt.notIn_tupleAt (iQ x) b (λw d=>zH f e r fs w<|by simpa using d) ⟨.bl _,H,I,rfl,?_⟩;rw[show its.toArray.any (iQ x)=its.any (iQ x) by simp,zY r fs];exact q
def nJ:CallR X (.builtin "len") (λxs H Q=>∃p ys,xs=[.ref p]/\(SqL X.K H p ys\/SqT X.K H p ys)/\Q (.int ↑ys) H):=by
 intro a1 s σ H xs f Q I r h;obtain⟨p,ys,rfl,a,q⟩:=h;obtain⟨u,rfl,e⟩:=gY r;cases e;have i:=oO;rcases a with a | a
 .obtain⟨its,r',b,hz⟩:=I.list a;have d:=↑r';exact Calls.call_len_list b.isList (by simp only[cL] <;> lia) ⟨.int ↑ys,H,I.tok _,⟨s.toks+1,by rw[cL,d]⟩,q⟩
 .obtain⟨its,r',b,hz⟩:=I.tuple a;have d:=↑r';exact len_tuple b (by simp only[cL] <;> lia) ⟨.int ↑ys,H,I.tok _,⟨s.toks+1,by rw[cL,d]⟩,q⟩
def Cp:CallR X (.builtin "len") (λxs H Q=>∃z,xs=[.str z]/\↑z<=sizeLine/\Q (.int ↑z) H):=by
 intro a s σ H xs b Q I r h;obtain⟨z,rfl,hz,q⟩:=h;obtain⟨u,rfl,t,rfl⟩:=gY r;have d:=oO;exact len_str (by lia) ⟨.int ↑z,H,I.tok _,⟨_,rfl⟩,q⟩
def gA:CallR X (.type "tuple") (λxs H Q=>∃p ys,xs=[.ref p]/\((SqL X.K H p ys/\∀l,H l=none->Q (.ref l) (aA H l<|.tup ys))\/(SqT X.K H p ys/\Q (.ref p) H))):=by
 intro d s σ H xs n Q I r h;obtain⟨p,ys,rfl,h⟩:=h;obtain⟨u,rfl,m⟩:=gY r;cases m;rcases h with ⟨hq,q⟩ | ⟨hq,q⟩
 .obtain⟨its,r',a,hz⟩:=I.list hq;have a1:=↑r';refine call_tuple_list a.isList (λh' j=>?_) (by simp only[cL] <;> lia);have f:Inv X d σ H {s with heap:=h'}:=I.kept (t':=s.toks) j;have i:Inv X d σ (aA H h'.objs.size<|.tup ys) {s with heap:=h'.push {cls:=.type "tuple",data:=.seq its.toArray}}:=
   f.laid (t':=s.toks) (λb o e=>aZ _ e) (aO _) (show ObjOk X.prog X.w _ _ _ (.tup ys) from ⟨⟨hz,_,bY _ rfl,rfl⟩,its,r',IsTup.new _ _⟩)
  exact⟨.ref h'.objs.size,_,i,rfl,q _<|f.hok.fresh<|aO _⟩
 .obtain⟨its,r',a,hz⟩:=I.tuple hq;exact call_tuple_same a ⟨.ref p,H,I,rfl,q⟩
def QO(K:Fg)(T:String)(x:V)(H:Hp):Prop:=match x with
 | .str _=>T="str"
 | .int _=>T="int"
 | .ref p=>(T="list"/\∃xs,SqL K H p xs)\/(T="tuple"/\∃o,K.lookup p=some o/\o.cls=.type "tuple"/\o.dict=none)\/
   (T="dict"/\((∃kvs,H p=some (.dK kvs))\/∃kvs,H p=some (.dT kvs)))\/(T="set"/\∃S n,H p=some (.set S n))
 | _=>False
def rY{f:List (Addr×Obj)}{σ:St}{H:Hp}{s:Shared}{T:String}{x:V}{v:Value}(I:Inv X f σ H s)(r:RelV x v)(ty:QO X.K T x H):
  s.TypeIs v T/\∀a,v=.ref a->∃ob,s.heap.get? a=some ob/\ob.dict=none:=by
 cases x with
 | str z=>
  obtain⟨t,rfl⟩:=r;cases (show T="str" from ty);exact⟨typeIs_str s z t,λ_ e=>nomatch e⟩
 | int i=>
  obtain⟨t,rfl⟩:=r;cases (show T="int" from ty);exact⟨typeIs_int s i t,λ_ e=>nomatch e⟩
 | ref p=>
  cases r;rcases ty with ⟨rfl,xs,hq⟩ | ⟨rfl,o,hk,hc,hd⟩ | ⟨rfl,hk⟩ | ⟨rfl,S,n,hk⟩
  .obtain⟨its,_,d,_⟩:=I.list hq;refine⟨d.isList.typeIs,λa e=>?_⟩;cases e;obtain⟨o,n,e,c,hd,_⟩:=d;exact⟨o,e,hd⟩
  .refine⟨⟨o,I.kIn p o hk,hc⟩,λa e=>?_⟩;cases e;exact⟨o,I.kIn _ o hk,hd⟩
  .have z:∃o,s.heap.get? p=some o/\o.ExactDict:=by
    rcases hk with ⟨kvs,hk⟩ | ⟨kvs,hk⟩
    .obtain⟨_,_,_,_,o,_,_,e,ex,_⟩:=I.hok p _ hk;exact⟨o,e,ex⟩
    .obtain⟨_,_,_,_,o,_,_,e,ex,_⟩:=I.hok p _ hk;exact⟨o,e,ex⟩
   obtain⟨o,e,ex⟩:=z;refine⟨⟨o,e,ex.1⟩,λa b=>?_⟩;cases b;exact⟨o,e,ex.2.1⟩
  .obtain⟨o,_,_,_,e,ex,_⟩:=I.hok p _ hk;refine⟨⟨o,e,ex.1⟩,λa b=>?_⟩;cases b;exact⟨o,e,ex.2.1⟩
 | _=>exact False.elim ty
inductive JQ(K:Fg)(T:String)(r:V->List V->Hp->VK->Prop)(t:TA)(x:V)(σ:List (Option V))(H:Hp)(Q:VK):Prop
 | mk(h:QO K T x H)(q:t σ H λxs H2=>r x xs H2 Q):JQ K T r t x σ H Q
def wI(K:Fg)(T:String)(r:V->List V->Hp->VK->Prop)(to:TE)(t:TA):TE:=λσ H Q=>to σ H λx H1=>JQ K T r t x σ H1 Q
variable{o e:Expr}{es:List Expr}{to:TE}{t:TA}{name:Str}{apos cpos:Pos}{T id:String}{r:V->List V->Hp->VK->Prop}
def hH(j:PlainAttrs T)(slot:Slot T name id)(u:typeOf (.builtin id)=pure (.type "method_descriptor"))(A:LR X id r)(w:PE X o to)(ha:PA X (e::es) t)
  (z:attributeBase o name X.env (eval o X.env)=eval o X.env:=by rfl)
  (i:((backTo cpos<|starEach (e::es) X.env).all (λx=>!x.1) && (backToKw cpos<|keywordEach [] X.env).all (λx=>x.1.isSome) && decide (↑(e::es)+↑([]:List Keyword)+(if ([]:List Keyword).isEmpty then 0 else 1)<30))=true:=by rfl)
  (E:(apos.endLine == cpos.line)=true:=by rfl) (C:starEach (e::es) X.env=(false,eval e X.env)::starEach es X.env:=by rfl) (a1:(backTo cpos<|starEach es X.env).any (·.1)=false:=by rfl):
  PE X (.Call (.Attribute o name apos) (e::es) [] cpos) (wI X.K T r to t):=by
 intro a s σ H Q I h;refine wpAny_Call_method_late z i E rfl<|aS (w a s σ H _ I h) ?_;rintro v G ⟨x,H1,f,d,ty,B⟩;obtain⟨h1,h2⟩:=rY f d ty;exists T,id,j,slot,u,h1,h2;have b:=ha cpos a G σ H1 _ f B;rw[C]at b ⊢;refine oM (by show(false || (backTo cpos<|starEach es X.env).any (·.1))=false;rw[a1] <;> rfl)<|sK ?_;exact aS b <| by rintro m s2 ⟨l,H2,q,n,p⟩;exact A a s2 σ H2 x l v m Q q d n p
end
def LH(X:Cx)(id:String)(r:V->List V->Hp->VK->Prop):Prop:=
 ∀(pins:List (Addr×Obj))(s:Shared)(σ:St)(H:Hp)(x:V)(xs:List V)(v:Value)(us:List Value)(Q:VK),Inv X pins σ H s->RelV x v->Vals xs us->r x xs H Q->
  wpAny (model X.prog X.w) X.A (call (.builtin id)<|v::us) (EP X pins σ Q) X.xe s
def Vals.one:∀{x:V}{a:List Value},Vals [x] a->∃u,a=[u]/\RelV x u
 | _,_,.cons r .nil=>⟨_,rfl,r⟩
theorem Vals.eraseIdx:∀{xs:List V}{a:List Value}(i:Nat),Vals xs a->Vals (xs.eraseIdx i) (a.eraseIdx i)
 | _,_,_,.nil=>.nil
 | _,_,0,.cons _ t=>t
 | _,_,i+1,.cons r t=>.cons r<|Vals.eraseIdx i t
theorem Vals.reverse{xs:List V}{a:List Value}(h:Vals xs a):Vals xs.reverse a.reverse:=by
 induction h with
 | nil=>exact .nil
 | cons r t ih=>rw[List.reverse_cons,List.reverse_cons];exact Vals.append ih<|.cons r .nil
theorem Vals.rep{xs:List V}{a:List Value}(h:Vals xs a):∀k:Nat,Vals (List.replicate k xs).flatten (List.replicate k a).flatten
 | 0=>.nil
 | k+1=>by
  rw[DP,DP,GE,GE];exact Vals.append h<|Vals.rep h k
theorem SU{α:Type}:∀(l:List α)(i:Nat),↑(l.eraseIdx i)<=↑l
 | [],_=>aO _
 | _::_,0=>vC _
 | _::r,i+1=>Nat.succ_le_succ<|SU r i
theorem UQ(its:List Value):∀(k:Nat)(acc:List Value),
  List.foldl (λb a=>b++a) acc.toArray (List.replicate k its.toArray)=(acc++(List.replicate k its).flatten).toArray
 | 0,acc=>by simp
 | k+1,acc=>by
  have e:acc.toArray++its.toArray=(acc++its).toArray:=by simp
  have d:(acc++its)++(List.replicate k its).flatten=acc++(List.replicate (k+1) its).flatten:=by
   rw[DP,GE,dR]
  rw[<-d,<-UQ its k (acc++its),<-e,DP,List.foldl_cons]
section
variable{pins:List (Addr×Obj)}{σ:St}{H:Hp}{s:Shared}{l b:Addr}{xs ys zs:List V}
def Inv.lset{its its':List Value}{n:Nat}{f:Array Value->Array Value}{t':Nat}(I:Inv X pins σ H s)(i:H l=some (.lst xs))
  (e:s.heap.get? l=some {cls:=.type "list",data:=.seq its.toArray n}) (a:f its.toArray=its'.toArray) (h:Vals ys its') (hz:↑ys<=sizeLine):
  Inv X pins σ (aA H l<|.lst ys) {s with heap:=s.heap.update l<|Obj.mapSeq f,toks:=t'}:=by
 have q:=PySem.IsL.update e f;rw[a]at q;refine I.write (x:=l) (e:=l) (by rw[i];exact trivial) (.inl rfl) (λj u d b=>(kM s.heap (Obj.mapSeq f)<|cW d).trans b) ⟨_,q⟩ ?_;exact⟨hz,its',_,h,q⟩
def Inv.lnew{its:List Value}{t':Nat}(I:Inv X pins σ H s)(a:Vals ys its)(hz:↑ys<=sizeLine):
  Inv X pins σ (aA H s⁻¹<|.lst ys) {s with heap:=s.heap.push {cls:=.type "list",data:=.seq its.toArray},toks:=t'}:=
 I.laid (λ_ _ q=>aZ _ q) (aO _) ⟨hz,its,0,a,bY _ rfl⟩
theorem Inv.fresh(I:Inv X pins σ H s):H s⁻¹=none:=I.hok.fresh<|aO _
def Inv.lstM(I:Inv X pins σ H s)(a:H l=some (.lst xs)):↑xs<=sizeLine/\∃(its:List Value)(n:Nat),Vals xs its/\↑xs=↑its/\s.heap.get? l=some {cls:=.type "list",data:=.seq its.toArray n}:=by
 obtain⟨z,its,n,r,e⟩:=I.hok l _ a;exact⟨z,its,n,r,↑r,e⟩
def NX{n:Nat}(h:n<=sizeLine):Builtin.List.listTooLong n=false:=by
 unfold Builtin.List.listTooLong;exact eR (by lia)
end
inductive zM(x:V)(vs:List V)(H:Hp)(Q:VK):Prop
 | mk(l:Addr)(xs:List V)(y:V)(h1:x=.ref l)(h2:vs=[y])(h3:H l=some (.lst xs))(h4:↑xs<sizeLine)(q:Q .non (aA H l<|.lst<|xs++[y])):zM x vs H Q
def xB:V->List V->Hp->VK->Prop:=λx vs H Q=>zM x vs H Q
def iK:LH X "list.append" xB:=by
 intro m s σ H x i v j Q I f d h;obtain⟨l,xs,y,rfl,rfl,a,hz,q⟩:=h;cases f;obtain⟨u,rfl,b⟩:=d.one;obtain⟨z,its,n,r,hl,e⟩:=I.lstM a;refine call_meets F.slot_list_append ⟨_,e,rfl⟩ F.entry_list_append (F.args_list_append_2 _ _) (PySem.list_append l its.toArray n u<|by rw[cL];lia) ⟨e,?_⟩;refine⟨.non,_,I.lset (its':=its++[u]) a e (by simp) (r.append<|.cons b .nil) ?_,rfl,q⟩;rw[bL,dY];lia
def Cy:V->List V->Hp->VK->Prop:=λx vs H Q=>∃l b xs zs,x=.ref l/\vs=[.ref b]/\H l=some (.lst xs)/\H b=some (.lst zs)/\↑xs+↑zs<=sizeLine/\Q .non (aA H l<|.lst<|xs++zs)
def Gs:LH X "list.extend" Cy:=by
 intro C s σ H x A v B Q I w p h;obtain⟨l,b,xs,zs,rfl,rfl,d,m,hz,q⟩:=h;cases w;obtain⟨u,rfl,o⟩:=p.one;cases o;obtain⟨z,its,n,r,hl,e⟩:=I.lstM d;obtain⟨E,a,f,i,G,j⟩:=I.lstM m;have hsz:its.toArray.size+a.toArray.size<=sizeLine:=by rw[cL,cL];lia
 have a1:¬(!its.toArray.isEmpty && Builtin.List.listTooLong (its.toArray.size+a.toArray.size))=true:=by
  rw[NX hsz,Bool.and_false];exact cA
 refine call_meets F.slot_list_extend ⟨_,e,rfl⟩ F.entry_list_extend (F.args_list_extend_2 _ _)
  (AutoSeq1.list_extend_list_list_0 l its.toArray n b a.toArray f a1 (by rw[cL];lia)<|by lia) ⟨e,j,?_⟩
 refine⟨.non,_,I.lset (its':=its++a) d e (by simp) (r.append i) ?_,rfl,q⟩;rw[bL];lia
def SI:V->List V->Hp->VK->Prop:=λx vs H Q=>∃l xs i k y,x=.ref l/\vs=[.int i]/\H l=some (.lst xs)/\-(2 ^ 63)<=i/\i<2 ^ 63/\seqIndex? i ↑xs=some k/\xs[k]?=some y/\Q y (aA H l<|.lst<|xs.eraseIdx k)
def Ge:LH X "list.pop" SI:=by
 intro B s σ H x p v A Q I o m h;obtain⟨l,xs,i,k,y,rfl,rfl,a,h1,h2,d,f,q⟩:=h;cases o;obtain⟨u,rfl,j⟩:=m.one;obtain⟨t,rfl⟩:=j;obtain⟨z,its,n,r,hl,e⟩:=I.lstM a;obtain⟨w,b,a1⟩:=r.get f;refine call_meets F.slot_list_pop ⟨_,e,rfl⟩ F.entry_list_pop (F.args_list_pop_2 _ _)
  (MeetsSeq.list_pop_at l its.toArray n i t k w (fitsIndex_both h1 h2) (by rw[cL,<-hl];exact d) (by rw[<-iF];exact b)<|by rw[cL];lia) ⟨e,?_⟩
 refine⟨y,_,I.lset (its':=its.eraseIdx k) a e ?_ (r.eraseIdx k) ?_,a1,q⟩
 .show its.toArray.eraseIdxIfInBounds k=(its.eraseIdx k).toArray;rw[List.eraseIdxIfInBounds_toArray]
 .have:=SU xs k;lia
def yV:R2:=λx y H Q=>∃l b xs zs,x=.ref l/\y=.ref b/\H l=some (.lst xs)/\H b=some (.lst zs)/\↑xs+↑zs<=sizeLine/\∀p,H p=none->Q (.ref p) (aA H p<|.lst<|xs++zs)
def vP:cN X (binaryOp .Add) yV:=by
 intro a1 s σ H x y v u Q I o f h;obtain⟨l,b,xs,zs,rfl,rfl,p,j,hz,q⟩:=h;cases o;cases f;obtain⟨z,its,n,r,hl,e⟩:=I.lstM p;obtain⟨A,a,w,d,B,i⟩:=I.lstM j;refine PySem.P.add_list e i ?_ (by rw[cL,cL];lia);have m:its.toArray++a.toArray=(its++a).toArray:=by simp
 rw[m];exact⟨.ref _,_,I.lnew (t':=s.toks) (r.append d) (by rw[bL];lia),rfl,q _ I.fresh⟩
def LB:R2:=λx y H Q=>∃l k xs,x=.ref l/\y=.int k/\H l=some (.lst xs)/\-(2 ^ 63)<=k/\k<2 ^ 63/\↑xs*k.toNat<=sizeLine/\
 ∀p,H p=none->Q (.ref p) (aA H p<|.lst (List.replicate k.toNat xs).flatten)
def Dm{α:Type}(xs:List α)(k:Nat):(List.replicate k xs).flatten.length=k*↑xs:=by
 induction k with
 | zero=>simp
 | succ k ih=>rw[DP,GE,bL,ih,Nat.succ_mul,Nat.add_comm]
def uP:cN X (binaryOp .Mult) LB:=by
 intro C s σ H x y v u Q I p B h;obtain⟨l,k,xs,rfl,rfl,w,h1,h2,hz,q⟩:=h;cases p;obtain⟨t,rfl⟩:=B;obtain⟨z,its,n,r,hl,e⟩:=I.lstM w;have i:its.toArray.size*k.toNat<=sizeLine:=by rw[cL,<-hl];exact hz
 have a1:¬its.toArray.size*k.toNat > (2 ^ 63-1) / 8:=by
  have:(sizeLine:Nat)<=(2 ^ 63-1) / 8:=by decide
  lia
 have f:¬(!Builtin.List.listFitsIndex k)=true:=by
  rw[fitsIndex_both h1 h2];exact cA
 have j:¬Builtin.List.listTooLong (its.toArray.size*k.toNat)=true:=by
  rw[NX i];exact cA
 have o:List.foldl (λb d=>b++d) #[] (List.replicate (if its.toArray.isEmpty=true then 0 else k.toNat) its.toArray)=(List.replicate k.toNat its).flatten.toArray:=by
  have A:∀m:Nat,List.foldl (λb d=>b++d) #[] (List.replicate m its.toArray)=(List.replicate m its).flatten.toArray:=λm=>by
   have:=UQ its m [];rw[List.nil_append]at this;exact this
  rw[A];cases its with
  | nil=>simp
  | cons a r'=>rw[aK<|by simp]
 refine wpAny_binaryOp_repeat_ref (T:="list") (U:="int") (by decide) ⟨_,e,rfl⟩ (λs'=>typeIs_int s' k t) noFill_list_mul F.fills_int_mul F.slot_int_rmul repeat_list F.slot_int_index.lookup
  (call_meets F.slot_int_rmul (typeIs_int s k t) F.entry_int_rmul (F.args_int_rmul_2 _ _) (int___rmul___int_list k t l its.toArray n) ⟨e,rfl,⟨_,e,rfl⟩,call_meets F.slot_list_mul ⟨_,e,rfl⟩ F.entry_list_mul (F.args_list_mul_2 _ _) (AutoListH.list___mul___list_int_3 l its.toArray n k t f a1 j) ⟨e,?_⟩⟩)
 rw[o];exact⟨.ref _,_,I.lnew (t':=s.toks) (r.rep k.toNat) (by rw[Dm,Nat.mul_comm];exact hz),rfl,q _ I.fresh⟩
section
variable{κ:Type}[DecidableEq κ]
def aN(kvs:List (κ×V))(k:κ):Option V:=(kvs.find? λkv=>decide<|kv.1=k).map (·.2)
def aU(kvs:List (κ×V))(k:κ)(v:V):List (κ×V):=
 if (kvs.any λkv=>decide<|kv.1=k)=true then kvs.map (λkv=>if kv.1=k then(kv.1,v) else kv) else kvs++[(k,v)]
def kN{p:κ×V}{r:List (κ×V)}{k:κ}(e:p.1=k):aN (p::r) k=some p.2:=by simp[aN,wX,e]
def jZ{p:κ×V}{r:List (κ×V)}{k:κ}(e:¬p.1=k):aN (p::r) k=aN r k:=by simp[aN,wX,e]
theorem pM(k:κ):∀kvs:List (κ×V),(kvs.any λa=>decide<|a.1=k)=(aN kvs k).isSome
 | []=>rfl
 | p::r=>by
  rw[wC]
  by_cases e:p.1=k
  .simp only[kN e,cI e,Bool.true_or,Option.isSome_some]
  .rw[jZ e,eR e,Bool.false_or];exact pM k r
theorem UW(k j:κ)(y:V):∀kvs:List (κ×V),aN (kvs.map λa=>if a.1=k then(a.1,y) else a) j=(aN kvs j).map λx=>if j=k then y else x
 | []=>rfl
 | p::r=>by
  have b:=UW k j y r;rw[eM]
  by_cases h:p.1=k
  .rw[aR h]
   by_cases e:p.1=j
   .rw[kN (p:=(p.1,y)) e,kN e,Option.map_some,aR<|e.symm.trans h]
   .rw[jZ (p:=(p.1,y)) e,jZ e,b]
  .rw[aK h]
   by_cases e:p.1=j
   .rw[kN (p:=p) e,kN e,Option.map_some,aK λz=>h<|e.trans z]
   .rw[jZ (p:=p) e,jZ e,b]
theorem UN(k j:κ)(y:V):∀kvs:List (κ×V),aN kvs k=none->aN (kvs++[(k,y)]) j=if j=k then some y else aN kvs j
 | [],_=>by
  by_cases e:k=j
  .rw[aR e.symm];exact kN (p:=(k,y)) e
  .rw[aK λz=>e z.symm];exact jZ (p:=(k,y)) e
 | p::r,hn=>by
  rw[List.cons_append];have a:¬p.1=k:=λz=>by rw[kN z]at hn;cases hn
  rw[jZ a]at hn;have b:=UN k j y r hn
  by_cases e:p.1=j
  .rw[kN e,kN e,aK λz=>a<|e.trans z]
  .rw[jZ e,jZ e,b]
def pQ(kvs:List (κ×V))(k j:κ)(y:V):aN (aU kvs k y) j=if j=k then some y else aN kvs j:=by
 unfold aU
 by_cases a:(kvs.any λd=>decide<|d.1=k)=true
 .rw[aR a,UW];rw[pM]at a
  by_cases e:j=k
  .obtain⟨x,b⟩:=ub6.mp a;rw[aR e,e,b,Option.map_some,aR rfl]
  .rw[aK e];cases aN kvs j with
   | none=>rfl
   | some x=>rw[Option.map_some,aK e]
 .rw[aK a];refine UN k j y kvs ?_;rw[pM]at a;cases q:aN kvs k with
  | none=>rfl
  | some x=>rw[q]at a;exact(a rfl).elim
def nM(kvs:List (κ×V))(k:κ)(v:V):↑(aU kvs k v)<=↑kvs+1:=by
 unfold aU
 split
 .rw[aG];lia
 .rw[bL,cY,jX];lia
def GS{kvs:List (κ×V)}{k:κ}(v:V)(h:aN kvs k=none):aU kvs k v=kvs++[(k,v)]:=by
 unfold aU;rw[pM,h];exact aK (by decide)
def RelO.isSome_eq{o:Option V}{u:Option Value}(r:RelO o u):o.isSome=u.isSome:=by
 cases o with
 | none=>cases u with
  | none=>rfl
  | some _=>exact(show False from r).elim
 | some _=>cases u with
  | none=>exact(show False from r).elim
  | some _=>rfl
theorem RelO.getD{o:Option V}{u:Option Value}{d:V}{d':Value}(r:RelO o u)(a:RelV d d'):RelV (o.getD d) (u.getD d'):=by
 cases o with
 | none=>cases u with
  | none=>exact a
  | some _=>exact(show False from r).elim
 | some _=>cases u with
  | none=>exact(show False from r).elim
  | some _=>exact r
def KV.val{kvs:List (κ×V)}{d:List (κ×Value)}(r:KV kvs d)(k:κ):RelO (aN kvs k) (valueAt d k):=by
 unfold KV at r
 induction r with
 | nil=>exact jG
 | @cons p q ps qs h t ih=>
  obtain⟨h1,h2⟩:=h
  by_cases e:p.1=k
  .have a:q.1=k:=h1.symm.trans e;have b:valueAt (q::qs) k=some q.2:=by simp[valueAt,wX,a]
   rw[kN e,b];exact h2
  .have a:¬q.1=k:=λz=>e<|h1.trans z;have b:valueAt (q::qs) k=valueAt qs k:=by simp[valueAt,wX,a]
   rw[jZ e,b];exact ih
theorem KV.any{kvs:List (κ×V)}{b:List (κ×Value)}(r:KV kvs b)(k:κ):(kvs.any λa=>decide<|a.1=k)=b.any λa=>decide (a.1=k):=by
 unfold KV at r
 induction r with
 | nil=>rfl
 | cons h t ih=>rw[wC,wC,ih,h.1]
def KV.repl{kvs:List (κ×V)}{b:List (κ×Value)}(r:KV kvs b)(k:κ){y:V}{u:Value}(d:RelV y u):
  KV (kvs.map λa=>if a.1=k then(a.1,y) else a) (b.map λa=>if a.1=k then(a.1,u) else a):=by
 unfold KV at r ⊢
 induction r with
 | nil=>exact .nil
 | @cons p q ps qs h t ih=>
  rw[eM,eM];refine .cons ?_ ih;obtain⟨h1,h2⟩:=h
  by_cases e:p.1=k
  .rw[aR e,aR<|h1.symm.trans e];exact⟨h1,d⟩
  .rw[aK e,aK λz=>e<|h1.trans z];exact⟨h1,h2⟩
def KV.put{kvs:List (κ×V)}{a:List (κ×Value)}(r:KV kvs a)(k:κ){y:V}{u:Value}(b:RelV y u):KV (aU kvs k y) (stored a k u):=by
 unfold aU stored;rw[r.any k]
 by_cases e:(a.any λd=>decide<|d.1=k)=true
 .rw[aR e,aR e];exact r.repl k b
 .rw[aK e,aK e];exact Paired.snoc r ⟨rfl,b⟩
theorem KV.length{kvs:List (κ×V)}{a:List (κ×Value)}(r:KV kvs a):↑kvs=↑a:=DW r
end
def nL{P:Program}{w:World}{k:aL}{u:Value}(r:RelV (kV k) u):(cE P w).is k u=true:=by
 cases k with
 | inl i=>obtain⟨t,e⟩:=(show ∃t,u=Value.int i t from r);subst e;exact Cj P w i t
 | inr x=>obtain⟨t,e⟩:=(show ∃t,u=Value.str x t from r);subst e;exact Da P w x t
theorem JO{P:Program}{w:World}:∀{ks:List aL}{a:List Value},Vals (ks.map kV) a->ItemsAre (cE P w) ks a
 | [],_,r=>by rw[List.map_nil]at r;cases r;exact .nil
 | k::ks,_,r=>by
  rw[eM]at r;cases r with
  | cons h t=>exact .cons (nL h)<|JO t
abbrev KT(H:Hp):List (List aL×V)->List (List aL×Addr×Value)->Prop:=Paired λp q=>p.1=q.1/\H q.2.1=some (.tup<|p.1.map kV)/\RelV p.2 q.2.2
def KT.val{H:Hp}{kvs:List (List aL×V)}{xs:List (List aL×Addr×Value)}(r:KT H kvs xs)(k:List aL):RelO (aN kvs k) ((atKey xs k).map (·.2)):=by
 induction r with
 | nil=>exact jG
 | @cons p q ps qs h t ih=>
  obtain⟨h1,_,h2⟩:=h
  by_cases e:p.1=k
  .have a:q.1=k:=h1.symm.trans e;have b:atKey (q::qs) k=some q.2:=by simp[atKey,wX,a]
   rw[kN e,b];exact h2
  .have a:¬q.1=k:=λz=>e<|h1.trans z;have b:atKey (q::qs) k=atKey qs k:=by simp[atKey,wX,a]
   rw[jZ e,b];exact ih
def KT.repl{H:Hp}{kvs:List (List aL×V)}{xs:List (List aL×Addr×Value)}(r:KT H kvs xs)(k:List aL){y:V}{u:Value}(b:RelV y u):
  KT H (kvs.map λa=>if a.1=k then(a.1,y) else a) (xs.map<|putAt k u):=by
 induction r with
 | nil=>exact .nil
 | @cons p q ps qs h t ih=>
  rw[eM,eM];refine .cons ?_ ih;obtain⟨h1,h2,d⟩:=h;unfold putAt
  by_cases e:p.1=k
  .rw[aR e,aR<|h1.symm.trans e];exact⟨h1,h2,b⟩
  .rw[aK e,aK λz=>e<|h1.trans z];exact⟨h1,h2,d⟩
def KT.put{H:Hp}{kvs:List (List aL×V)}{xs:List (List aL×Addr×Value)}(r:KT H kvs xs)(k:List aL){b:Addr}{y:V}{u:Value}(f:H b=some (.tup<|k.map kV))(a:RelV y u):
  KT H (aU kvs k y) (storedH xs k b u):=by
 have e:(kvs.any λd=>decide<|d.1=k)=(atKey xs k).isSome:=by
  rw[pM,(r.val k).isSome_eq,Option.isSome_map]
 unfold aU storedH;rw[e]
 by_cases q:(atKey xs k).isSome=true
 .rw[aR q,aR q];exact r.repl k a
 .rw[aK q,aK q];exact Paired.snoc r ⟨rfl,f,a⟩
def KT.keeps{H H':Hp}{kvs:List (List aL×V)}{xs:List (List aL×Addr×Value)}(r:KT H kvs xs)(a:∀b ys,H b=some (.tup ys)->H' b=some (.tup ys)):KT H' kvs xs:=
 Paired.mapP r λ_ _ z=>⟨z.1,a _ _ z.2.1,z.2.2⟩
section
variable{P:Program}{w:World}{H:Hp}{h:Heap}{a:Addr}
def oH{u:HO}(ok:HOk P w H h)(e:Rd H a u):ObjOk P w H h a u:=e.ok ok
def mF{kvs:List (aL×V)}(ok:HOk P w H h)(e:Rd H a (.dK kvs)):↑kvs<=sizeLine/\(a == sysModules)=false/\∃vs,KV kvs vs/\h.DictOf (cE P w) a vs:=
 show ObjOk P w H h a (.dK kvs) from oH ok e
def mX{kvs:List (aL×V)}(ok:HOk P w H h)(e:H a=some (.dK kvs)):↑kvs<=sizeLine/\(a == sysModules)=false/\∃vs,KV kvs vs/\h.DictOf (cE P w) a vs:=mF ok<|.inl e
def xF{ks:List aL}(ok:HOk P w H h)(e:H a=some (.tup<|ks.map kV)):(tupleKind<|cE P w).is h ks a:=by
 obtain⟨_,its,r,o,h1,h2,n,b⟩:=(show ObjOk P w H h a (.tup<|ks.map kV) from ok a _ e);exact⟨o,its.toArray,n,h1,h2,b,by simpa using JO r⟩
def vJ{kvs:List (List aL×V)}(ok:HOk P w H h)(e:Rd H a (.dT kvs)):↑kvs<=sizeLine/\(a == sysModules)=false/\
  ∃xs,KT H kvs xs/\h.DictOfH (tupleKind<|cE P w) a xs:=by
 obtain⟨z,y,xs,r,o,es,ep,h1,h2,i,d,f⟩:=(show ObjOk P w H h a (.dT kvs) from oH ok e);refine⟨z,y,xs,r,o,es,ep,h1,h2,i,d,λx b=>?_,f⟩;have all:∀{l:List (List aL×V)}{m:List (List aL×Addr×Value)},KT H l m->∀x∈m,(tupleKind<|cE P w).is h x.1 x.2.1:=by
  intro l m q
  induction q with
  | nil=>intro x b;exact nomatch b
  | @cons p q ps qs hq t ih=>
   intro x b;rcases vh3.mp b with e | b
   .subst e;exact xF ok (by rw[<-hq.1];exact hq.2.1)
   .exact ih x b
 exact all r x b
def IH{kvs:List (List aL×V)}(ok:HOk P w H h)(e:H a=some (.dT kvs)):↑kvs<=sizeLine/\(a == sysModules)=false/\
  ∃xs,KT H kvs xs/\h.DictOfH (tupleKind<|cE P w) a xs:=vJ ok<|.inl e
end
def DGet(H:Hp)(a:Addr)(y:V)(r:Option V):Prop:=
 (∃kvs k,Rd H a (.dK kvs)/\y=kV k/\r=aN kvs k)\/∃kvs k b,Rd H a (.dT kvs)/\y=.ref b/\H b=some (.tup<|k.map kV)/\r=aN kvs k
def DPut(H:Hp)(a:Addr)(y v:V)(H':Hp):Prop:=
 (∃kvs k,H a=some (.dK kvs)/\y=kV k/\↑kvs<sizeLine/\H'=aA H a (.dK<|aU kvs k v))\/
 ∃kvs k b,H a=some (.dT kvs)/\y=.ref b/\H b=some (.tup<|k.map kV)/\↑kvs<sizeLine/\H'=aA H a (.dT<|aU kvs k v)
theorem DGet.k{H:Hp}{a:Addr}{kvs:List (aL×V)}{k:aL}(e:H a=some (.dK kvs)):DGet H a (kV k) (aN kvs k):=.inl ⟨kvs,k,.inl e,rfl,rfl⟩
theorem DPut.k{H:Hp}{a:Addr}{kvs:List (aL×V)}{k:aL}{v:V}(e:H a=some (.dK kvs))(hl:↑kvs<sizeLine):DPut H a (kV k) v (aA H a<|.dK<|aU kvs k v):=.inl ⟨kvs,k,e,rfl,hl,rfl⟩
def DPut.t{H:Hp}{a b:Addr}{kvs:List (List aL×V)}{k:List aL}{v:V}(e:H a=some (.dT kvs))(d:H b=some (.tup<|k.map kV))(hl:↑kvs<sizeLine):
  DPut H a (.ref b) v (aA H a<|.dT<|aU kvs k v):=.inr ⟨kvs,k,b,e,rfl,d,hl,rfl⟩
section
variable{pins:List (Addr×Obj)}{σ:St}{H:Hp}{s:Shared}{a:Addr}{y v:V}{u r:Value}{o:Option V}{A:Around}{E:Vp}
def Inv.big(I:Inv X pins σ H s):sysModules<s⁻¹:=by
 have h:mainGlobals<s⁻¹:=(I.mod.glob.keeps I.bk).lt;exact fP (by decide) h
def Eh{Q:Vp}(q:A.units+1<cLine)(I:Inv X pins σ H s)(g:DGet H a y (some v))(m:RelV y u)(h:∀d s',Inv X pins σ H s'->RelV v d->Q d s'):
  wpAny (model X.prog X.w) A (getItem (.ref a) u) Q E s:=by
 rcases g with ⟨kvs,k,e,ey,l⟩ | ⟨kvs,k,b,e,ey,eb,l⟩
 .subst ey;obtain⟨z,hd,r,f,j⟩:=mF I.hok e;obtain⟨d,i,a1⟩:=RelO.some_of (v:=v) (o:=valueAt r k) (by rw[l];exact f.val k);exact wpAny_getItem_of (nL m) j.mapOf i<|h d _ (I.tok _) a1
 .subst ey;cases (show u=Value.ref b from m);obtain⟨z,hd,xs,f,j⟩:=vJ I.hok e;obtain⟨d,i,a1⟩:=RelO.some_of (v:=v) (o:=(atKey xs k).map (·.2)) (by rw[l];exact f.val k);obtain⟨p,n,x⟩:=vg8.mp i;refine wpAny_getItem_heap (rB q) (xF I.hok eb) j n ?_;rw[x];exact h d _ (I.tok _) a1
def nI{h':Heap}{t':Nat}{d:HO}(I:Inv X pins σ H s)(h:zN (H a))(f:Heap.SameBut a s.heap h')(j:∃q,h'.get? a=some q)(new:ObjOk X.prog X.w (aA H a d) h' a d):
  Inv X pins σ (aA H a d) {s with heap:=h',toks:=t'}:=
 I.write (x:=a) (e:=a) h (.inl rfl) (λb q i z=>(f.2 b i).trans z) j new
def yR{P:Program}{w:World}{H':Hp}{h':Heap}{kvs:List (aL×V)}{b:List (aL×Value)}(z:↑kvs<=sizeLine)(hd:(a == sysModules)=false)(d:KV kvs b)(e:h'.DictOf (cE P w) a b):
  ObjOk P w H' h' a (.dK kvs):=⟨z,hd,b,d,e⟩
def ZZ{H':Hp}{Q:Unit->Shared->Prop}(p:A.units+1<cLine)(I:Inv X pins σ H s)(g:DPut H a y v H')(m:RelV y u)(o:RelV v r)(h:∀s',Inv X pins σ H' s'->Q () s'):
  wpAny (model X.prog X.w) A (setItem (.ref a) u r) Q E s:=by
 rcases g with ⟨kvs,k,e,ey,l,eH⟩ | ⟨kvs,k,b,e,ey,eb,l,eH⟩
 .subst ey eH;obtain⟨z,hd,x,d,i⟩:=mX I.hok e;have hz:↑x<=sizeLine:=by rw[<-↑d];exact z
  have hl:↑(aU kvs k v)<=sizeLine:=by have:=nM kvs k v;lia
  refine wpAny_setItem_pairs (hsz:=hz) (nL m) i λh' a1 j=>h _ ?_;have C:∃q,h'.get? a=some q:=let ⟨q,_,_,f,_⟩:=a1;⟨q,f⟩
  exact nI I (by rw[e];exact jG) j C<|yR hl hd (d.put k o) a1
 .subst ey eH;cases (show u=Value.ref b from m);obtain⟨z,hd,xs,d,i⟩:=IH I.hok e;have hz:↑xs<=sizeLine:=by rw[<-DW d];exact z
  have hl:↑(aU kvs k v)<=sizeLine:=by have:=nM kvs k v;lia
  refine wpAny_setItem_heap (hsz:=hz) (rB p) (xF I.hok eb) i λh' a1 j=>h _ ?_;obtain⟨q,es,ep,f,h2,J,B,_,G⟩:=a1;refine nI I (by rw[e];exact jG) j ⟨q,f⟩ ⟨hl,hd,_,(d.put k eb o).keeps λc ys n=>?_,q,es,ep,f,h2,J,B,G⟩;rw[aI<|KS n e λz=>nomatch z];exact n
end
section
variable{pins:List (Addr×Obj)}{σ:St}{H:Hp}{s:Shared}{a:Addr}{kvs:List (aL×V)}{k:aL}{u:Value}{A:Around}{E:Vp}
def yM{Q:Vp}(I:Inv X pins σ H s)(e:Rd H a (.dK kvs))(h:∀t s',Inv X pins σ H s'->Q (.int ↑kvs t) s'):wpAny (model X.prog X.w) A (call (.builtin "len") [.ref a]) Q E s:=by
 obtain⟨z,hd,f,b,d⟩:=mF I.hok e;refine call_len_dict hd d (by rw[<-↑b];rw[kR]at z;lia) ?_;rw[<-↑b];exact h _ _<|I.tok _
end
def zB(i:Expr):Prop:=∀ov iv,subscripted i false ov iv=operate [ov,iv] (getItem ov iv)
def YP{prog:Program}{w:World}{A:Around}{E:Vp}{s:Shared}{env:Env}{value a:Expr}{pos:Pos}{T id:String}{Q:Vp}
  (hl:typeLookup (.type T) "__getitem__"=pure (some<|.builtin id)) (p:zB a)
  (h:wpAny (model prog w) A (eval value env) (λo j=>wpAny (model prog w) A (eval a env) (λi b=>b.TypeIs o T/\wpAny (model prog w) A (getItem o i) Q E b) E j) E s):
  wpAny (model prog w) A (eval (.Subscript value a pos) env) Q E s:=by
 refine Subscript_<|fM h (λo j m=>fM m (λi b d=>?_) λ_ _ x=>x) λ_ _ x=>x;obtain⟨f,d⟩:=d;unfold subscriptTail;refine aB ?_;rw[getitemInPython_of_ne f.not_modules];refine aB<|kE f hl ?_;have e:wpAny (model prog w) A (subscripted a false o i) (λr l=>wpAny (model prog w) A (letTemporaryGo value o r >>= λ_=>pure r) Q E l) E b:=by
  rw[p o i];exact wpAny_operating<|fM d (λr l n=>aB<|wpAny_letTemporaryGo<|aD n) λ_ _ x=>x
 first
  | exact aD (aB e)
  | exact aB (aD<|aB e)
  | exact aB e
def YY{X:Cx}{f:List (Addr×Obj)}{σ:St}{H:Hp}{s:Shared}{a:Addr}{y:V}{o:Option V}(I:Inv X f σ H s)(g:DGet H a y o):s.TypeIs (.ref a) "dict":=by
 rcases g with ⟨kvs,k,e,_,_⟩ | ⟨kvs,k,b,e,_,_,_⟩
 .obtain⟨_,_,h,_,d⟩:=mF I.hok e;exact d.typeIs
 .obtain⟨_,_,xs,_,d⟩:=vJ I.hok e;exact d.typeIs
inductive SO(x y:V)(H:Hp)(Q:VK):Prop
 | mk(a:Addr)(v:V)(h1:x=.ref a)(h2:DGet H a y (some v))(q:Q v H):SO x y H Q
def wJ(td ty:TE):TE:=λσ H Q=>td σ H λx H1=>ty σ H1 λy H2=>SO x y H2 Q
def oY(td ty tv:TE):TS:=λD σ H=>tv σ H λv H1=>td σ H1 λx H2=>ty σ H2 λy H3=>∃a H4,x=.ref a/\DPut H3 a y v H4/\D.nx σ H4
section
variable{o i e value:Expr}{pos pos' tpos:Pos}{td ty tv:TE}
def cT(e:X.A.units+1<cLine)(f:PE X o td)(hi:PE X i ty)(p:zB i):PE X (.Subscript o i pos) (wJ td ty):=by
 intro d s σ H Q I h;refine YP PySem.F.slot_dict_getitem.lookup p<|aS (f d s σ H _ I h) λu r ⟨x,H1,n,q,m⟩=>aS (hi d r σ H1 _ n m) ?_;rintro z s2 ⟨y,H2,b,j,a,v,ex,g,l⟩;subst ex;obtain rfl:u=Value.ref a:=q;exact⟨YY b g,Eh e b g j λB s3 w a1=>⟨v,H2,w,a1,l⟩⟩
def mU(n:X.A.units+1<cLine)(q:PE X o td)(hi:PE X i ty)(J:PE X value tv)(e:swapsWith value (some<|.Subscript o i pos') pos.line X.env=pure false):
  PS X (.Assign [.Subscript o i pos'] value pos) (oY td ty tv):=by
 intro b s σ H D I h;refine wpAny_Assign_Subscript (aS (J b s σ H _ I h) λr l ⟨v,H1,G,f,E⟩=>aS (q b l σ H1 _ G E) λu s2 ⟨x,H2,z,j,w⟩=>aS (hi b s2 σ H2 _ z w) λK s3 ⟨y,H3,m,B,a,p,ex,g,d⟩=>?_) e;subst ex;obtain rfl:u=Value.ref a:=j;exact ZZ n m g B f λs4 C=>⟨σ,p,C,d⟩
end
def IE{P:Program}{w:World}{H:Hp}(h:Heap)(a:sysModules<h.objs.size):ObjOk P w H (h.push {cls:=.type "dict",data:=.dict #[]}) h.objs.size (.dK []):=
 ⟨bO _,uh3.mpr<|cW<|bI a,[],.nil,Heap.DictOf.new h⟩
def TU{P:Program}{w:World}{H:Hp}(h:Heap)(a:sysModules<h.objs.size):ObjOk P w H (h.push {cls:=.type "dict",data:=.dict #[]}) h.objs.size (.dT []):=
 ⟨bO _,uh3.mpr<|cW<|bI a,[],.nil,_,#[],0,bY _ rfl,⟨rfl,rfl,rfl⟩,rfl,rfl,kD⟩
def UO:TE:=λ_ H Q=>∀p,H p=none->Q (.ref p) (aA H p<|.dK [])
def tS:TE:=λ_ H Q=>∀p,H p=none->Q (.ref p) (aA H p<|.dT [])
section
variable{pos:Pos}
def wH:PE X (.Dict [] [] pos) UO:=λb s σ H Q I h=>
 wpAny_Dict_empty ⟨.ref s⁻¹,_,I.laid (a:=s⁻¹) (o:=.dK []) (t':=s.toks) (λ_ _ q=>aZ _ q) (aO _)<|IE s.heap I.big,rfl,h _<|I.hok.fresh<|aO _⟩
def YI:PE X (.Dict [] [] pos) tS:=λb s σ H Q I h=>
 wpAny_Dict_empty ⟨.ref s⁻¹,_,I.laid (a:=s⁻¹) (o:=.dT []) (t':=s.toks) (λ_ _ q=>aZ _ q) (aO _)<|TU s.heap I.big,rfl,h _<|I.hok.fresh<|aO _⟩
end
def KF:List (TE×TE)->St->Hp->(List (V×V)->Hp->Prop)->Prop
 | [],_,H,Q=>Q [] H
 | (tk,tv)::r,σ,H,Q=>tk σ H λx H1=>tv σ H1 λy H2=>KF r σ H2 λps H3=>Q ((x,y)::ps) H3
abbrev VV:List (V×V)->List (Value×Value)->Prop:=Paired λp q=>RelV p.1 q.1/\RelV p.2 q.2
def wY(X:Cx)(pos:Pos)(keys:List (Option Expr))(values:List Expr)(trs:List (TE×TE)):Prop:=
 ∀(pins:List (Addr×Obj))(s:Shared)(σ:St)(H:Hp)(Q:List (V×V)->Hp->Prop),Inv X pins σ H s->KF trs σ H Q->
  wpAny (model X.prog X.w) X.A (evalPairs<|pairTrees keys values X.env pos) (λvs s'=>∃ps H',Inv X pins σ H' s'/\VV ps vs/\Q ps H') X.xe s
def WE{X:Cx}{pos:Pos}:wY X pos [] [] []:=λa s σ H Q I h=>pairTrees_nil_walk ⟨[],H,I,.nil,h⟩
def OH{X:Cx}{pos:Pos}{k v:Expr}{ks:List (Option Expr)}{b:List Expr}{tk tv:TE}{a1:List (TE×TE)}(l:PE X k tk)(r:PE X v tv)(w:wY X pos ks b a1):
  wY X pos (some k::ks) (v::b) ((tk,tv)::a1):=λa s σ H Q I h=>
 pairTrees_cons_walk (aS (l a s σ H _ I h) λu i ⟨x,H1,q,f,p⟩=>aS (r a i σ H1 _ q p) λz s2 ⟨y,H2,o,m,n⟩=>
  aS (w a s2 σ H2 _ o n) <| by rintro ws s3 ⟨ps,H3,j,e,d⟩;exact⟨(x,y)::ps,H3,j,.cons ⟨f,m⟩ e,d⟩)
def dX(kvs more:List (aL×V)):List (aL×V):=more.foldl (λacc kv=>aU acc kv.1 kv.2) kvs
def KV.merge:∀{more:List (aL×V)}{rs:List (aL×Value)}{kvs:List (aL×V)}{a:List (aL×Value)},KV more rs->KV kvs a->KV (dX kvs more) (merged a rs):=by
 intro more rs kvs a r;unfold KV at r
 induction r generalizing kvs a with
 | nil=>intro q;exact q
 | @cons p q ps qs h t ih=>
  intro b;have e:KV (aU kvs p.1 p.2) (stored a q.1 q.2):=by
   have:=b.put p.1 h.2;rw[<-h.1];exact this
  exact ih e
theorem wG:∀(more kvs:List (aL×V)),↑(dX kvs more)<=↑kvs+↑more
 | [],kvs=>by show ↑kvs<=↑kvs+0;lia
 | p::r,kvs=>by
  have h1:=wG r<|aU kvs p.1 p.2;have h2:=nM kvs p.1 p.2;show(dX (aU kvs p.1 p.2) r).length<=_;rw[cY];lia
theorem QQ{P:Program}{w:World}:∀{kvs:List (aL×V)}{ws:List (Value×Value)},VV (kvs.map λd=>(kV d.1,d.2)) ws->∃rs,Carries (cE P w) ws rs/\KV kvs rs
 | [],_,r=>by rw[List.map_nil]at r;cases r;exact⟨[],jG,.nil⟩
 | p::kvs,_,r=>by
  rw[eM]at r;cases r with
  | @cons a b as bs h t=>
   obtain⟨rs,c,q⟩:=QQ (P:=P) (w:=w) t;obtain⟨b1,e⟩:=b;exact⟨(p.1,e)::rs,⟨nL h.1,rfl,c⟩,.cons ⟨rfl,h.2⟩ q⟩
def pW(trs:List (TE×TE)):TE:=λσ H Q=>∀p,H p=none->KF trs σ (aA H p<|.dK []) λps H2=>H2 p=some (.dK [])/\∃kvs:List (aL×V),ps=kvs.map (λkv=>(kV kv.1,kv.2))/\↑kvs<=15/\Q (.ref p) (aA H2 p<|.dK<|dX [] kvs)
def XP{X:Cx}{pos:Pos}{a1:List (Option Expr)}{b:List Expr}{d:List (TE×TE)}(h:wY X pos a1 b d)(r:a1.all (·.isSome)=true)(hl:↑a1=↑b)(v:a1≠[])
  (n:↑a1<=15):PE X (.Dict a1 b pos) (pW d):=by
 intro l s σ H Q I q;have u:=I.hok.fresh<|aO s⁻¹;have B:=I.laid (a:=s⁻¹) (o:=.dK []) (h':=s.heap.push {cls:=.type "dict",data:=.dict #[]}) (t':=s.toks) (λ_ _ q=>aZ _ q) (aO _)<|IE s.heap I.big;refine wpAny_Dict_walk (knd:=cE X.prog X.w) r hl v n<|aS (h l _ σ _ _ B<|q _ u) ?_;rintro ws s2 ⟨ps,H2,f,j,e,kvs,ep,G,A⟩;subst ep;obtain⟨rs,c,E⟩:=QQ (P:=X.prog) (w:=X.w) j;obtain⟨z,hd,J,m,x⟩:=mX f.hok e;cases m;refine⟨rs,c,x,λh' i p=>⟨.ref s⁻¹,_,?_,rfl,A⟩⟩;have hz:↑(dX [] kvs)<=sizeLine:=by
  have h1:=wG kvs [];rw[jX]at h1;rw[kR];lia
 have C:∃q,h'.get? s⁻¹=some q:=let ⟨q,_,_,hq,_⟩:=i;⟨q,hq⟩
 exact nI f (by rw[e];exact jG) p C<|yR hz hd (E.merge .nil) i
structure M1(X:Cx)(o:Expr)(m:Str)(apos:Pos)(e:Expr)(cpos:Pos):Prop where
 base:attributeBase o m X.env (eval o X.env)=eval o X.env
 few:((backTo cpos<|starEach [e] X.env).all (λx=>!x.1) && (backToKw cpos<|keywordEach [] X.env).all (λx=>x.1.isSome) && decide (↑([e]:List Expr)+↑([]:List Keyword)+(if ([]:List Keyword).isEmpty then 0 else 1)<30))=true
 line:(apos.endLine == cpos.line)=true
 trees:backTo cpos (starEach [e] X.env)=[(false,eval e X.env)]
structure M2(X:Cx)(o:Expr)(m:Str)(apos:Pos)(e f:Expr)(cpos:Pos):Prop where
 base:attributeBase o m X.env (eval o X.env)=eval o X.env
 few:((backTo cpos<|starEach [e,f] X.env).all (λx=>!x.1) && (backToKw cpos<|keywordEach [] X.env).all (λx=>x.1.isSome) && decide (↑([e,f]:List Expr)+↑([]:List Keyword)+(if ([]:List Keyword).isEmpty then 0 else 1)<30))=true
 line:(apos.endLine == cpos.line)=true
 trees:backTo cpos (starEach [e,f] X.env)=[(false,eval e X.env),(false,eval f X.env)]
def vK(H:Hp)(a:Addr):Prop:=(∃kvs,Rd H a<|.dK kvs)\/∃kvs,Rd H a<|.dT kvs
def xA{X:Cx}{i:List (Addr×Obj)}{σ:St}{H:Hp}{s:Shared}{a:Addr}(I:Inv X i σ H s)(d:vK H a):
  s.TypeIs (.ref a) "dict"/\(∀b,Value.ref a=.ref b->∃f,s.heap.get? b=some f/\f.dict=none)/\(a == sysModules)=false:=by
 rcases d with ⟨kvs,e⟩ | ⟨kvs,e⟩
 .obtain⟨_,hd,j,_,h⟩:=mF I.hok e;refine⟨h.typeIs,λb q=>?_,hd⟩;cases q;obtain⟨f,_,_,h1,h2,_⟩:=h;exact⟨f,h1,h2.2.1⟩
 .obtain⟨_,hd,xs,_,h⟩:=vJ I.hok e;refine⟨h.typeIs,λb q=>?_,hd⟩;cases q;obtain⟨f,_,_,h1,h2,_⟩:=h;exact⟨f,h1,h2.2.1⟩
section
variable{pins:List (Addr×Obj)}{σ:St}{H:Hp}{s:Shared}{a:Addr}{y d:V}{u r:Value}{o:Option V}{A:Around}{E:Vp}
def OF{Q:Vp}(j:A.units+1<cLine)(I:Inv X pins σ H s)(g:DGet H a y o)(i:RelV y u)(h:∀w' s',Inv X pins σ H s'->RelV (o.getD .non) w'->Q w' s'):
  wpAny (model X.prog X.w) A (call (.builtin "dict.get") [.ref a,u]) Q E s:=by
 rcases g with ⟨kvs,k,e,ey,l⟩ | ⟨kvs,k,b,e,ey,eb,l⟩
 .subst ey;obtain⟨z,hd,m,f,d⟩:=mF I.hok e;refine mV mC d.typeIs xD (JR _ _) (meets_dict_get (cE X.prog X.w) a (nL i) hd) ⟨_,d.mapOf,h _ _ (I.tok _) ?_⟩;rw[l];exact(f.val k).getD rfl
 .subst ey;cases (show u=Value.ref b from i);obtain⟨z,hd,xs,f,d⟩:=vJ I.hok e;refine mV mC d.typeIs xD (JR _ _) (meetsH_dict_get (tupleKind<|cE X.prog X.w) a b hd) ⟨rB j,k,xs,xF I.hok eb,d,h _ _ (I.tok _) ?_⟩;rw[l];exact(f.val k).getD rfl
def RB{Q:Vp}(n:A.units+1<cLine)(I:Inv X pins σ H s)(g:DGet H a y o)(j:RelV y u)(m:RelV d r)(h:∀w' s',Inv X pins σ H s'->RelV (o.getD d) w'->Q w' s'):
  wpAny (model X.prog X.w) A (call (.builtin "dict.get") [.ref a,u,r]) Q E s:=by
 rcases g with ⟨kvs,k,e,ey,l⟩ | ⟨kvs,k,b,e,ey,eb,l⟩
 .subst ey;obtain⟨z,hd,p,i,f⟩:=mF I.hok e;refine mV mC f.typeIs xD (IU _ _ _) (meets_dict_get_default (cE X.prog X.w) a (nL j) hd r) ⟨_,f.mapOf,h _ _ (I.tok _) ?_⟩;rw[l];exact(i.val k).getD m
 .subst ey;cases (show u=Value.ref b from j);obtain⟨z,hd,xs,i,f⟩:=vJ I.hok e;refine mV mC f.typeIs xD (IU _ _ _) (meetsH_dict_get_default (tupleKind<|cE X.prog X.w) a b hd r) ⟨rB n,k,xs,xF I.hok eb,f,h _ _ (I.tok _) ?_⟩;rw[l];exact(i.val k).getD m
end
def qY(td ty:TE):TE:=λσ H Q=>td σ H λx H1=>∃a,x=.ref a/\vK H1 a/\ty σ H1 λy H2=>∃o,DGet H2 a y o/\Q (o.getD .non) H2
def RU(td ty tx:TE):TE:=λσ H Q=>td σ H λx H1=>∃a,x=.ref a/\vK H1 a/\ty σ H1 λy H2=>tx σ H2 λz H3=>∃o,DGet H3 a y o/\Q (o.getD z) H3
section
variable{o e f:Expr}{apos cpos:Pos}{td ty tx:TE}
def yS(i:X.A.units+1<cLine)(j:PE X o td)(w:PE X e ty)(m:M1 X o "get" apos e cpos):PE X (.Call (.Attribute o "get" apos) [e] [] cpos) (qY td ty):=by
 intro b s σ H Q I h;refine sT m.base m.few m.line oI mC FD<|aS (j b s σ H _ I h) ?_;rintro u z ⟨x,H1,f,v,a,ex,d,r⟩;subst ex;obtain rfl:u=Value.ref a:=v;obtain⟨q,t2,_⟩:=xA f d;exists q,t2;rw[m.trees];refine oM rfl<|sK<|kP<|aS (w b z σ H1 _ f r) λC s2 ⟨y,H2,p,l,G,g,n⟩=>pF ?_;exact OF i p g l λE s3 B a1=>⟨_,H2,B,a1,n⟩
def Et(v:X.A.units+1<cLine)(w:PE X o td)(L:PE X e ty)(l:PE X f tx)(m:M2 X o "get" apos e f cpos):PE X (.Call (.Attribute o "get" apos) [e,f] [] cpos) (RU td ty tx):=by
 intro b s σ H Q I h;refine sT m.base m.few m.line oI mC FD<|aS (w b s σ H _ I h) ?_;rintro u p ⟨x,H1,i,n,a,ex,d,K⟩;subst ex;obtain rfl:u=Value.ref a:=n;obtain⟨G,t2,_⟩:=xA i d;exists G,t2;rw[m.trees];refine oM rfl (sK (kP (aS (L b p σ H1 _ i K) λO s2 ⟨y,H2,B,C,E⟩=>
  kP (aS (l b s2 σ H2 _ B E) λM s3 ⟨z,H3,q,r,P,g,j⟩=>pF ?_))))
 exact RB v q g C r λN s4 J a1=>⟨_,H3,J,a1,j⟩
end
section
variable{pins:List (Addr×Obj)}{σ:St}{H:Hp}{s:Shared}{a:Addr}{kvs:List (aL×V)}{A:Around}{E:Vp}
end
section
variable{pins:List (Addr×Obj)}{σ:St}{H:Hp}{s:Shared}{a:Addr}{y:V}{u:Value}{A:Around}{E:Vp}
end
end L2
namespace Att
open PySem PySem.W PySem.Calls PyProof.Rows
def WZ{P:Params}{h:Heap}:∀(d:List Int)(e:List Value),WellAll P h e (d.map WData.int)->IntsAre e d:=by
 intro d
 induction d with
 | nil=>
  intro e w;rw[List.map_nil]at w;cases w;exact .nil
 | cons n d ih=>
  intro e w;rw[eM]at w;cases w with
  | cons a b=>
   cases a;exact .cons _ _<|ih _ b
def XA{l:OpenLaw}{n:Nat}(v:l.most=some n){P:Params}{h:Heap}{args:List WData}{j:List Value}
  (a1:l.row.toRowW.claim.pre args=true) (p:WellAll P h j args):
  ∃a vs b,j=[Value.ref a]/\args=[WData.list<|b.map WData.int]/\h.get? a=some {cls:=.type "list",data:=.seq vs.toArray}/\IntsAre vs b/\↑b<=n:=by
 have m:WShape.hasAll [] args [.list .int]=true:=(pre_splitW a1).1;have i:l.pre.holds [] {args:=args}=true:=(pre_splitW a1).2;obtain⟨d,r,rfl,h1,h2⟩:=hasAllW_cons m;obtain rfl:=hasAllW_nil h2;obtain⟨xs,rfl,s⟩:=hasW_list h1;obtain⟨b,rfl⟩:=items_int s;have o:↑b<=n:=by
  unfold OpenLaw.pre at i;have e:(WTm.not<|.lt (.lit<|.int (n:Int))<|.len<|.arg 0).holds [] {args:=[.list<|b.map .int]}=true:=by
   have e:=(holds_andW i).1;rw[v]at e;exact e
  have f:=condW_of e<|w_not<|w_lt w_lit<|w_len_list<|w_arg rfl;rw[aG]at f;refine Nat.le_of_not_lt λq=>?_;have u:(n:Int)<((↑b:Nat):Int):=by lia
  first
   | (rw[cI u]at f;exact absurd f<|by decide)
   | (simp at f;lia)
 cases p with
 | cons w1 w2=>
  cases w2;cases w1 with
  | list ho hall=>exact⟨_,_,b,rfl,rfl,ho,WZ b _ hall,o⟩
def Ea(l:OpenLaw)(args:List WData):l.row.toRowW.claim.post args (.bool true) args=true:=
 postW_of (r:=l.row.toRowW) (X:=(true == true))
  (show WShape.has [] (.bool true) .bool=true by first | rfl | decide | simp[WShape.has,WShape.arms,WShape.armsAll])
  (show(WTm.eq .res<|.lit<|.bool true).value [] {args:=args,res:=some<|.bool true,after:=args}=some (.bool<|true == true) from w_eq_bool (w_res rfl) w_lit) rfl
def attach_call{l:OpenLaw}{n:Nat}{q:Program}{u:List Str}{x:(Str->Option Value)->Heap->Prop}{z:World->Heap->Prop}{d:DefRec}
  (L:l.most=some n) (T:d.params.defaults=[])
  (call:∀(w:World)(s₀ b:Shared)(mg s:Str->Option Value)(h:Addr)(o:Obj)(m i p:Value)(a:Addr)(e:List Value)(j:List Int), Ground q u [] x w s₀ mg s b.heap->z w b.heap-> b.heap.get? h=some o->o.data=.func (docDef d.name d.params d.body d.scope m i p)->b.heap.CodeRec i d.name->mg d.name=some (.ref h)-> b.heap.get? a=some {cls:=.type "list",data:=.seq e.toArray}->IntsAre e j->↑j<=n->b.gens=#[]-> codeAny (model l.prog w) callerA (.call (.ref h) ⟨[.ref a],[]⟩) (λr s'=>r=.ok (.ret<|.bool true)/\OldK b.heap s'.heap/\s'.os=b.os/\AllBare s'.gens) b):
  WalkO q u x z l.row.toRowW d [] (λf e=>PySem.call f e):=by
 intro w s₀ b mg s G Y h o m i p N kV O hd M v C B args aa as A Z ad I X;obtain rfl:N=.none:=Dflts.none v T;obtain rfl:kV=.none:=Dflts.noKw v;obtain⟨a,e,j,rfl,rfl,H,a1,J⟩:=XA L A I;refine enter_call<|codeAny_mono (call w s₀ b mg s h o m i p a e j G Y O (fd_plain hd) M C H a1 J B) λr s' E=>?_;obtain⟨rfl,h2,K,W⟩:=E;exact⟨.inl ⟨.bool true,.bool true,[],rfl,λ_=>rfl,.bool true,Ea l _,λ_=>⟨List.Pairwise.nil,λ_ P=>(nomatch P)⟩⟩,h2,K,W⟩
section
variable{prog:Program}{w:World}{A:Around}{E:Vp}{s:Shared}{K:Frag}
end
end Att
namespace L2
open PySem PySem.Spec PyProof.Rows
variable{prog:Program}{w:World}{A:Around}{E:Vp}{s:Shared}
variable{X:Cx}
theorem RM:∀{a:List Value}{b:List Int},IntsAre a b->Vals (b.map V.int) a
 | _,_,.nil=>.nil
 | _,_,.cons n t h=>.cons ⟨t,rfl⟩<|RM h
def tH(H:Hp):Prop:=∀b,H b=none\/∃o xs,H b=some (.frz o<|.lst xs)
def YX{P:Program}{w:World}{K:Fg}{mg I:Str->Option Value}{CX:lC}{k:Nat}{E a:Addr}{fd:FuncData}{x:Str}{sp:Sp}{f:Shared}{j:List Value}{A:List Int}
  (W:K.In f.heap) (N:f.heap.Ns mainGlobals mg) (i:f.heap.Ns builtinsNs I) (aa:∀x:Str,x≠"__name__"->I x=bootBuiltins x) (a5:f.heap.NoLimit) (hg:f.gens=#[])
  (ha:f.heap.get? a=some {cls:=.type "list",data:=.seq j.toArray}) (hi:IntsAre j A) (hl:A.length<=sizeLine) (hr:Room k callerA)
  (F:∀base:Heap,K.In base->base.Ns mainGlobals mg->bB P w K mg base CX k E fd [x] sp) (a1:∀(s:Shared)(u:Value),BindsTo s fd ⟨[u],[]⟩ [(x,u)])
  (ab:∀H:Hp,tH H->SqL K H a (A.map V.int)->sp [.ref a] H (λv _=>v=.bl true) λ_ _ _=>False)
  (a9:∀H e s',CX [] H f (λ_ _ _=>False) e s'->False):
  codeAny (model P w) callerA (.call (.ref E) ⟨[.ref a],[]⟩) (λr s'=>r=.ok (.ret<|.bool true)/\OldK f.heap s'.heap/\s'.os=f.os/\AllBare s'.gens) f:=by
 have T:=RM hi;have a6:=↑hi;have M:∀H:Hp,tH H->SqL K H a (A.map V.int)->HOk P w H f.heap->(∀b,H b≠none->b=a)->(H a≠none->K.lookup a=none)->
   codeAny (model P w) callerA (.call (.ref E) ⟨[.ref a],[]⟩) (λr s'=>r=.ok (.ret<|.bool true)/\OldK f.heap s'.heap/\s'.os=f.os/\AllBare s'.gens) f:=by
  intro H X hS p Y hK;have O:∀{b:Addr}{o:Obj},f.heap.get? b=some o->H b=none->(gQ f.heap H).get? b=some o:=λe n=>ZY e n;have ac:∀{b:Addr}{o:Obj}{es:Array DictEntry}{ep:Nat},f.heap.get? b=some o->o.data=.dict es ep->H b=none:=λ{b o es ep} e d=>by
   cases q:H b with
   | none=>rfl
   | some u=>
    have G:b=a:=Y b (by rw[q];simp);subst G;rw[ha]at e;cases e;have d':Data.seq j.toArray _=Data.dict es ep:=d;cases d'
  have C:∀{b:Addr}{m:Str->Option Value},f.heap.Ns b m->(gQ f.heap H).Ns b m:=λ{b m} ⟨o,es,ep,e,d,r⟩=>⟨o,es,ep,O e<|ac e d,d,r⟩;have L:K.In (gQ f.heap H):=λb o e=>O (W b o e) (by
   cases q:H b with
   | none=>rfl
   | some u=>
    have G:b=a:=Y b (by rw[q];simp);subst G;rw[hK<|by rw[q];simp]at e;cases e)
  have hM:Mod K mg (gQ f.heap H):=⟨L,C N,⟨I,C i,aa⟩,let ⟨mc,h1,h2⟩:=a5;⟨mc,C h1,h2⟩⟩;have e0:Env0 P w K mg (gQ f.heap H) callerA [] f H:=⟨rfl,hM,λb o e=>Ad e,Nat.le_of_eq<|YW _ _,trivial,λb i=>absurd (show b∈([]:List Addr) from i) (by simp),p,.of_eq hg⟩;refine codeAny_mono ((F _ L<|C N).run callerA [] f H ⟨[.ref a],[]⟩ [.ref a] [.ref a] _ _ hr e0 (a1 f<|.ref a) (.cons rfl .nil)<|ab H X hS) λr s' h=>?_;cases r with
  | error e=>exact(a9 H e s' h).elim
  | ok fl=>
   cases fl with
   | next=>exact False.elim h
   | brk=>exact False.elim h
   | cont=>exact False.elim h
   | ret u=>
    obtain⟨v,H',os,B,un,Z,r',q⟩:=h;have q':v=.bl true:=q;subst q';obtain rfl:u=Value.bool true:=r';refine⟨rfl,OldK.of_keep λb o e=>?_,os,B⟩;cases q:H b with
    | none=>exact un.keep b o e q (by intro z;exact absurd (show b∈([]:List Addr) from z)<|by simp) (by simp)
    | some u=>
     rcases X b with z | ⟨ob,xs,z⟩
     .rw[q]at z;cases z
     .have z2:=un.frzs b ob _ z;obtain⟨J,_⟩:=p b _ z;obtain⟨e2,_⟩:=Z b _ z2;rw[e]at J;cases J;exact e2
 cases hk:K.lookup a with
 | some o=>
  have e:=W a o hk;rw[ha]at e;cases e;refine M (λ_=>none) (λ_=>.inl rfl) (.inr ⟨_,j.toArray,_,hk,rfl,rfl,rfl,by rw[cL,a6];exact hl,by simpa using T⟩) (λb u z=>by have l:(none:Option HO)=some u:=z;cases l) (λb z=>absurd rfl z) λz=>absurd rfl z
 | none=>
  refine M (λb=>if b=a then some (.frz {cls:=.type "list",data:=.seq j.toArray}<|.lst<|A.map V.int) else none) (λb=>?_) (.inl<|.inr ⟨{cls:=.type "list",data:=.seq j.toArray},aR rfl⟩) (λb u z=>?_) (λb z=>?_) λ_=>hk
  .by_cases i:b=a
   .exact .inr ⟨_,_,aR i⟩
   .exact .inl<|aK i
  .by_cases i:b=a
   .have l:=(aR i).symm.trans z;cases l;subst i;exact⟨ha,by rw[aG];exact hl,j,_,T,ha⟩
   .have l:=(aK i).symm.trans z;cases l
  .by_cases i:b=a
   .exact i
   .exact absurd (aK i) z
def Aa{l:PySem.W.OpenLaw}{n k:Nat}{q:Program}{a1:List Str}{Z:(Str->Option Value)->Heap->Prop}{z:World->Heap->Prop}{d:DefRec}{K:Params->Fg}{CX:World->lC}{sp:World->Sp}{x:Str}
  (O:l.most=some n) (a5:n<=sizeLine) (J:d.params.defaults=[]) (hr:Room k callerA)
  (E:∀(w:World)(h:Heap),z w h->(K w.params).In h)
  (F:∀(w:World)(mg:Str->Option Value)(i:Addr)(h:Heap),(K w.params).In h->h.Ns mainGlobals mg->mg d.name=some (.ref i)-> ∃fd:FuncData,(∀(s:Shared)(u:Value),BindsTo s fd ⟨[u],[]⟩ [(x,u)])/\ ∀base:Heap,(K w.params).In base->base.Ns mainGlobals mg->bB l.prog w (K w.params) mg base (CX w) k i fd [x] (sp w))
  (M:∀(w:World)(H:Hp)(a:Addr)(j:List Int),↑j<=n->tH H->SqL (K w.params) H a (j.map V.int)->sp w [.ref a] H (λv _=>v=.bl true) λ_ _ _=>False)
  (C:∀(w:World)(H:Hp)(s:Shared)(e:Value)(s':Shared),CX w [] H s (λ_ _ _=>False) e s'->False):
  PySem.W.WalkO q a1 Z z l.row.toRowW d [] (λf r=>PySem.call f r):=by
 refine Att.attach_call O J λw s₀ L mg mb i o pm cd a9 a r j G Y ho hd aa A N I m B=>?_;have p:=E w _ Y;obtain⟨fd,hb,hF⟩:=F w mg i _ p G.T.g A;exact YX p G.T.g G.T.b G.T.builtins G.T.nolimit B N I (fI m a5) hr hF hb (λH P X=>M w H a j m P X) λH e s'=>C w H L e s'
def rM(s:Stmt):Arguments:=match s with
 | .FunctionDef _ a _ _ _ _ _ _ _ _=>a
 | _=>{posonlyargs:=[],args:=[],vararg:=none,kwonlyargs:=[],kw_defaults:=[],kwarg:=none,defaults:=[]}
def gU(s:Stmt):List Stmt:=match s with
 | .FunctionDef _ _ b _ _ _ _ _ _ _=>b
 | _=>[]
def cG(s:Stmt):Scope:=match s with
 | .FunctionDef _ _ _ _ _ _ sc _ _ _=>sc
 | _=>{kind:=.function,names:=[],isGenerator:=false,isCoroutine:=false}
abbrev cH:lC:=λ_ _ _ _ _ _=>False
abbrev E0:XK:=λ_ _ _=>False
def AO{X:Cx}:JN cH X E0:=λ_ _ _ _ _ _ _ h=>h.elim
structure Fun(K:Fg)(x qual:Str)(st:Stmt)(f:Addr)(fd:FuncData):Prop where
 ex:∃(oc:Value)(od:Option Addr)(kV doc pm:Value)(an:Option Addr)(cdv ct:Value)(osl:Array (Option Value)),
  fd=PySem.W.fnOf x qual (rM st) (gU st) (cG st) .none kV doc pm an cdv ct/\K.lookup f=some ⟨oc,od,.func fd,osl⟩/\PySem.W.codeIn K cdv qual=true
 kp:PySem.W.keepIn K (.ref f)=true
section
variable{P:Program}{w:World}{K:Fg}{mg:Str->Option Value}{base:Heap}
def Fun.ok{x a:Str}{st:Stmt}{f:Addr}{fd:FuncData}{N ps:List Str}{k:Nat}{sp:Sp}(F:Fun K x a st f fd)(S:cU N ps (cG st))(len:∀b H Q E,sp b H Q E->↑b=↑ps)
  (i:∀(a1:Value)(A:Around)(outer:List Env)(s:Shared)(H:Hp)(b:List V)(Q:VK)(E:XK),Room k (A.deeper<|envOfC a (cG st) s⁻¹ f a1)->sp b H Q E-> ∃t,PSs (iR cH P w K mg base N a (cG st) f a1 A outer s H E).nox (gU st) t/\t {nx:=λ_ H'=>Q .non H',rt:=Q} (start N b) H):bB P w K mg base cH (k+1) f fd ps sp:=by
 obtain⟨o,od,kV,r,n,p,a1,ct,m,rfl,d,j⟩:=F.ex;refine DX d j S len λA outer s H b Q E l e=>?_;obtain⟨t,h,q⟩:=i a1 A outer s H b Q E l e;exact⟨t,h.nox,q⟩
def Fun.binds{x a:Str}{st:Stmt}{f:Addr}{fd:FuncData}{ps:List Str}(F:Fun K x a st f fd)
  (h:∀(kV a1 e:Value)(b:Option Addr)(i ct:Value)(d:List Value),↑d=↑ps->bindArgs (PySem.W.fnOf x a (rM st) (gU st) (cG st) .none kV a1 e b i ct) ⟨d,[]⟩=pure (ps.zip d)):Binds K fd ps []:=by
 obtain⟨m,od,kV,a1,e,b,i,ct,l,rfl,j,n⟩:=F.ex;exact .all<|h kV a1 e b i ct
def SN{x a:Str}{st:Stmt}{f:Addr}{h:Value}{od d:Option Addr}{i:Array (Option Value)}{kV a1 e b ct:Value}(l:K.lookup f=some ⟨h,od,.func<|PySem.W.fnOf x a (rM st) (gU st) (cG st) .none kV a1 e d b ct,i⟩)
  (c:PySem.W.codeIn K b a=true) (k:PySem.W.keepIn K (.ref f)=true):Fun K x a st f (PySem.W.fnOf x a (rM st) (gU st) (cG st) .none kV a1 e d b ct):=⟨⟨h,od,kV,a1,e,d,b,ct,i,rfl,l,c⟩,k⟩
end
def gG{A:Around}{k:Nat}(a:Room k A):A.units+1<cLine:=Nat.lt_of_le_of_lt (Nat.add_le_add_left (by decide:1<=64) _) a.units
def bN{n:Nat}(h:n<=1000):n<sizeLine:=Nat.lt_of_le_of_lt h (by decide)
def dO{n:Nat}(h:Nat.ble n 1000=true):n<=sizeLine:=cM<|bN<|Nat.le_of_ble_eq_true h
def pv(i:Nat){x:Str}{pos:Pos}(b:X.N[i]?=some x:=by rfl)(a:DG X.env.scope x:=by first | exact fH rfl | exact Or.inr (fH rfl) | exact Or.inr (Or.inr rfl))(hd:(x == ("__debug__":Str))=false:=by decide)
  (d:(x == ("__classdict__":Str))=false:=by decide):PE X (.Name x pos) (aJ i):=IB b a hd d
def RQ:CallR X (.builtin "len") (λxs H Q=>∃a kvs,xs=[V.ref a]/\H a=some (.dK kvs)/\Q (.int ↑kvs) H):=by
 intro f s σ H xs e Q I r h;obtain⟨a,kvs,rfl,ha,q⟩:=h;obtain⟨u,rfl,d⟩:=gY r;cases d;exact yM I (.inl ha) λt s' b=>⟨.int ↑kvs,H,b,⟨t,rfl⟩,q⟩
def eV{A B:Prop}(h:B):if false=true then A else B:=by
 rw[aK cA];exact h
def lF{A B:Prop}(h:A):if true=true then A else B:=by
 rw[aR rfl];exact h
def bJ{c A B:Prop}[Decidable c](h1:c->A)(h2:¬c->B):if c then A else B:=by
 by_cases h:c
 .rw[aR h];exact h1 h
 .rw[aK h];exact h2 h
section
variable{κ:Type}[DecidableEq κ]
def FU{kvs:List (κ×V)}{k:κ}(h:aN kvs k=none):¬k∈kvs.map (·.1):=by
 intro m;obtain⟨p,a,e⟩:=vh6.mp m;have q:(kvs.any λb=>decide<|b.1=k)=true:=ud0.mpr ⟨p,a,cI e⟩;rw[pM,h]at q;exact absurd q (by simp)
def EG{kvs:List (κ×V)}{k:κ}{v:V}(h:aN kvs k=some v):k∈kvs.map (·.1):=by
 have q:(kvs.any λb=>decide<|b.1=k)=true:=by
  rw[pM,h]
  all_goals rfl
 obtain⟨p,a,e⟩:=ud0.mp q;exact vh6.mpr ⟨p,a,cC e⟩
theorem zT:∀{l:List κ}{k:κ},l.Nodup->¬k∈l->(l++[k]).Nodup
 | [],k,_,_=>by simp
 | a::r,k,h,hk=>by
  obtain⟨h1,h2⟩:=vq2.mp h;show(a::(r++[k])).Nodup;refine vq2.mpr ⟨λm=>?_,zT h2 λm=>hk<|vh3.mpr<|Or.inr m⟩;rcases vj5.mp m with q | q
  .exact h1 q
  .exact hk<|vh3.mpr<|fH (vh7.mp q).symm
end
def bT(env:Env):List (Str×NameKind)->List (Str×Addr)
 | []=>[]
 | (n,k)::r=>bT env r++(if k=.free then [(n,(env.cells.lookup n).getD 0)] else [])
theorem MZ:∀(l:List (Str×NameKind))(a:List (Str×Addr)),(∀y∈l,y.2=.free->∃c,env.cells.lookup y.1=some c)->
  (forIn l a λ(x:Str×NameKind) (r:List (Str×Addr))=>if (x.2 == .free)=true then(do let c <-cellOf env x.1;pure (ForInStep.yield<|(x.1,c)::r):Sem (ForInStep<|List<|Str×Addr)) else pure (ForInStep.yield r))=pure (bT env l++a)
 | [],a,_=>by simp[bT]
 | (n,k)::r,a,h=>by
  rw[wR]
  by_cases d:k=.free
  .subst d;obtain⟨c,f⟩:=h (n,.free) (by simp) rfl;have e:cellOf env n=pure c:=by unfold cellOf;rw[f]
   simp only[beq_self_eq_true,if_true,e,pure_bind];rw[MZ r ((n,c)::a) λy b=>h y<|iH _ b];simp[bT,f]
  .have i:(k == NameKind.free)=false:=by simpa using d
   simp only[i,lB,gI,pure_bind];rw[MZ r a λy b=>h y<|iH _ b];simp[bT,d]
def xZ(h:∀y∈scope.names,y.2=.free->∃c,env.cells.lookup y.1=some c):closureFor scope env=pure (bT env scope.names):=by
 have e:=MZ (env:=env) scope.names [] h;rw[iA]at e;unfold closureFor;refine Eq.trans ?_<|cR (λz=>z >>= pure) e;rfl
theorem LF:∀{l:List (Str×NameKind)},(x,c)∈bT env l->(x,NameKind.free)∈l/\c=(env.cells.lookup x).getD 0
 | [],h=>by simp[bT]at h
 | (n,k)::r,h=>by
  unfold bT at h;rcases vj5.mp h with h | h
  .obtain⟨h1,h2⟩:=LF h;exact⟨iH _ h1,h2⟩
  .by_cases a:k=.free
   .rw[aR a]at h;have e:=vh7.mp h;cases e;subst a;exact⟨by simp,rfl⟩
   .rw[aK a]at h;simp at h
theorem OC:∀{l:List (Str×NameKind)},(x,NameKind.free)∈l->(x,(env.cells.lookup x).getD 0)∈bT env l
 | [],h=>by simp at h
 | (n,k)::r,h=>by
  unfold bT;rcases vh3.mp h with h | h
  .cases h;exact fR _ (by simp)
  .exact mQ _<|OC h
theorem QF:∀{l:List (Str×Addr)},(x,v)∈l->(∀w,(x,w)∈l->w=v)->l.lookup x=some v
 | [],h,_=>by simp at h
 | (n,w)::r,h,u=>by
  rw[CU]
  by_cases e:x=n
  .subst e;simp[u w<|by simp]
  .have a:(x == n)=false:=by simpa using e
   rw[a];rcases vh3.mp h with h | h
   .cases h;exact absurd rfl e
   .exact QF h λd b=>u d<|iH _ b
def YL(h:(x,NameKind.free)∈l):(bT env l).lookup x=some ((env.cells.lookup x).getD 0):=
 QF (OC h) λw a=>(LF a).2
def bZ(X:Cx)(scope:Scope)(N':List Str)(s3:Shared)(H3:Hp)(C:Addr)(fp:List Addr):Cx:=
 {X with N:=N',s₀:=s3,H₀:=H3,env:=compEnvC scope (bT X.env scope.names) C X.env,outer:=X.stack,stack:=X.stack,ex:=fp,fn:=λx=>((bT X.env scope.names).lookup x).isNone,pn:=[],xe:=λ_ _=>False}
structure BlkN(X:Cx)(scope:Scope)(N':List Str)(src:List (Option Nat)):Prop where
 kind:scope.kind=.function
 nocell:(scope.names.all λy=>decide<|y.2≠.cell)=true
 locs:(scope.names.all λy=>decide<|y.2=.local->scope.names.lookup y.1=some .local)=true
 frees:(scope.names.all λy=>decide<|y.2=.free->X.env.kindOf y.1=some .cell\/X.env.kindOf y.1=some .free)=true
 slen:↑src=N'.length
 cap:((N'.zip src).all λp=>match p.2 with | some j=>decide (X.N[j]?=some p.1) && decide ((p.1,NameKind.free)∈scope.names) | none=>true)=true
def sub(src:List (Option Nat))(σ:St):St:=src.map λo=>o.bind λj=>(σ[j]?).join
def TV(h:(relabel scope env).names.lookup x=some k):(x,k)∈scope.names\/(k=.cell/\(x,NameKind.free)∈scope.names):=by
 have m:=uJ h;obtain⟨⟨n,b⟩,a,e⟩:=vh6.mp m;dsimp only at e
 split at e
 .rename_i hc
  cases e;have:b=.free:=by
   simp only[kH,beq_iff_eq]at hc;exact hc.1.1
  subst this;exact .inr ⟨rfl,a⟩
 .cases e;exact .inl a
theorem OW{env:Env}:∀{names:List (Str×NameKind)},(x,NameKind.free)∈names->(∀k,(x,k)∈names->k≠.local/\k≠.globalExplicit/\k≠.globalImplicit/\k≠.cell)->
  let q:=(names.map λ(n,k)=>if (k == NameKind.free && env.scope.kind == .function && env.kindOf n == some .cell) then(n,NameKind.cell) else(n,k)).lookup x
  q=some .cell\/q=some .free
 | [],h,_=>by simp at h
 | (n,k)::r,h,u=>by
  intro q;show List.lookup x ((if (k == NameKind.free && env.scope.kind == .function && env.kindOf n == some .cell)=true then(n,NameKind.cell) else(n,k))::_)=_\/List.lookup x ((if (k == NameKind.free && env.scope.kind == .function && env.kindOf n == some .cell)=true then(n,NameKind.cell) else(n,k))::_)=_
  by_cases e:x=n
  .subst e;obtain⟨m,l,o,p⟩:=u k (by simp);have j:k=.free:=by cases k <;> simp_all
   subst j
   by_cases a:(NameKind.free == NameKind.free && env.scope.kind == .function && env.kindOf x == some .cell)=true
   .rw[aR a];left;simp[CU]
   .rw[aK a];right;simp[CU]
  .have d:(x == n)=false:=by simpa using e
   have b:=OW (env:=env) (names:=r) (x:=x) ((vh3.mp h).resolve_left λz=>e<|by cases z;rfl) λf i=>u f<|iH _ i
   split
   .simp only[CU,d];exact b
   .simp only[CU,d];exact b
section
variable{scope:Scope}{N':List Str}{src:List (Option Nat)}{pins:List (Addr×Obj)}{σ:St}{H3:Hp}{s3 s4:Shared}{C:Addr}{fp:List Addr}
theorem BlkN.cells(B:BlkN X scope N' src)(ok:X.Ok)(h:(x,NameKind.free)∈scope.names):∃c,X.env.cells.lookup x=some c/\(bT X.env scope.names).lookup x=some c:=by
 have q:=cC<|vm1.mp B.frees (x,.free) h;obtain⟨c,a⟩:=ok.has x<|q rfl;exact⟨c,a,by rw[YL h,a];rfl⟩
def BlkN.back(B:BlkN X scope N' src)(ok:X.Ok)(h:(bT X.env scope.names).lookup x=some c):X.env.cells.lookup x=some c/\(x,NameKind.free)∈scope.names:=by
 obtain⟨h1,h2⟩:=LF<|uJ h;obtain⟨c',b,a⟩:=B.cells ok h1;rw[h]at a;cases a;exact⟨b,h1⟩
def BlkN.captured(B:BlkN X scope N' src){i j:Nat}{x:Str}(h1:N'[i]?=some x)(h2:src[i]?=some (some j)):X.N[j]?=some x/\(x,NameKind.free)∈scope.names:=by
 have hz:(N'.zip src)[i]?=some (x,some j):=by
  rw[ub2];exact⟨h1,h2⟩
 have q:=vm1.mp B.cap (x,some j)<|cX hz;have a:(decide (X.N[j]?=some x) && decide ((x,NameKind.free)∈scope.names))=true:=q;rw[kH]at a;exact⟨cC a.1,cC a.2⟩
def IZ(B:BlkN X scope N' src)(I:Inv X pins σ H3 s3)(l:∀b∈fp,dH X pins H3 b)(T:∀b∈fp,b<s3⁻¹)(a1:∀x k,(x,k)∈scope.names->k=.free->∀k',(x,k')∈scope.names->k'=.free)
  (O:C=s3⁻¹) (M:s4.heap.Ns C (λ_=>none)) (n:∀b o,s3.heap.get? b=some o->s4.heap.get? b=some o) (P:s4.os=s3.os) (w:s4.gens=s3.gens):
  Inv (bZ X scope N' s3 H3 C fp) [] (sub src σ) H3 s4:=by
 subst O;have ok:=I.ok;exists ⟨ok.mod,B.kind,ok.glob,ok.blt,aO _,λx y c h1 h2=>?_,λx h=>?_,λx c h1 h2=>?_,ok.hd,ok.frames,.inl rfl,λb a=>⟨bI<|T b a,λx c h=>?_⟩,I.bs,fI ok.bsz I.sz,λb o e a=>?_,λb a J=>?_,I.stack,I.stkFree⟩,
  P,?_,Un.kept n,⟨_,M,λi x v h1 h2 h3=>?_⟩,λx c h=>?_,I.hok.fresh<|aO _,λx c h=>I.freeC x c (B.back ok h).1,λp N=>absurd (show p∈([]:List (Addr×Obj)) from N) (by simp),I.hok.kept n
 .exact ok.inj x y c (B.back ok h1).1 (B.back ok h2).1
 .have h:(relabel scope X.env).names.lookup x=some .cell\/(relabel scope X.env).names.lookup x=some .free:=h;have f:(x,NameKind.free)∈scope.names:=by
   rcases h with h | h
   .rcases TV h with q | ⟨_,q⟩
    .exact absurd rfl<|cC<|vm1.mp B.nocell _ q
    .exact q
   .rcases TV h with q | ⟨z,_⟩
    .exact q
    .cases z
  obtain⟨c,_,e⟩:=B.cells ok f;exact⟨c,e⟩
 .have h1:((bT X.env scope.names).lookup x).isNone=true:=h1;have h2:(bT X.env scope.names).lookup x=some c:=h2;rw[h2]at h1;simp at h1
 .exact(l b a).2.2.2.2.1 x c (B.back ok h).1
 .rcases(l b a).2.2.2.1 with z | z
  .exact ok.noex b o e z
  .exact absurd (gE (bA e)<|fI ok.bsz z)<|iB _
 .rcases vh3.mp (I.stkSub b J)with z | z
  .exact(l b a).2.1 z
  .exact(l b a).2.2.1 z
 .rw[w];exact I.bare
 .have s:∃j,src[i]?=some (some j)/\σ[j]?=some (some v):=by
   have h2:(src.map λo=>o.bind λj=>(σ[j]?).join)[i]?=some (some v):=h2;rw[bD]at h2;cases e:src[i]? with
   | none=>rw[e]at h2;cases h2
   | some o=>
    rw[e]at h2;cases o with
    | none=>cases h2
    | some j=>
     exists j,rfl;have h2:some ((σ[j]?).join)=some (some v):=h2;cases e2:σ[j]? with
     | none=>rw[e2]at h2;cases h2
     | some z=>rw[e2]at h2;cases z with
      | none=>cases h2
      | some z=>cases h2;rfl
  obtain⟨j,W,Y⟩:=s;obtain⟨L,f⟩:=B.captured h1 W;obtain⟨c,G,E⟩:=B.cells ok f;have r:=cC (vm1.mp B.frees _ f) rfl;obtain⟨m,_,hl⟩:=I.loc;have H:DG X.env.scope x:=by
   rcases r with z | z
   .exact .inr<|.inl z
   .exact .inr<|.inr z
  obtain⟨u,Z,A⟩:=hl j x v L Y H;refine⟨u,Z,.inr ⟨?_,c,E,?_⟩⟩
  .exact OW f λk K=>by
    have:=a1 x .free f rfl k K;subst this;exact⟨by decide,by decide,by decide,by decide⟩
  .rcases A with ⟨z,_⟩ | ⟨_,c',e',⟨o,eo,ed⟩⟩
   .rcases r with y | y <;> (rw[z]at y;cases y)
   .rw[G]at e';cases e';exact⟨o,n _ _ eo,ed⟩
 .obtain⟨v,o,e,d⟩:=I.cell x c (B.back ok h).1;exact⟨v,o,n _ _ e,d⟩
 .show(sub src σ).length=N'.length;unfold sub;rw[aG];exact B.slen
end
def Gh(I:Nat->Shared->Prop) (turn:∀n s,I n s->wpAny (model prog w) A (pyNext it) (λr a=>match r with
   | none=>R (.ok .next) a
   | some v=>wpAny (model prog w) A (letOwnedTupleGo target it v) (λ_ a=>wpAny (model prog w) A (assign target env v) (λ_ j=>
     wpAny (model prog w) A (forIn ifs true λc r=>if r=true then do let ok <-isTrue c env (eval c env);pure (ForInStep.yield ok) else pure (ForInStep.yield r)) (λok d=>
      if ok=true then wpAny (model prog w) A (eval elt env) (λx i=>
       wpAny (model prog w) A (call (.builtin "list.append") [acc,x]) (λ_ e=>∃m,m<n/\I m e) (λ_ _=>False) i) (λ_ _=>False) d
      else ∃m,m<n/\I m d) (λ_ _=>False) j) (λ_ _=>False) a) (λ_ _=>False) a) (λ_ _=>False) s) (n:Nat) (h:I n s):
  codeAny (model prog w) A (.compLoop (.ListComp elt [⟨target,iter,ifs,0⟩] scope pos) 0 it acc env) R s:=by
 refine codeAny_loop rfl I (λn s l=>?_) n h;show wpAny _ A ((compTurn (.ListComp elt [⟨target,iter,ifs,0⟩] scope pos) 0 it acc env).onRaise (λx=>do noteFrame x env;theTreesLotGoes x)) _ _ s;refine wpAny_noted ?_;rw[compTurn_list];refine aB<|pV<|aB<|fM (turn n s l) (λr a b=>?_) λ_ _ h'=>h'.elim;cases r with
 | none=>exact aD b
 | some v=>
  refine aB<|fM b (λ_ a b=>?_) λ_ _ h'=>h'.elim;refine aB<|fM b (λ_ j o=>aB<|fM o (λok d f=>?_) λ_ _ h'=>h'.elim) λ_ _ h'=>h'.elim;cases ok with
  | false=>exact aD ⟨rfl,f⟩
  | true=>
   exact aB<|aB<|fM f (λx i q=>aB<|fM q (λ_ e p=>aD<|aD ⟨rfl,p⟩) λ_ _ h'=>h'.elim) λ_ _ h'=>h'.elim
def lT(X:Cx)(ifs:List Expr)(t:TT):Prop:=
 ∀(pins:List (Addr×Obj))(s:Shared)(σ:St)(H:Hp)(Q:Bool->Hp->Prop),Inv X pins σ H s->t σ H Q->
  wpAny (model X.prog X.w) X.A (forIn ifs true λc r=>if r=true then do let ok <-isTrue c X.env (eval c X.env);pure (ForInStep.yield ok) else pure (ForInStep.yield r)) (TP X pins σ Q) X.xe s
def kU:TT:=λ_ H Q=>Q true H
def gR:lT X [] kU:=λ_ _ _ H _ I h=>wpAny_tests_nil ⟨H,I,h⟩
def mE(h:PT X c t):lT X [c] t:=λa s σ H Q I q=>wpAny_tests_one<|h a s σ H Q I q
def mG(J:It)(g:TG)(tt:TT)(te:TE)(D:Addr)(σ0:St)(H0:Hp)(Q:Hp->Prop):Prop:=
 ∃W:Nat->Nat->St->Hp->Prop,(∃m,W 0 m σ0 H0)/\∀i m σ H,W i m σ H->
 (J.stop i H/\Q H)\/(J.go i H/\∃N:St->Hp->Prop,(∀σ' H',N σ' H'->∃m',m'<m/\W (i+1) m' σ' H')/\∀x H',J.yld i H x H'->g x σ H' λσ2 H2=>tt σ2 H2 λb H3=>
  if b=true then te σ2 H3 λv H4=>∃xs,H4 D=some (.lst xs)/\↑xs<sizeLine/\N σ2 (aA H4 D<|.lst<|xs++[v]) else N σ2 H3)
section
variable{scope:Scope}{N':List Str}{src:List (Option Nat)}{pins:List (Addr×Obj)}{σ:St}{H2:Hp}{s2:Shared}
def VH{ae tg a6:Expr}{ab:List Expr}{pos:Pos}{it:Addr}{fp:List Addr}{O:Nat->Heap->Prop}{J:It}{g:TG}{tt:TT}{te:TE}{Q:Addr->Hp->Prop}
  {RR:Value->Addr->Result->Shared->Prop} {E:Vp} (hc:X.calm=true)
  (B:BlkN X scope N' src) (ap:∀x k,(x,k)∈scope.names->k=.free->∀k',(x,k')∈scope.names->k'=.free) (T:eX X.prog X.w X.K tg J fp it O) (I:Inv X pins σ H2 s2) (h0:O 0 s2.heap) (l:∀b∈fp,dH X pins H2 b)
  (hg:∀s3 H3 C,PG (bZ X scope N' s3 H3 C fp) tg g) (ht:∀s3 H3 C,lT (bZ X scope N' s3 H3 C fp) ab tt) (he:∀s3 H3 C,PE (bZ X scope N' s3 H3 C fp) ae te)
  (hw:∀D,H2 D=none->mG J g tt te D (sub src σ) (aA H2 D<|.lst []) (Q D))
  (hQ:∀D C H' s',C≠D->(∃m,s'.heap.Ns C m)->(∀aa ,Heap.SameBut C s'.heap aa->Inv X pins σ H' {s' with heap:=aa})->Inv X pins σ H' s'->H' C=none->C≠X.env.locals->(∀x c,X.env.cells.lookup x=some c->c≠C)->X.s₀⁻¹<=C->(∀p∈X.pn++pins,p.1≠C)->Q D H'->RR (.ref D) C (.ok .next) s'):
  wpAny (model X.prog X.w) X.A (newList []) (λacc N=>wpAny (model X.prog X.w) X.A (newFunctionEnv scope X.env.globals (bT X.env scope.names) [] X.env.qual none .none<|some X.env) (λa9 s₄=>
   codeAny (model X.prog X.w) X.A (.compStart (.ListComp ae [⟨tg,a6,ab,0⟩] scope pos) 0 (.ref it) acc {a9 with scope:=relabel scope X.env}) (RR acc a9.locals) s₄) E N) E s2:=by
 have a8:∀y∈scope.names,y.2≠.cell:=λy hy=>cC<|vm1.mp B.nocell y hy;refine fY<|wpAny_newFunctionEnv a8 (by intro y hy;simp at hy) (λP a5 a2=>?_) B.kind;dsimp only at a5 a2 ⊢;have b1:H2 s2⁻¹=none:=I.hok.fresh<|aO _;have G:Inv X pins σ (aA H2 s2⁻¹<|.lst []) {s2 with heap:=s2.heap.push {cls:=.type "list",dict:=none,data:=.seq ([]:List Value).toArray}}:=
  I.laid (t':=s2.toks) (λb o e=>aZ _ e) (aO _) ⟨bO _,[],_,.nil,bY _ rfl⟩
 generalize hH3:(s2.heap.push {cls:=.type "list",dict:=none,data:=.seq ([]:List Value).toArray})=f at a5 a2 G ⊢;have ag:f.objs.size=s2⁻¹+1:=by rw[<-hH3,jU]
 have a4:∀b o,s2.heap.get? b=some o->f.get? b=some o:=λb o e=>by rw[<-hH3];exact aZ _ e
 have a1:∀b o,f.get? b=some o->P.get? b=some o:=λb o e=>a2.extBut b o (bI<|bA e)<|aZ _ e;have a3:s2⁻¹<f.objs.size:=by rw[ag];exact oB _
 have an:∀b∈fp,dH X pins (aA H2 s2⁻¹<|.lst []) b:=λb j=>by
  obtain⟨o,e,_⟩:=T.obj _ _ h0 b j;refine⟨?_,(l b j).2⟩;rw[aI<|bI<|bA e];exact(l b j).1
 have a7:∀b∈fp,b<f.objs.size:=λb j=>by
  obtain⟨o,e,_⟩:=T.obj _ _ h0 b j;exact fP (bA e) a3
 have ar:=IZ (fp:=fp) (C:=f.objs.size) (s4:={s2 with heap:=P,toks:=s2.toks+↑([]:List (Str×Value))}) B G an a7 ap rfl a5 a1 rfl rfl;have ak:O 0 P:=T.keep _ _ _ h0 λb j o e=>a1 b o<|a4 b o e;obtain⟨W,⟨m0,w0⟩,turn⟩:=hw s2⁻¹ b1;have af:∀{H':Hp},(∀b∈fp,H' b=none)->∀b∈fp,dH (bZ X scope N' {s2 with heap:=f} (aA H2 s2⁻¹<|.lst []) f.objs.size fp) [] H' b:=λhn b j=>by
  refine⟨hn b j,bI<|a7 b j,?_,.inl j,λx c h=>(l b j).2.2.2.2.1 x c (B.back I.ok h).1,λp hp=>absurd (show p∈([]:List (Addr×Obj)) from hp)<|by simp⟩;intro z;rcases vh3.mp (G.stkSub b z)with y | y
  .exact(l b j).2.1 y
  .exact(l b j).2.2.1 y
 have ay:∀(s':Shared)(σ':St)(H':Hp),Inv (bZ X scope N' {s2 with heap:=f} (aA H2 s2⁻¹<|.lst []) f.objs.size fp) [] σ' H' s'->Q s2⁻¹ H'->RR (.ref s2⁻¹) f.objs.size (.ok .next) s':=λs' σ' H' L q=>by
  obtain⟨hh,gg,dd,ad,aw⟩:=s';have as:aw=s2.os:=L.os;subst as;have IX:Inv X pins σ H' {({s2 with heap:=f}:Shared)with heap:=hh,gens:=gg,drawn:=dd,toks:=ad}:=Inv.call (s:={s2 with heap:=f}) G (h':=hh) (g':=gg) (d':=dd) (t':=ad) (ch:=fp) L.base L.hok L.bare λb j=>⟨(l b j).2.2.2.1,(l b j).2.1,(l b j).2.2.2.2.1,(l b j).2.2.2.2.2⟩;have b6:s2⁻¹<=f.objs.size:=cM a3;have am:f.objs.size≠X.env.locals:=cQ G.lt;have ah:∀x c,X.env.cells.lookup x=some c->c≠f.objs.size:=λx c e z=>by
   obtain⟨v,q⟩:=G.cell x c e;exact absurd (show c<f.objs.size from q.lt) (by rw[z];exact iB _)
  have aj:∀p∈X.pn++pins,p.1≠f.objs.size:=λp hp z=>by
   have:=bA (G.pin p hp).1;exact absurd (show p.1<f.objs.size from this) (by rw[z];exact iB _)
  have ao:H' f.objs.size=none:=L.free;obtain⟨m,hm,_⟩:=L.loc;refine hQ _ _ H' _ (cQ a3) ⟨m,hm⟩ (λaa sb=>?_) IX ao am ah (fI G.sz<|aO _) aj q;exact IX.turned (t':=ad) (λb o j e=>(sb.2 b j).trans e) ao am (.inr<|fI G.sz<|aO _) ah aj
 have H:∀N:Shared,N={s2 with heap:=P,toks:=s2.toks+↑([]:List (Str×Value))}->
   codeAny (model X.prog X.w) X.A (.compLoop (.ListComp ae [⟨tg,a6,ab,0⟩] scope pos) 0 (.ref it) (.ref s2⁻¹)<|compEnvC scope (bT X.env scope.names) f.objs.size X.env)
    (RR (.ref s2⁻¹) f.objs.size) N:=by
  rintro N rfl;refine Gh (λn s'=>∃i σ' H',Inv (bZ X scope N' {s2 with heap:=f} (aA H2 s2⁻¹<|.lst []) f.objs.size fp) [] σ' H' s'/\O i s'.heap/\(∀b∈fp,H' b=none)/\W i n σ' H') ?_ m0 ⟨0,_,_,ar,ak,λb j=>(an b j).1,w0⟩;rintro n s5 ⟨i,σ5,Y,I5,ai,al,w5⟩;rcases turn i n σ5 Y w5 with ⟨stop,qn⟩ | ⟨go,Nx,hN,step⟩
  .refine aS (T.done (bZ X scope N' {s2 with heap:=f} (aA H2 s2⁻¹<|.lst []) f.objs.size fp) rfl rfl rfl hc i [] s5 σ5 Y _ I5 (af al) ai stop) ?_;rintro r s6 ⟨hr,I6⟩;subst hr;exact ay s6 σ5 Y I6 qn
  .refine aS (T.item (bZ X scope N' {s2 with heap:=f} (aA H2 s2⁻¹<|.lst []) f.objs.size fp) rfl rfl rfl hc i [] s5 σ5 Y _ I5 (af al) ai go) ?_;rintro r s6 ⟨u,hr,h6⟩;subst hr;refine aS h6 ?_;rintro _ s7 ⟨x,H7,I7,r7,y7,ac,b4⟩;have b0:=I7.pinned (af b4)<|T.obj _ _ ac;refine aS (hg _ _ _ _ s7 σ5 H7 x u _ b0 r7<|step x H7 y7) ?_;rintro _ s8 ⟨σ8,H8,I8,q8⟩;refine aS (ht _ _ _ _ s8 σ8 H8 _ I8 q8) ?_;rintro ok s9 ⟨H9,I9,q9⟩;have again:∀{σa:St}{M:Hp}{Z:Shared},Inv (bZ X scope N' {s2 with heap:=f} (aA H2 s2⁻¹<|.lst []) f.objs.size fp) ([]++tQ fp s7.heap) σa M Z->Nx σa M->
     ∃m,m<n/\∃i σ' H',Inv (bZ X scope N' {s2 with heap:=f} (aA H2 s2⁻¹<|.lst []) f.objs.size fp) [] σ' H' Z/\O i Z.heap/\(∀b∈fp,H' b=none)/\W i m σ' H':=λ{σa M Z} Ia na=>by
    obtain⟨m',hm,wa⟩:=hN σa M na;refine⟨m',hm,i+1,σa,M,Ia.unpinned,T.keep _ _ _ ac λb j o e=>(Ia.pin (b,o)<|fR _<|fR _<|pN j e).1,λb j=>?_,wa⟩;obtain⟨o,e,d⟩:=T.obj _ _ ac b j;exact(Ia.pin (b,o)<|fR _<|fR _<|pN j e).2.1
   cases ok with
   | false=>exact again I9 q9
   | true=>
    refine aS (he _ _ _ _ s9 σ8 H9 _ I9 q9) ?_;rintro y b3 ⟨v,av,aq,b2,xs,hx,hl,au⟩;refine aS (iK (X:=bZ X scope N' {s2 with heap:=f} (aA H2 s2⁻¹<|.lst []) f.objs.size fp) _ b3 σ8 av (.ref s2⁻¹) [v] (.ref s2⁻¹) [y] (λ_ H'=>Nx σ8 H') aq rfl (.cons b2 .nil) ⟨_,xs,v,rfl,rfl,hx,hl,au⟩) ?_;rintro _ b7 ⟨_,b5,ax,_,az⟩;exact again ax az
 exact codeAny_compStart_list (H _ rfl)<|T.self _ 0 _ _ _ ak<|H _ rfl
def CT(wi:TI)(src:List (Option Nat))(g:TG)(tt:TT)(te:TE):TE:=λσ H Q=>wi σ H λJ H2=>∀D,H2 D=none->mG J g tt te D (sub src σ) (aA H2 D<|.lst []) λH'=>Q (.ref D) H'
def hV(v:X.calm=true)(B:BlkN X scope N' src)(hi:PI X tg iter wi)(n:∀s3 H3 C fp,PG (bZ X scope N' s3 H3 C fp) tg g)(O:∀s3 H3 C fp,lT (bZ X scope N' s3 H3 C fp) ifs tt)(Y:∀s3 H3 C fp,PE (bZ X scope N' s3 H3 C fp) elt te)(j:(scope.names.all λy=>decide (y.2=.free->∀z∈scope.names,z.1=y.1->z.2=.free))=true:=by rfl')(K:∀x,foldedSetIterable iter X.env x=pure x:=by intro _;rfl):
  PE X (.ListComp elt [⟨tg,iter,ifs,0⟩] scope pos) (CT wi src g tt te):=by
 intro a1 s σ H Q I h;have L:∀x k,(x,k)∈scope.names->k=.free->∀e,(x,e)∈scope.names->e=.free:=λx k d N e o=>cC (vm1.mp j (x,k) d) N (x,e) o rfl;have u:closureFor scope X.env=pure (bT X.env scope.names):=xZ λy i f=>I.ok.has y.1<|cC (vm1.mp B.frees y i) f;have G:∀y∈scope.names,y.2=.local->scope.names.lookup y.1=some .local:=λy i=>cC<|vm1.mp B.locs y i;rw[eval_ListComp];refine xS (use:=none) rfl K u B.kind G<|aS (hi a1 s σ H _ I h) λxv s₁ p=>aS p λab s2 h2=>?_;obtain⟨it,fp,tn,J,H2,rfl,P,T,M,f,l⟩:=h2;refine VH (RR:=λacc C=>compPost (model X.prog X.w) X.A X.xe none (EP X a1 σ Q) acc C) (Q:=λD H'=>Q (.ref D) H') v B L T P M f (λa b c=>n a b c fp) (λa b c=>O a b c fp) (λa b c=>Y a b c fp) l ?_;intro D C H' s' aa d W IX Z a9 a8 ae ad q;obtain⟨m,d⟩:=d;exact⟨m,d,λE r=>⟨.ref D,H',W E r,rfl,q⟩⟩
def nQ(hc:X.calm=true)(P:X.N.Nodup)(Z:X.N[i]?=some y)(f:X.env.scope.names.lookup y=some .local)(B:BlkN X scope N' src)(hi:PI X tg iter wi)(hg:∀s3 H3 C fp,PG (bZ X scope N' s3 H3 C fp) tg g)(ht:∀s3 H3 C fp,lT (bZ X scope N' s3 H3 C fp) ifs tt)(he:∀s3 H3 C fp,PE (bZ X scope N' s3 H3 C fp) elt te)(af:swapsWith (.ListComp elt [⟨tg,iter,ifs,0⟩] scope pos) (some<|.Name y py) spos.line X.env=pure true:=by rfl)(a7:(scope.names.all λy=>decide (y.2=.free->∀z∈scope.names,z.1=y.1->z.2=.free))=true:=by rfl')(hs:∀x,foldedSetIterable iter X.env x=pure x:=by intro _;rfl):
  PS X (.Assign [.Name y py] (.ListComp elt [⟨tg,iter,ifs,0⟩] scope pos) spos) (gC (CT wi src g tt te)<|bS i):=by
 intro p s σ H D I h;have E:∀x k,(x,k)∈scope.names->k=.free->∀l,(x,l)∈scope.names->l=.free:=λx k j hk l a8=>cC (vm1.mp a7 (x,k) j) hk (x,l) a8 rfl;have O:closureFor scope X.env=pure (bT X.env scope.names):=xZ λy f n=>I.ok.has y.1<|cC (vm1.mp B.frees y f) n;have a1:∀y∈scope.names,y.2=.local->scope.names.lookup y.1=some .local:=λy f=>cC<|vm1.mp B.locs y f;rw[exec_Assign_Name_used _ _ _ _ af];refine aB<|pV<|aB ?_;show wpAny _ X.A (do let _ <-comprehension (.ListComp elt [⟨tg,iter,ifs,0⟩] scope pos) scope X.env _ (newList []) false (eval iter X.env) (some<|assign (.Name y py) X.env)) _ _ s;have h':wi σ H λJ H2=>∀d,H2 d=none->mG J g tt te d (sub src σ) (aA H2 d<|.lst []) λH'=>D.nx (σ.set i<|some<|.ref d) H':=h;refine aB<|fM (xS (use:=some<|assign (.Name y py) X.env) (Q:=λ_ s'=>SP X p D .next s') rfl hs O B.kind a1<|aS (hi p s σ H _ I h') λxv s₁ K=>aS K λal s2 h2=>?_) (λ_ s' L=>aD<|aD L) λ_ _ e=>e
 obtain⟨it,fp,tn,J,H2,rfl,I2,T,W,n,hw⟩:=h2;refine VH (RR:=λacc C=>compPost (model X.prog X.w) X.A X.xe (some<|assign (.Name y py) X.env) (λ_ s'=>SP X p D .next s') acc C) (Q:=λd H'=>D.nx (σ.set i<|some<|.ref d) H') hc B E T I2 W n (λa b c=>hg a b c fp) (λa b c=>ht a b c fp) (λa b c=>he a b c fp) hw ?_;intro d C H' s' ak j ai IX ah r u aa a9 q;obtain⟨m,j⟩:=j;show wpAny _ X.A (assign (.Name y py) X.env<|.ref d) _ _ _;refine wpAny_assign_Name ?_;refine MQ (v:=.ref d) IX P Z (.inl f) rfl (λad ae M=>?_)<|.inr f;obtain⟨a,Y,ha⟩:=M;have G:C≠a:=by
  rintro rfl;rcases ha with z | z
  .exact r z
  .exact u _ _ z rfl
 refine⟨m,j.sameBut Y G,λaj sb=>⟨_,H',?_,q⟩⟩;exact ae.turned (t':=ad.toks) (λb o hb e=>(sb.2 b hb).trans e) ah r (.inr aa) u a9
end
section
variable{pins:List (Addr×Obj)}{σ:St}{H:Hp}{s:Shared}{a:Addr}{o:Obj}{u:HO}
def Bb(ok:HOk P w H h)(e:H a=some u)(i:∀xs,u≠.tup xs)(f:∀y,u≠.own y)(new:ObjOk P w (aA H a v) h a v):HOk P w (aA H a v) h:=λb z q=>by
 by_cases d:b=a
 .subst d;rw[aE]at q;cases q;exact new
 .rw[aI d]at q;refine(ok b z q).stay (λc j _ r=>r) (λc r=>?_) λc xs r=>?_
  .rw[aI];exact r;rintro rfl;rw[e]at r;cases r;exact f _ rfl
  .rw[aI];exact r;rintro rfl;rw[e]at r;cases r;exact i _ rfl
def Inv.swap(I:Inv X pins σ H s)(e:H a=some u)(f:∀xs,u≠.tup xs)(j:∀y,u≠.own y)(o:∀ps,u≠.tbl ps)(hz:∀d y,X.H₀ a≠some (.frz d y))(new:ObjOk X.prog X.w (aA H a v) s.heap a v):Inv X pins σ (aA H a v) s:=by
 have ne:∀b,H b=none->b≠a:=λb n z=>by subst z;rw[e]at n;cases n
 refine⟨I.ok,I.os,I.bare,⟨I.base.keep,I.base.slot,λb d q n l=>?_,I.base.there,λb xs q=>?_,λb d y q=>?_,λb ps q=>?_⟩,I.loc,I.cell,?_,λx c h=>?_,λp i=>?_,Bb I.hok e f j new,I.len⟩
 .have:=I.base.free b d q n l;rw[aI<|ne b this];exact this
 .have:=I.base.tups b xs q;rw[aI];exact this;rintro rfl;rw[e]at this;cases this;exact f _ rfl
 .have:=I.base.frzs b d y q;rw[aI];exact this;rintro rfl;exact hz _ _ q
 .obtain⟨m,this⟩:=I.base.tbls b ps q;exists m;rw[aI];exact this;rintro rfl;rw[e]at this;cases this;exact o _ rfl
 .rw[aI<|ne _ I.free];exact I.free
 .rw[aI<|ne _<|I.freeC x c h];exact I.freeC x c h
 .obtain⟨h1,h2,r⟩:=I.pin p i;exact⟨h1,by rw[aI<|ne _ h2];exact h2,r⟩
def Inv.unfrozen(I:Inv X pins σ H s)(e:H a=some (.dK kvs)):∀b y,X.H₀ a≠some (.frz b y):=λb y q=>by
 have:=I.base.frzs a b y q;rw[e]at this;cases this
def Inv.freeze(I:Inv X pins σ H s)(e:H a=some (.dK kvs))(b:s.heap.get? a=some o):Inv X pins σ (aA H a<|.frz o<|.dK kvs) s:=
 I.swap e (λ_ h=>nomatch h) (λ_ h=>nomatch h) (λ_ h=>nomatch h) (I.unfrozen e) ⟨b,I.hok a _ e⟩
def Inv.thaw(I:Inv X pins σ H s)(e:H a=some (.frz o<|.dK kvs))(hz:∀ob y,X.H₀ a≠some (.frz ob y)):Inv X pins σ (aA H a<|.dK kvs) s:=
 I.swap e (λ_ h=>nomatch h) (λ_ h=>nomatch h) (λ_ h=>nomatch h) hz (I.hok a _ e).2
end
def pP(ok:Hp->Prop)(xs:List V):It:=⟨λi H=>ok H/\i<↑xs,λi H x H'=>H'=H/\xs[i]?=some x,λi H=>ok H/\↑xs<=i⟩
def FN(a:Addr)(o:Obj)(kvs:List (aL×V))(H:Hp):Prop:=H a=some (.frz o<|.dK kvs)
def KV.get(r:KV kvs vs):∀{i:Nat}{k:aL}{x:Value},vs[i]?=some (k,x)->∃v,kvs[i]?=some (k,v)/\RelV v x:=by
 unfold KV at r
 induction r with
 | nil=>intro i k x h;simp at h
 | @cons p q ps qs h t ih=>
  intro i k x a;cases i with
  | zero=>
   simp at a;subst a;obtain⟨b,p2⟩:=p;obtain⟨h1,h2⟩:=h;have h1:b=k:=h1;subst h1;exact⟨p2,by simp,h2⟩
  | succ i=>simpa using ih (by simpa using a)
def FR{P:Program}{w:World}{h:Heap}{a:Addr}{o:Obj}{kvs:List (aL×V)}(i:h.get? a=some o)(d:∃b,KV kvs b/\h.DictOf (cE P w) a b):
  ∃b ep,KV kvs b/\∀h':Heap,h'.get? a=some o->h'.DictAt (cE P w) a b ep:=by
 obtain⟨b,r,o',es,ep,e,q⟩:=d;rw[i]at e;cases e;exact⟨b,ep,r,λh' f=>⟨o,es,f,q⟩⟩
def Em{P:Program}{w:World}{K:Fg}{tg:Expr}{o:Obj}{kvs:List (aL×V)}{j:List (aL×Value)}{ep:Nat}(a it:Addr)(Y:a≠it)(r:KV kvs j)(hd:∀h':Heap,h'.get? a=some o->h'.DictAt (cE P w) a j ep):
  eX P w K tg (pP (FN a o kvs)<|kvs.map λkv=>kV kv.1) [it] it (λi h=>h.IsKeyIter it a i ↑j ep) where
 mem:=by simp
 obj:=λi h st b f=>by
  have e:b=it:=by simpa using f
  subst e;obtain⟨o,e,c,d⟩:=st;exact⟨o,e,λv z=>by rw[d]at z;cases z⟩
 keep:=λi h h' st k=>st.at λo e=>k it (by simp) o e
 item:=by
  intro X B p u C i O s σ H E I l st m;subst B p u;obtain⟨hz,hi⟩:=m;have L:=(I.hok a _ hz).1;obtain⟨J,N,f2,G,M,q⟩:=l it (by simp);have hl:i<↑j:=by rw[<-↑r];simpa using hi
  have W:=Walks.dictKeys (prog:=X.prog) (w:=X.w) (knd:=cE X.prog X.w) (A:=X.A) (I.ok.hd C) it a Y j ep;refine W.item i s _ _ hl ⟨st,hd _ L⟩ λv h' tk hv a1 kk=>?_;obtain⟨k,x,hx,hk⟩:=hv;have I1:Inv X O σ H {s with heap:=h',toks:=tk}:=I.turned (λb o f e=>kk b o (by simpa using f) e) J N G M q;obtain⟨o',Z,c',d'⟩:=id a1.1;obtain⟨v',a3,_⟩:=r.get hx;refine⟨_,rfl,sY (s:={s with heap:=h',toks:=tk}) Z c' d' (by decide) ⟨kV k,H,I1,?_,⟨rfl,by rw[bD,a3];rfl⟩,a1.1,λb f=>(l b f).1⟩⟩;rcases iZ hk with ⟨n,t,rfl,rfl⟩ | ⟨n,t,rfl,rfl⟩
  .exact⟨t,rfl⟩
  .exact⟨t,rfl⟩
 done:=by
  intro X B p u C i O s σ H E I l st m;subst B p u;obtain⟨hz,hi⟩:=m;have L:=(I.hok a _ hz).1;obtain⟨J,N,f2,G,M,q⟩:=l it (by simp);have hl:↑j<=i:=by rw[<-↑r];simpa using hi
  exact wpAny_pyNext_dict_end (I.ok.hd C) st (hd _ L) (by simpa using hl) λh' T=>⟨rfl,I.turned (t':=s.toks) (λb o f e=>T b o f e) J N G M q⟩
 self:=λ_ _ _ _ _ st h=>wpAny_pyIter_keyiter st h
def XF{P:Program}{w:World}{K:Fg}{tg:Expr}{o:Obj}{kvs:List (aL×V)}{j:List (aL×Value)}{ep:Nat}(a it:Addr)(O:a≠it)(r:KV kvs j)(hd:∀h':Heap,h'.get? a=some o->h'.DictAt (cE P w) a j ep):
  eX P w K tg (pP (FN a o kvs)<|kvs.map λkv=>kv.2) [it] it (λi h=>h.IsValIter it a i ↑j ep) where
 mem:=by simp
 obj:=λi h st b f=>by
  have e:b=it:=by simpa using f
  subst e;obtain⟨o,e,c,d⟩:=st;exact⟨o,e,λv z=>by rw[d]at z;cases z⟩
 keep:=λi h h' st k=>st.at λo e=>k it (by simp) o e
 item:=by
  intro X u n q x i M s σ H E I l st m;subst u n q;obtain⟨hz,hi⟩:=m;have G:=(I.hok a _ hz).1;obtain⟨C,L,Z,B,J,p⟩:=l it (by simp);have hl:i<↑j:=by rw[<-↑r];simpa using hi
  have W:=Walks.dictValues (prog:=X.prog) (w:=X.w) (knd:=cE X.prog X.w) (A:=X.A) (I.ok.hd x) it a O j ep;refine W.item i s _ _ hl ⟨st,hd _ G⟩ λv h' tk hv a1 kk=>?_;obtain⟨k,Y⟩:=hv;have I1:Inv X M σ H {s with heap:=h',toks:=tk}:=I.turned (λb o f e=>kk b o (by simpa using f) e) C L B J p;obtain⟨o',T,c',d'⟩:=id a1.1;obtain⟨v',a3,rv⟩:=r.get Y;exact⟨_,rfl,sY (s:={s with heap:=h',toks:=tk}) T c' d' (by decide) ⟨v',H,I1,rv,⟨rfl,by rw[bD,a3];rfl⟩,a1.1,λb f=>(l b f).1⟩⟩
 done:=by
  intro X u n q x i M s σ H E I l st m;subst u n q;obtain⟨hz,hi⟩:=m;have G:=(I.hok a _ hz).1;obtain⟨C,L,Z,B,J,p⟩:=l it (by simp);have hl:↑j<=i:=by rw[<-↑r];simpa using hi
  exact wpAny_pyNext_values_end (I.ok.hd x) st (hd _ G) (by simpa using hl) λh' N=>⟨rfl,I.turned (t':=s.toks) (λb o f e=>N b o f e) C L B J p⟩
 self:=λ_ _ _ _ _ st h=>wpAny_pyIter_valiter st h
section
variable{tg:Expr}
def AW(te:TE):TI:=λσ H R=>te σ H λx H1=>∃a kvs,x=.ref a/\H1 a=some (.dK kvs)/\∀o,R (pP (FN a o kvs)<|kvs.map λkv=>kV kv.1)<|aA H1 a<|.frz o<|.dK kvs
def EE(hl:PE X l te):PI X tg l (AW te):=by
 intro a1 s σ H R I h;refine aS (hl a1 s σ H _ I h) ?_;rintro v d ⟨x,H1,n,w,z⟩;obtain⟨a,kvs,e,j,q⟩:=z;subst e;cases w;obtain⟨hz,A,hd⟩:=mX n.hok j;obtain⟨o,f⟩:∃o,d.heap.get? a=some o:=by obtain⟨u,_,o,_,_,e,_⟩:=hd;exact⟨o,e⟩
 obtain⟨u,ep,r,m⟩:=FR f hd;refine wpAny_pyIter_dict A (m _ f) ?_;have i:=n.freeze j f;refine⟨d⁻¹,[d⁻¹],_,_,_,rfl,i.kept (t':=d.toks) λb o e=>aZ _ e,Em a _ (bI<|bA f) r m,⟨_,bY _ rfl,rfl,rfl⟩,λb p=>?_,q o⟩;have e:b=d⁻¹:=by simpa using p
 subst e;exact i.fpOk (aO _)<|i.hok.fresh<|aO _
def yK(te:TE):TI:=λσ H R=>te σ H λx H1=>∃a kvs,x=.ref a/\H1 a=some (.dK kvs)/\∀o,R (pP (FN a o kvs)<|kvs.map λkv=>kv.2)<|aA H1 a<|.frz o<|.dK kvs
def ZG(hl:PE X l te)(base:attributeBase l "values" X.env (eval l X.env)=eval l X.env:=by rfl)(few:((backTo cpos<|starEach [] X.env).all (λx=>!x.1) && (backToKw cpos<|keywordEach [] X.env).all (λx=>x.1.isSome) && decide (↑([]:List Expr)+↑([]:List Keyword)+(if ([]:List Keyword).isEmpty then 0 else 1)<30))=true:=by rfl)(line:(apos.endLine == cpos.line)=true:=by rfl)(f:backTo cpos (starEach [] X.env)=[]:=by rfl):PI X tg (.Call (.Attribute l "values" apos) [] [] cpos) (yK te):=by
 intro z s σ H R I h;refine sT base few line oI PySem.F.slot_dict_values PySem.F.type_dict_values<|aS (hl z s σ H _ I h) ?_;rintro u d ⟨x,H1,v,C,a,kvs,ex,j,q⟩;subst ex;obtain rfl:u=Value.ref a:=C;obtain⟨B,t2,a1⟩:=xA v<|.inl ⟨kvs,.inl j⟩;exists B,t2;rw[f];refine oM rfl<|PySem.evalArgs_none ?_;obtain⟨hz,_,hd⟩:=mX v.hok j;obtain⟨o,p⟩:∃o,d.heap.get? a=some o:=by obtain⟨A,_,o,_,_,e,_⟩:=hd;exact⟨o,e⟩
 obtain⟨A,ep,r,m⟩:=FR p hd;refine mV PySem.F.slot_dict_values B PySem.F.entry_dict_values (PySem.F.args_dict_values_1 _) (meets_dict_values (cE X.prog X.w) a a1) ⟨⟨A,(m _ p).dictOf⟩,?_⟩;have i:(d.heap.push {cls:=.type "dict_values",data:=.fields #[.ref a]}).get? a=some o:=aZ _ p;have G:Inv X z σ H1 {d with heap:=d.heap.push {cls:=.type "dict_values",data:=.fields #[.ref a]}}:=v.kept (t':=d.toks) λb o e=>aZ _ e;refine wpAny_pyIter_values (s:={d with heap:=d.heap.push {cls:=.type "dict_values",data:=.fields #[.ref a]}}) ⟨_,bY _ rfl,rfl,rfl⟩ (m _ i) ?_;have n:=G.freeze j i;refine⟨_,[_],_,_,_,rfl,n.kept (t':=d.toks) λb o e=>aZ _ e,XF a _ (bI<|bA i) r m,⟨_,bY _ rfl,rfl,rfl⟩,λb E=>?_,q o⟩;rw[vh7.mp E];exact n.fpOk (aO _)<|n.hok.fresh<|aO _
def yT(t:TE):TE:=λσ H Q=>∃a kvs,H a=some (.dK kvs)/\t σ H λv H'=>∃o,H' a=some (.frz o<|.dK kvs)/\Q v (aA H' a<|.dK kvs)
def NV(h:PE X e t):PE X e (yT t):=by
 intro d s σ H Q I ⟨a,kvs,ha,q⟩;have hz:=I.unfrozen ha;refine aS (h d s σ H _ I q) <| by rintro u j ⟨x,H1,i,b,o,h1,f⟩;exact⟨x,_,i.thaw h1 hz,b,f⟩
def xM(D:dU)(a:Addr)(kvs:List (aL×V)):dU where
 nx:=λσ H=>∃o,H a=some (.frz o<|.dK kvs)/\D.nx σ (aA H a<|.dK kvs)
 rt:=λv H=>∃o,H a=some (.frz o<|.dK kvs)/\D.rt v (aA H a<|.dK kvs)
 bk:=λσ H=>∃o,H a=some (.frz o<|.dK kvs)/\D.bk σ (aA H a<|.dK kvs)
 ct:=λσ H=>∃o,H a=some (.frz o<|.dK kvs)/\D.ct σ (aA H a<|.dK kvs)
def BQ(t:TS):TS:=λD σ H=>∃a kvs,H a=some (.dK kvs)/\t (xM D a kvs) σ H
def PM{st:Stmt}{t:TS}(h:PS X st t):PS X st (BQ t):=by
 intro i s σ H D I ⟨a,kvs,ha,q⟩;have hz:=I.unfrozen ha;refine aS (h i s σ H _ I q) λf j e=>?_;cases f with
 | next=>obtain⟨σ',H',d,o,h1,b⟩:=e;exact⟨σ',_,d.thaw h1 hz,b⟩
 | brk=>obtain⟨σ',H',d,o,h1,b⟩:=e;exact⟨σ',_,d.thaw h1 hz,b⟩
 | cont=>obtain⟨σ',H',d,o,h1,b⟩:=e;exact⟨σ',_,d.thaw h1 hz,b⟩
 | ret u=>obtain⟨v,σ',H',d,r,o,h1,b⟩:=e;exact⟨v,σ',_,d.thaw h1 hz,r,b⟩
end
def xU(K:Fg)(a:Addr):It:=
 ⟨λi H=>∃xs x,SqL K H a xs/\xs[i]?=some x,λi H x H'=>∃p y,H p=none/\x=.ref p/\H'=aA H p (.tup [.int i,y])/\∀xs,SqL K H a xs->xs[i]?=some y,λi H=>∃xs,SqL K H a xs/\↑xs<=i⟩
def Ak{P:Program}{w:World}{K:Fg}{es:List Expr}{k:Nat}{pos:Pos}(a e it:Addr)(ad:e≠it):eX P w K (.Tuple es k pos) (xU K a) [e,it] e (λi h=>(∃old,IsEnum h e it i old)/\h.IsListIter it a i) where
 mem:=by simp
 obj:=λi h st b f=>by
  obtain⟨⟨old,l⟩,hi⟩:=st;rcases vh3.mp f with rfl | f
  .exact⟨_,l,λv z=>by
    have z':Data.fields _=Data.cell v:=z;cases z'⟩
  .have e:b=it:=by simpa using f
   subst e;obtain⟨o,e,c,d⟩:=hi;exact⟨o,e,λv z=>by rw[d]at z;cases z⟩
 keep:=λi h h' st kp=>by
  obtain⟨⟨old,l⟩,hi⟩:=st;exact⟨⟨old,kp e (by simp) _ l⟩,hi.at λo x=>kp it (by simp) o x⟩
 item:=by
  intro X hP hw Y j i Z s σ H E I G st hg;subst hP hw Y;obtain⟨xs,x,M,B⟩:=hg;obtain⟨⟨old,l⟩,W⟩:=st;obtain⟨its,rv,p,hz⟩:=I.list M;obtain⟨u,hu,ru⟩:=rv.get B;obtain⟨f0,f1,f2,f3,f4,f5⟩:=G e (by simp);obtain⟨O,L,g2,g3,g4,g5⟩:=G it (by simp);have aa:e<s⁻¹:=bA l;have a8:it<s⁻¹:=by obtain⟨_,x,_⟩:=W;exact bA x
  refine wpAny_pyNext_enum_item l W p.isList (x:=u) (by simpa using hu) ad λh' ho a7 hT hsz kk=>?_
  refine⟨_,rfl,wpAny_letOwnedTupleGo_enum (s:={s with heap:=h',toks:=s.toks+1}) ho λa1 a9 a3=>?_⟩;have ab:s⁻¹≠e:=cQ aa;have ae:s⁻¹≠it:=cQ a8;have C:H s⁻¹=none:=I.hok.fresh<|aO _;have keep:∀b o,b≠e->b≠it->s.heap.get? b=some o->a1.get? b=some o:=λb o h1 h2 e=>(a3.2 b h1).trans<|kk b o h1 h2 e;have J:∀b u,H b=some u->b≠e/\b≠it:=λb u N=>⟨λz=>(by rw[z,f0]at N;cases N),λz=>(by rw[z,O]at N;cases N)⟩
  have A:Inv X Z σ H {s with heap:=a1,toks:=s.toks+1}:=by
   refine I.step (g':=s.gens) (d':=s.drawn) (ch:=[e,it]) (λb f=>?_) (λb o _ _ j e _=>keep b o (λz=>j<|by simp[z]) (λz=>j<|by simp[z]) e) (λb o _ _ j e _=>⟨o.slots,keep b o (λz=>j<|by simp[z]) (λz=>j<|by simp[z]) e⟩)
    (λ_ _ _ _ n=>n) (λb o j e=>⟨o,keep b o (λz=>j<|by simp[z]) (λz=>j<|by simp[z]) e⟩) (λ_ _ e=>e) (λ_ _ _ e=>e) (λb ps e=>⟨#[],by rw[e];simp⟩) (λm hm=>?_) (λb u eq=>?_) I.bare
   .rcases vh3.mp f with rfl | f
    .exact⟨f3,f1,f4,f5⟩
    .have e:b=it:=by simpa using f
     subst e;exact⟨g3,L,g4,g5⟩
   .obtain⟨o,es,ep,ho,r⟩:=hm;exact⟨o,es,ep,keep _ o (cW f1) (cW L) ho,r⟩
   .refine(I.hok b u eq).stay (λc v j q=>keep c v ?_ ?_ q) (λ_ q=>q) λ_ _ q=>q
    .rcases j with z | z
     .rw[z];exact(J b u eq).1
     .exact(J c _ z).1
    .rcases j with z | z
     .rw[z];exact(J b u eq).2
     .exact(J c _ z).2
  have ac:a1.get? s⁻¹=some {cls:=.type "tuple",data:=.seq #[.int i s.toks,u]}:=(a3.2 _ ab).trans hT;have I1:Inv X Z σ (aA H s⁻¹<|.tup [.int i,x]) {s with heap:=a1,toks:=s.toks+1}:=by
   have base:=A.base;have hok:HOk X.prog X.w (aA H s⁻¹<|.tup [.int i,x]) a1:=by
    intro b z q
    by_cases f:b=s⁻¹
    .subst f;rw[aE]at q;cases q;refine⟨⟨by show 2<=sizeLine;decide,_,ac,rfl⟩,[.int i s.toks,u],.cons ⟨_,rfl⟩<|.cons ru .nil,_,ac,rfl,_,rfl⟩
    .rw[aI f]at q;refine(A.hok b z q).stay (λc w' _ r=>r) (λc r=>?_) λc xs r=>?_
     .rw[aI<|aX r C];exact r
     .rw[aI<|aX r C];exact r
   have old:∀b o',X.s₀.heap.get? b=some o'->b≠s⁻¹:=λb o' e=>bI<|gE (bA e) I.sz;refine⟨A.ok,A.os,A.bare,⟨base.keep,base.slot,λb T q n B=>?_,base.there,λb ys q=>?_,λb T y q=>?_,λb ps q=>?_⟩,A.loc,A.cell,?_,λy c h=>?_,λp hp=>?_,hok,A.len⟩
   .rw[aI<|old b T q];exact base.free b T q n B
   .have:=base.tups b ys q;rw[aI<|aX this C];exact this
   .have:=base.frzs b T y q;rw[aI<|aX this C];exact this
   .obtain⟨m,this⟩:=base.tbls b ps q;exact⟨m,by rw[aI<|aX this C];exact this⟩
   .rw[aI<|bI I.lt];exact I.free
   .obtain⟨v,q⟩:=I.cell y c h;rw[aI<|bI q.lt];exact I.freeC y c h
   .obtain⟨h1,h2,h3⟩:=A.pin p hp;have:=bA (I.pin p hp).1;exact⟨h1,by rw[aI<|bI this];exact h2,h3⟩
  have a6:a1.IsListIter it a (i+1):=a7.at λo y=>(a3.2 it ad.symm).trans y;have af:IsEnum a1 e it ((i+1:Nat):Int) u:=by simpa using a9
  refine⟨.ref s⁻¹,_,I1,rfl,⟨_,x,C,rfl,rfl,λys hy=>by rw[I.list_inj hy M];exact B⟩,⟨⟨u,af⟩,a6⟩,λb f=>?_⟩;rcases vh3.mp f with rfl | f
  .rw[aI<|cW ab];exact f0
  .have e:b=it:=by simpa using f
   subst e;rw[aI<|cW ae];exact O
 done:=by
  intro X hP hw Y j i Z s σ H E I G st hg;subst hP hw Y;obtain⟨xs,M,B⟩:=hg;obtain⟨⟨old,l⟩,W⟩:=st;obtain⟨its,rv,p,hz⟩:=I.list M;obtain⟨O,L,g2,g3,g4,g5⟩:=G it (by simp);have hl:=↑rv;refine wpAny_pyNext_enum_end (I.ok.hd j) l W p.isList (DQ<|by simp;lia) λh' B=>⟨rfl,I.turned (t':=s.toks) (λb o f e=>B b o f e) O L g3 g4 g5⟩
 self:=λ_ _ _ _ _ st h=>by
  obtain⟨⟨old,l⟩,_⟩:=st;exact wpAny_pyIter_enum l h
def AE(K:Fg)(ta:TA):TI:=λσ H R=>ta σ H λvs H1=>∃a xs,vs=[.ref a]/\SqL K H1 a xs/\R (xU K a) H1
theorem boot_enumerate:bootBuiltins "enumerate"=some (.type "enumerate"):=by first | exact PySem.boot_enumerate | rfl
def YF{X:Cx}{es:List Expr}{k:Nat}{a1:Pos}{a:Expr}{ta:TA}{p pos:Pos}(n:Gl X "enumerate")(A:X.mg "enumerate"=none)(ha:PA X [a] ta)(v:starEach [a] X.env=[(false,eval a X.env)]:=by rfl):PI X (.Tuple es k a1) (.Call (.Name "enumerate" p) [a] [] pos) (AE X.K ta):=by
 intro j s σ H R I h;refine Call_<|lS I n A boot_enumerate<|oN (aS (ha pos j s σ H _ I h) λE d ⟨J,H1,f,B,C⟩=>?_) v rfl;obtain⟨l,xs,e,u,q⟩:=C;subst e;cases B with
 | cons r rr=>
  cases rr;cases r;obtain⟨its,G,w,hz⟩:=f.list u;refine call_enumerate_list w.isList λh' m o hsz z=>?_;refine wpAny_pyIter_enum (s:={d with heap:=h'}) m ?_;have x:Inv X j σ H1 {d with heap:=h'}:=f.kept (t':=d.toks) z;refine⟨d⁻¹+1,[d⁻¹+1,d⁻¹],_,_,H1,rfl,x,Ak l _ _<|Nat.succ_ne_self _,⟨⟨_,m⟩,o⟩,λb i=>?_,q⟩;rcases vh3.mp i with rfl | i
  .exact f.fpOk (vC _)<|f.hok.fresh<|vC _
  .have e:b=d⁻¹:=by simpa using i
   subst e;exact f.fpOk (aO _)<|f.hok.fresh<|aO _
def Hh(h:Q 0xFCA86420 {s with toks:=s.toks+1}):wpAny (model prog w) A (pyHash .none) Q E s:=by
 unfold pyHash pyHashByItsType;have a:[Value.none].any Value.onHeap=false:=rfl;refine aB ?_;rw[cRoomFor,aK<|by rw[a];exact cA];refine aD ?_;refine aB<|kE (typeIs_none s) vz4.lookup ?_;show wpAny _ _ (if (some (Value.builtin "NoneType.__hash__") == some Value.none)=true then _ else _) Q E s;rw[aK<|by rw[beq_builtin_none];exact cA];refine aB<|kE (typeIs_none s) vz4.lookup ?_;show wpAny _ _ (callSpecialIfBoundUnlessNone? .none "__hash__" _ >>= _) Q E s;refine aB (wpAny_callSpecialIfBoundUnlessNone?_slot (typeIs_none s) vz4 (fO vz4 (typeIs_none s) PySem.F.entry_NoneType_hash
   (show wpAny _ _ (do ret<|<-mkInt 0xFCA86420) _ _ s from wpAny_ret_mkInt ?_) (PySem.F.args_NoneType_hash_1 _)))
 show wpAny _ _ (if (decide (-(2:Int) ^ 63<=0xFCA86420) && decide ((0xFCA86420:Int)<2 ^ 63))=true then _ else _) Q E _;rw[aR<|by decide];exact aD h
def GN:Option aL->Value->Bool
 | some k,v=>jS k v
 | none,v=>match v with | .none=>true | _=>false
def nR(h:GN none v=true):v=.none:=by
 cases v <;> first | rfl | (simp[GN]at h)
def JL:jS k .none=false:=by cases k <;> rfl
def yU(w:World):Option aL->Int
 | some k=>yC w k
 | none=>0xFCA86420
def MD(prog:Program)(w:World):PySem.KeyKind prog w (Option aL) where
 is:=GN
 hash:=yU w
 inj:=λv a b ha hb=>by
  cases a with
  | none=>
   have e:=nR ha;subst e;cases b with
   | none=>rfl
   | some b=>have hb:jS b .none=true:=hb;rw[JL]at hb;cases hb
  | some a=>
   cases b with
   | none=>
    have e:=nR hb;subst e;have ha:jS a .none=true:=ha;rw[JL]at ha;cases ha
   | some b=>exact cR some<|(cE prog w).inj v a b ha hb
 byValue:=λk v h=>by
  cases k with
  | none=>rw[nR h];rfl
  | some k=>exact(cE prog w).byValue k v h
 pyHash:=λ{A E s k v Q} hv h=>by
  cases k with
  | none=>rw[nR hv];exact Hh h
  | some k=>exact(cE prog w).pyHash (k:=k) hv h
 eqBool:=λ{A E s a b u v Q} hu hv h=>by
  cases a with
  | none=>
   have e:=nR hu;subst e;cases b with
   | none=>
    have e:=nR hv;subst e;have h:Q true s:=by simpa using h
    exact SeqAt.EqAt.same _ _ _ _ _ h
   | some b=>
    have h:Q false s:=by simpa using h
    rcases iZ hv with ⟨i,t,rfl,rfl⟩ | ⟨x,t,rfl,rfl⟩
    .exact SeqAt.EqAt.none_int _ _ _ _ _ _ h
    .exact SeqAt.EqAt.none_str _ _ _ _ _ _ h
  | some a=>
   cases b with
   | none=>
    have e:=nR hv;subst e;have h:Q false s:=by simpa using h
    rcases iZ hu with ⟨i,t,rfl,rfl⟩ | ⟨x,t,rfl,rfl⟩
    .exact SeqAt.EqAt.int_none _ _ _ _ _ _ h
    .exact SeqAt.EqAt.str_none _ _ _ _ _ _ h
   | some b=>exact(cE prog w).eqBool (a:=a) (b:=b) hu hv (by simpa using h)
 «strs»:=λk x t v h=>by
  cases k with
  | none=>have:=nR h;cases this
  | some k=>exact(cE prog w).strs k x t v h
def QP{prog:Program}{w:World}{h:Heap}{a:Addr}{j:List (aL×Value)}(d:h.DictOf (cE prog w) a j):h.MapOf (MD prog w) a (λk=>k.bind<|valueAt j):=by
 obtain⟨o,es,ep,e,c,f,b,n,p⟩:=d;refine⟨o,es,ep,e,c,f,λx i=>?_,λk=>?_⟩
 .obtain⟨k,h1,h2⟩:=b x i;exact⟨some k,h1,h2⟩
 .cases k with
  | none=>
   show findBy GN es none=none;unfold findBy;rw[Array.find?_eq_none.mpr]
   .rfl
   .intro x i;obtain⟨k,h1,_⟩:=b x i;intro z;rw[nR z]at h1;have h1:jS k .none=true:=h1;rw[JL]at h1;cases h1
  | some k=>
   have q:=(Heap.DictOf.mapOf (knd:=cE prog w) ⟨o,es,ep,e,c,f,b,n,p⟩);obtain⟨o',a1,r,l,_,m,_,q⟩:=q;rw[e]at l;cases l;rw[f]at m;cases m;exact q k
section
variable{o e f:Expr}{apos cpos:Pos}{td ty tx:TE}
def nP(H:Hp)(a:Addr)(y:V)(r:Option V):Prop:=∃kvs,Rd H a (.dK kvs)/\((y=.non/\r=none)\/∃k,y=kV k/\r=aN kvs k)
def tJ(td ty:TE):TE:=λσ H Q=>td σ H λx H1=>∃a,x=.ref a/\vK H1 a/\ty σ H1 λy H2=>∃o,nP H2 a y o/\Q (o.getD .non) H2
def sW(td ty tx:TE):TE:=λσ H Q=>td σ H λx H1=>∃a,x=.ref a/\vK H1 a/\ty σ H1 λy H2=>tx σ H2 λz H3=>∃o,nP H3 a y o/\Q (o.getD z) H3
def WT(B:X.A.units+1<cLine)(C:PE X o td)(K:PE X e ty)(m:M1 X o "get" apos e cpos):PE X (.Call (.Attribute o "get" apos) [e] [] cpos) (tJ td ty):=by
 intro f s σ H Q I h;refine sT m.base m.few m.line oI mC FD<|aS (C f s σ H _ I h) ?_;rintro u r ⟨x,H1,n,q,a,ex,d,G⟩;subst ex;obtain rfl:u=Value.ref a:=q;obtain⟨E,t2,_⟩:=xA n d;exists E,t2;rw[m.trees];refine oM rfl<|sK<|kP<|aS (K f r σ H1 _ n G) λJ s2 ⟨y,H2,b,j,O,g,l⟩=>pF ?_;obtain⟨kvs,p,g⟩:=g;rcases g with ⟨rfl,rfl⟩ | ⟨k,rfl,rfl⟩
 .obtain rfl:J=Value.none:=j;obtain⟨z,hd,N,L,i⟩:=mF b.hok p;exact mV mC i.typeIs xD (JR _ _) (meets_dict_get (MD X.prog X.w) a (k:=none) rfl hd) ⟨_,QP i,⟨.non,H2,b.tok _,rfl,l⟩⟩
 .exact OF B b (.inl ⟨kvs,k,p,rfl,rfl⟩) j λM s3 v a1=>⟨_,H2,v,a1,l⟩
def XB(G:X.A.units+1<cLine)(J:PE X o td)(T:PE X e ty)(v:PE X f tx)(m:M2 X o "get" apos e f cpos):PE X (.Call (.Attribute o "get" apos) [e,f] [] cpos) (sW td ty tx):=by
 intro b s σ H Q I h;refine sT m.base m.few m.line oI mC FD<|aS (J b s σ H _ I h) ?_;rintro u E ⟨x,H1,q,C,a,ex,d,O⟩;subst ex;obtain rfl:u=Value.ref a:=C;obtain⟨M,t2,_⟩:=xA q d;exists M,t2;rw[m.trees];refine oM rfl (sK (kP (aS (T b E σ H1 _ q O) λP s2 ⟨y,H2,K,p,L⟩=>
  kP (aS (v b s2 σ H2 _ K L) λB s3 ⟨z,H3,i,l,ov,g,j⟩=>pF ?_))))
 obtain⟨kvs,r,g⟩:=g;rcases g with ⟨rfl,rfl⟩ | ⟨k,rfl,rfl⟩
 .obtain rfl:P=Value.none:=p;obtain⟨_,hd,Z,W,n⟩:=mF i.hok r;exact mV mC n.typeIs xD (IU _ _ _) (meets_dict_get_default (MD X.prog X.w) a (k:=none) rfl hd B) ⟨_,QP n,⟨z,H3,i.tok _,l,j⟩⟩
 .exact RB G i (.inl ⟨kvs,k,r,rfl,rfl⟩) p l λY s4 N a1=>⟨_,H3,N,a1,j⟩
def zQ(td ty tx:TE):TE:=λσ H Q=>td σ H λx H1=>∃a,x=.ref a/\vK H1 a/\ty σ H1 λy H2=>tx σ H2 λz H3=>∃kvs k,H3 a=some (.dK kvs)/\y=kV k/\↑kvs<sizeLine/\
 (∀v,aN kvs k=some v->Q v H3)/\(aN kvs k=none->Q z (aA H3 a<|.dK<|aU kvs k z))
def YK(T:PE X o td)(l:PE X e ty)(E:PE X f tx)(m:M2 X o "setdefault" apos e f cpos):PE X (.Call (.Attribute o "setdefault" apos) [e,f] [] cpos) (zQ td ty tx):=by
 intro i s σ H Q I h;refine sT m.base m.few m.line oI PySem.F.slot_dict_setdefault PySem.F.type_dict_setdefault<|aS (T i s σ H _ I h) ?_;rintro u N ⟨x,H1,B,M,a,ex,d,q1⟩;subst ex;obtain rfl:u=Value.ref a:=M;obtain⟨t1,t2,_⟩:=xA B d;exists t1,t2;rw[m.trees];refine oM rfl (sK (kP (aS (l i N σ H1 _ B q1) λiv s2 ⟨y,H2,Y,Z,W⟩=>
  kP (aS (E i s2 σ H2 _ Y W) λK s3 ⟨z,H3,j,r,kvs,k,C,O,hl,G,g2⟩=>pF ?_))))
 subst O;obtain⟨hz,hd,P,a1,A⟩:=mX j.hok C;have b:=a1.val k;refine mV PySem.F.slot_dict_setdefault A.typeIs PySem.F.entry_dict_setdefault (PySem.F.args_dict_setdefault_3 _ _ _) (kt_meets_setdefault (cE X.prog X.w) a (nL Z) hd K) ⟨P,A,by rw[<-↑a1];exact hz,λv n=>?_,λn h' p J=>?_⟩
 .rw[n]at b;cases q:aN kvs k with
  | none=>rw[q]at b;exact False.elim b
  | some v'=>rw[q]at b;exact⟨v',H3,j.tok _,b,G v' q⟩
 .rw[n]at b;cases q:aN kvs k with
  | some v'=>rw[q]at b;exact False.elim b
  | none=>
   have l:∃q,h'.get? a=some q:=let ⟨q,_,_,hq,_⟩:=p;⟨q,hq⟩
   have L:↑(aU kvs k z)<=sizeLine:=by have:=nM kvs k z;lia
   exact⟨z,_,nI j (by rw[C];exact jG) J l<|yR L hd (a1.put k r) p,r,g2 q⟩
end
def Ap:∀{a:List Value},↑xs=↑a->(∀(i:Nat) x u,xs[i]?=some x->a[i]?=some u->RelV x u)->Vals xs a:=by
 induction xs with
 | nil=>intro a hl h;cases a with
  | nil=>exact .nil
  | cons _ _=>simp at hl
 | cons x xs ih=>intro a hl h;cases a with
  | nil=>simp at hl
  | cons u a=>exact .cons (h 0 x u rfl rfl) (ih (by simpa using hl) λi x u h1 h2=>h (i+1) x u (by simpa using h1)<|by simpa using h2)
def QI(z:X.calm=true):CallR X (.type "list") (λxs H Q=>∃p kvs,xs=[.ref p]/\Rd H p (.dK kvs)/\∀l,H l=none->Q (.ref l) (aA H l<|.lst<|kvs.map λa=>kV a.1)):=by
 intro M s σ H xs L Q I r h;obtain⟨p,kvs,rfl,J,q⟩:=h;obtain⟨u,rfl,B⟩:=gY r;cases B;obtain⟨hz,a1,hd⟩:=mF I.hok J;obtain⟨o,m⟩:∃o,s.heap.get? p=some o:=by obtain⟨j,_,o,_,_,e,_⟩:=hd;exact⟨o,e⟩
 obtain⟨j,ep,b,v⟩:=FR m hd;have K:=↑b;refine PySem.W.kdl_call (PySem.W.kdl_dict (knd:=cE X.prog X.w) (kvs:=j) (ep:=ep) (d:=p) a1) (I.ok.hd z) (v _ m) (by lia) λh' tk acc c' G e f=>?_
 refine⟨.ref s⁻¹,_,I.laid (t':=tk) G (aO _) (show ObjOk X.prog X.w _ h' _ (.lst<|kvs.map λa=>kV a.1) from ⟨by rw[aG];exact hz,acc.toList,c',?_,by simpa using e⟩),rfl,q _<|I.hok.fresh<|aO _⟩;refine Ap (by have h1:=f.1;have h2:↑acc.toList=acc.size:=cF;rw[aG];lia) λi x u h1 h2=>?_
 obtain⟨k,y,A,C⟩:=f.2 i u (by rw[<-iF];exact h2);obtain⟨N,E,_⟩:=b.get A;rw[bD,E]at h1;cases h1;rcases iZ C with ⟨n,t,rfl,rfl⟩ | ⟨n,t,rfl,rfl⟩
 .exact⟨t,rfl⟩
 .exact⟨t,rfl⟩
def OI{prog:Program}{w:World}{A:Around}{bs:List Bool}{its:List Value}(r:Vals (bs.map V.bl) its):TruthOf prog w A (λi v=>its.toArray[i]?=some v) (λi=>bs.getD i false):=by
 intro i v s Q E b a;have b:its[i]?=some v:=by simpa using b
 have hl:=↑r;rw[aG]at hl;obtain⟨hi,_⟩:=vg4.mp b;have d:bs[i]?=some bs[i]:=bH (by lia);obtain⟨u,f,h⟩:=r.get (i:=i) (x:=V.bl bs[i]) (by rw[bD,d];rfl);rw[b]at f;cases f;obtain rfl:v=Value.bool bs[i]:=h;have e:bs.getD i false=bs[i]:=by rw[sF,d];rfl
 have a:Q (bs.getD i false) s:=a;rw[e]at a;exact zZ a
def Ao(bs:List Bool):(List.range ↑bs).any (λi=>bs.getD i false)=bs.any id:=by
 rw[mS];simp only[ud0,vt7]
 constructor
 .rintro⟨i,hi,h⟩;exists bs[i],fT hi;rw[sF,bH hi]at h;exact h
 .rintro⟨b,a,h⟩;obtain⟨i,hi,e⟩:=mP a;exists i,hi;rw[sF,bH hi,e];exact h
def Dp(bs:List Bool):(List.range ↑bs).all (λi=>bs.getD i false)=bs.all id:=by
 rw[mS];simp only[vm1,vt7]
 constructor
 .intro h b a;obtain⟨i,hi,e⟩:=mP a;have:=h i hi;rw[sF,bH hi,e]at this;exact this
 .intro h i hi;rw[sF,bH hi];exact h _<|fT hi
def XU(i:X.calm=true):CallR X (.builtin "any") (λxs H Q=>∃(p:Addr)(bs:List Bool),xs=[.ref p]/\SqL X.K H p (bs.map V.bl)/\Q (.bl<|bs.any id) H):=by
 intro j s σ H xs E Q I r h;obtain⟨p,bs,rfl,f,q⟩:=h;obtain⟨u,rfl,l⟩:=gY r;cases l;obtain⟨its,d,a,hz⟩:=I.list f;have hl:=↑d;rw[aG]at hl;obtain⟨o,w,_⟩:=id a.isList;refine call_any_walk<|zA a.isList ?_;have a1:p≠s⁻¹:=bI<|bA w;have C:Inv X j σ H {s with heap:=s.heap.push {cls:=.type "list_iterator",data:=.fields #[.ref p,.int 0 0]}}:=I.kept (t':=s.toks) λb o e=>aZ _ e;refine⟨_,_,_,_,_,_,_,rfl,Walks.list (A:=X.A.in1) (I.ok.hd i) _ p a1 its.toArray,⟨⟨_,bY _ rfl,rfl,rfl⟩,a.isList.at λo e=>aZ _ e⟩,OI d,λh' tk B=>?_⟩;rw[cL,<-hl,Ao];refine⟨.bl _,H,C.turned (t':=tk) (λb o n e=>B b o (by simpa using n) e) (I.hok.fresh<|aO _) (cQ I.lt) (.inr I.sz) (λx c e z=>?_) λp m z=>?_,rfl,q⟩
 .obtain⟨v,q⟩:=I.cell x c e;exact absurd q.lt (by rw[z];exact iB _)
 .exact absurd (bA (I.pin p m).1) (by rw[z];exact iB _)
def SQ(i:X.calm=true):CallR X (.builtin "all") (λxs H Q=>∃(p:Addr)(bs:List Bool),xs=[.ref p]/\SqL X.K H p (bs.map V.bl)/\Q (.bl<|bs.all id) H):=by
 intro j s σ H xs E Q I r h;obtain⟨p,bs,rfl,f,q⟩:=h;obtain⟨u,rfl,l⟩:=gY r;cases l;obtain⟨its,d,a,hz⟩:=I.list f;have hl:=↑d;rw[aG]at hl;obtain⟨o,w,_⟩:=id a.isList;refine call_all_walk<|zA a.isList ?_;have a1:p≠s⁻¹:=bI<|bA w;have C:Inv X j σ H {s with heap:=s.heap.push {cls:=.type "list_iterator",data:=.fields #[.ref p,.int 0 0]}}:=I.kept (t':=s.toks) λb o e=>aZ _ e;refine⟨_,_,_,_,_,_,_,rfl,Walks.list (A:=X.A.in1) (I.ok.hd i) _ p a1 its.toArray,⟨⟨_,bY _ rfl,rfl,rfl⟩,a.isList.at λo e=>aZ _ e⟩,OI d,λh' tk B=>?_⟩;rw[cL,<-hl,Dp];refine⟨.bl _,H,C.turned (t':=tk) (λb o n e=>B b o (by simpa using n) e) (I.hok.fresh<|aO _) (cQ I.lt) (.inr I.sz) (λx c e z=>?_) λp m z=>?_,rfl,q⟩
 .obtain⟨v,q⟩:=I.cell x c e;exact absurd q.lt (by rw[z];exact iB _)
 .exact absurd (bA (I.pin p m).1) (by rw[z];exact iB _)
def XL(r:Vals (ss.map V.str) its):StrsAre its ss:=by
 induction ss generalizing its with
 | nil=>cases r;exact .nil
 | cons x ss ih=>
  cases r with
  | cons h t=>obtain⟨tk,rfl⟩:=h;exact .cons _ _<|ih t
def JY(r:StrsAre its ss):Vals (ss.map V.str) its:=by
 induction r with
 | nil=>exact .nil
 | cons _ _ _ ih=>exact .cons ⟨_,rfl⟩ ih
def DM:CallR X (.builtin "sorted") (λxs H Q=>∃(p:Addr)(ss:List Str),xs=[.ref p]/\SqL X.K H p (ss.map V.str)/\↑ss<64/\∀(l:Addr)(a:List Str),H l=none->a.Perm ss->sortedS a=true->Q (.ref l) (aA H l<|.lst<|a.map V.str)):=by
 intro a1 s σ H xs v Q I r h;obtain⟨p,ss,rfl,i,x,q⟩:=h;obtain⟨u,rfl,m⟩:=gY r;cases m;obtain⟨its,d,f,hz⟩:=I.list i;have hl:=↑d;rw[aG]at hl;refine sorted_strs f.isList (XL d) (by lia) λout a h1 h2 n=>?_
 obtain⟨e,j⟩:=sortedAll_at s.heap its out;refine⟨.ref<|s⁻¹+1,_,I.laid (t':=s.toks) (λb o e=>sortedAll_old e) (vC _) (show ObjOk X.prog X.w _ _ _ (.lst<|a.map V.str) from ⟨?_,out.toList,e,JY h1,by simpa [seqObj]using j⟩),rfl,q _ _ (I.hok.fresh<|vC _) h2 n⟩;rw[aG,h2.length_eq];rw[aG]at hz;exact hz
def VQ(I:Nat->Shared->Prop) (turn:∀n s,I n s->wpAny (model prog w) A (pyNext it) (λr a=>match r with
   | none=>R (.ok .next) a
   | some v=>wpAny (model prog w) A (letOwnedTupleGo target it v) (λ_ a=>wpAny (model prog w) A (assign target env v) (λ_ o=>
     wpAny (model prog w) A (forIn ifs true λc r=>if r=true then do let ok <-isTrue c env (eval c env);pure (ForInStep.yield ok) else pure (ForInStep.yield r)) (λok d=>
      if ok=true then wpAny (model prog w) A (eval kx env) (λj l=>wpAny (model prog w) A (eval vx env) (λp f=>
       wpAny (model prog w) A (dictSet DD j p) (λ_ e=>∃m,m<n/\I m e) (λ_ _=>False) f) (λ_ _=>False) l) (λ_ _=>False) d
      else ∃m,m<n/\I m d) (λ_ _=>False) o) (λ_ _=>False) a) (λ_ _=>False) a) (λ_ _=>False) s) (n:Nat) (h:I n s):
  codeAny (model prog w) A (.compLoop (.DictComp kx vx [⟨target,iter,ifs,0⟩] scope pos) 0 it (.ref DD) env) R s:=by
 refine codeAny_loop rfl I (λn s q=>?_) n h;show wpAny _ A ((compTurn (.DictComp kx vx [⟨target,iter,ifs,0⟩] scope pos) 0 it (.ref DD) env).onRaise (λx=>do noteFrame x env;theTreesLotGoes x)) _ _ s;refine wpAny_noted ?_;rw[compTurn_dict];refine aB<|pV<|aB<|fM (turn n s q) (λr a b=>?_) λ_ _ h'=>h'.elim;cases r with
 | none=>exact aD b
 | some v=>
  refine aB<|fM b (λ_ a b=>?_) λ_ _ h'=>h'.elim;refine aB<|fM b (λ_ o u=>aB<|fM u (λok d i=>?_) λ_ _ h'=>h'.elim) λ_ _ h'=>h'.elim;cases ok with
  | false=>exact aD ⟨rfl,i⟩
  | true=>
   exact aB<|aB<|fM i (λj l C=>aB<|dP<|fM C (λp f z=>aB<|pV<|dP<|fM z (λ_ e B=>aD ⟨rfl,B⟩) λ_ _ h'=>h'.elim) λ_ _ h'=>h'.elim) λ_ _ h'=>h'.elim
def FT(J:It)(g:TG)(tt:TT)(tk te:TE)(D:Addr)(σ0:St)(H0:Hp)(Q:Hp->Prop):Prop:=
 ∃W:Nat->Nat->St->Hp->Prop,(∃m,W 0 m σ0 H0)/\∀i m σ H,W i m σ H->
 (J.stop i H/\Q H)\/(J.go i H/\∃N:St->Hp->Prop,(∀σ' H',N σ' H'->∃m',m'<m/\W (i+1) m' σ' H')/\∀x H',J.yld i H x H'->g x σ H' λσ2 H2=>tt σ2 H2 λb H3=>
  if b=true then tk σ2 H3 λkx H4=>te σ2 H4 λv H5=>∃kvs k,kx=kV k/\H5 D=some (.dK kvs)/\↑kvs<sizeLine/\N σ2 (aA H5 D<|.dK<|aU kvs k v) else N σ2 H3)
section
variable{scope:Scope}{N':List Str}{src:List (Option Nat)}{pins:List (Addr×Obj)}{σ:St}{H2:Hp}{s2:Shared}
def OT{kx vx tg a6:Expr}{ab:List Expr}{pos:Pos}{it:Addr}{fp:List Addr}{M:Nat->Heap->Prop}{J:It}{g:TG}{tt:TT}{ai te:TE}{Q:Addr->Hp->Prop}
  {RR:Value->Addr->Result->Shared->Prop} {E:Vp} (hc:X.calm=true)
  (B:BlkN X scope N' src) (as:∀x k,(x,k)∈scope.names->k=.free->∀k',(x,k')∈scope.names->k'=.free) (T:eX X.prog X.w X.K tg J fp it M) (I:Inv X pins σ H2 s2) (h0:M 0 s2.heap) (l:∀b∈fp,dH X pins H2 b)
  (hg:∀s3 H3 C,PG (bZ X scope N' s3 H3 C fp) tg g) (ht:∀s3 H3 C,lT (bZ X scope N' s3 H3 C fp) ab tt) (hk:∀s3 H3 C,PE (bZ X scope N' s3 H3 C fp) kx ai) (he:∀s3 H3 C,PE (bZ X scope N' s3 H3 C fp) vx te)
  (hw:∀D,H2 D=none->FT J g tt ai te D (sub src σ) (aA H2 D<|.dK []) (Q D))
  (hQ:∀D C H' s',C≠D->(∃m,s'.heap.Ns C m)->(∀aa ,Heap.SameBut C s'.heap aa->Inv X pins σ H' {s' with heap:=aa})->Inv X pins σ H' s'->H' C=none->C≠X.env.locals->(∀x c,X.env.cells.lookup x=some c->c≠C)->X.s₀⁻¹<=C->(∀p∈X.pn++pins,p.1≠C)->Q D H'->RR (.ref D) C (.ok .next) s'):
  wpAny (model X.prog X.w) X.A (newDict) (λacc O=>wpAny (model X.prog X.w) X.A (newFunctionEnv scope X.env.globals (bT X.env scope.names) [] X.env.qual none .none<|some X.env) (λa8 s₄=>
   codeAny (model X.prog X.w) X.A (.compStart (.DictComp kx vx [⟨tg,a6,ab,0⟩] scope pos) 0 (.ref it) acc {a8 with scope:=relabel scope X.env}) (RR acc a8.locals) s₄) E O) E s2:=by
 have a9:∀y∈scope.names,y.2≠.cell:=λy hy=>cC<|vm1.mp B.nocell y hy;refine fY<|wpAny_newFunctionEnv a9 (by intro y hy;simp at hy) (λP a5 a2=>?_) B.kind;dsimp only at a5 a2 ⊢;have b1:H2 s2⁻¹=none:=I.hok.fresh<|aO _;have G:Inv X pins σ (aA H2 s2⁻¹<|.dK []) {s2 with heap:=s2.heap.push {cls:=.type "dict",data:=.dict #[]}}:=
  I.laid (t':=s2.toks) (λb o e=>aZ _ e) (aO _) (IE s2.heap I.big)
 generalize hH3:(s2.heap.push {cls:=.type "dict",data:=.dict #[]})=f at a5 a2 G ⊢;have ad:f.objs.size=s2⁻¹+1:=by rw[<-hH3,jU]
 have a4:∀b o,s2.heap.get? b=some o->f.get? b=some o:=λb o e=>by rw[<-hH3];exact aZ _ e
 have a1:∀b o,f.get? b=some o->P.get? b=some o:=λb o e=>a2.extBut b o (bI<|bA e)<|aZ _ e;have a3:s2⁻¹<f.objs.size:=by rw[ad];exact oB _
 have ar:∀b∈fp,dH X pins (aA H2 s2⁻¹<|.dK []) b:=λb j=>by
  obtain⟨o,e,_⟩:=T.obj _ _ h0 b j;refine⟨?_,(l b j).2⟩;rw[aI<|bI<|bA e];exact(l b j).1
 have a7:∀b∈fp,b<f.objs.size:=λb j=>by
  obtain⟨o,e,_⟩:=T.obj _ _ h0 b j;exact fP (bA e) a3
 have au:=IZ (fp:=fp) (C:=f.objs.size) (s4:={s2 with heap:=P,toks:=s2.toks+↑([]:List (Str×Value))}) B G ar a7 as rfl a5 a1 rfl rfl;have aj:M 0 P:=T.keep _ _ _ h0 λb j o e=>a1 b o<|a4 b o e;obtain⟨W,⟨m0,w0⟩,turn⟩:=hw s2⁻¹ b1;have af:∀{H':Hp},(∀b∈fp,H' b=none)->∀b∈fp,dH (bZ X scope N' {s2 with heap:=f} (aA H2 s2⁻¹<|.dK []) f.objs.size fp) [] H' b:=λhn b j=>by
  refine⟨hn b j,bI<|a7 b j,?_,.inl j,λx c h=>(l b j).2.2.2.2.1 x c (B.back I.ok h).1,λp hp=>absurd (show p∈([]:List (Addr×Obj)) from hp)<|by simp⟩;intro z;rcases vh3.mp (G.stkSub b z)with y | y
  .exact(l b j).2.1 y
  .exact(l b j).2.2.1 y
 have az:∀(s':Shared)(σ':St)(H':Hp),Inv (bZ X scope N' {s2 with heap:=f} (aA H2 s2⁻¹<|.dK []) f.objs.size fp) [] σ' H' s'->Q s2⁻¹ H'->RR (.ref s2⁻¹) f.objs.size (.ok .next) s':=λs' σ' H' L q=>by
  obtain⟨hh,gg,dd,ae,ax⟩:=s';have b6:ax=s2.os:=L.os;subst b6;have IX:Inv X pins σ H' {({s2 with heap:=f}:Shared)with heap:=hh,gens:=gg,drawn:=dd,toks:=ae}:=Inv.call (s:={s2 with heap:=f}) G (h':=hh) (g':=gg) (d':=dd) (t':=ae) (ch:=fp) L.base L.hok L.bare λb j=>⟨(l b j).2.2.2.1,(l b j).2.1,(l b j).2.2.2.2.1,(l b j).2.2.2.2.2⟩;have bb:s2⁻¹<=f.objs.size:=cM a3;have al:f.objs.size≠X.env.locals:=cQ G.lt;have ah:∀x c,X.env.cells.lookup x=some c->c≠f.objs.size:=λx c e z=>by
   obtain⟨v,q⟩:=G.cell x c e;exact absurd (show c<f.objs.size from q.lt) (by rw[z];exact iB _)
  have aq:∀p∈X.pn++pins,p.1≠f.objs.size:=λp hp z=>by
   have:=bA (G.pin p hp).1;exact absurd (show p.1<f.objs.size from this) (by rw[z];exact iB _)
  have an:H' f.objs.size=none:=L.free;obtain⟨m,hm,_⟩:=L.loc;refine hQ _ _ H' _ (cQ a3) ⟨m,hm⟩ (λaa sb=>?_) IX an al ah (fI G.sz<|aO _) aq q;exact IX.turned (t':=ae) (λb o j e=>(sb.2 b j).trans e) an al (.inr<|fI G.sz<|aO _) ah aq
 have H:∀O:Shared,O={s2 with heap:=P,toks:=s2.toks+↑([]:List (Str×Value))}->
   codeAny (model X.prog X.w) X.A (.compLoop (.DictComp kx vx [⟨tg,a6,ab,0⟩] scope pos) 0 (.ref it) (.ref s2⁻¹)<|compEnvC scope (bT X.env scope.names) f.objs.size X.env)
    (RR (.ref s2⁻¹) f.objs.size) O:=by
  rintro O rfl;refine VQ (λn s'=>∃i σ' H',Inv (bZ X scope N' {s2 with heap:=f} (aA H2 s2⁻¹<|.dK []) f.objs.size fp) [] σ' H' s'/\M i s'.heap/\(∀b∈fp,H' b=none)/\W i n σ' H') ?_ m0 ⟨0,_,_,au,aj,λb j=>(ar b j).1,w0⟩;rintro n s5 ⟨i,σ5,Y,I5,ap,ak,w5⟩;rcases turn i n σ5 Y w5 with ⟨stop,qn⟩ | ⟨go,Nx,hN,step⟩
  .refine aS (T.done (bZ X scope N' {s2 with heap:=f} (aA H2 s2⁻¹<|.dK []) f.objs.size fp) rfl rfl rfl hc i [] s5 σ5 Y _ I5 (af ak) ap stop) ?_;rintro r s6 ⟨hr,I6⟩;subst hr;exact az s6 σ5 Y I6 qn
  .refine aS (T.item (bZ X scope N' {s2 with heap:=f} (aA H2 s2⁻¹<|.dK []) f.objs.size fp) rfl rfl rfl hc i [] s5 σ5 Y _ I5 (af ak) ap go) ?_;rintro r s6 ⟨u,hr,h6⟩;subst hr;refine aS h6 ?_;rintro _ s7 ⟨x,H7,I7,r7,y7,ac,ba⟩;have b8:=I7.pinned (af ba)<|T.obj _ _ ac;refine aS (hg _ _ _ _ s7 σ5 H7 x u _ b8 r7<|step x H7 y7) ?_;rintro _ s8 ⟨σ8,H8,I8,q8⟩;refine aS (ht _ _ _ _ s8 σ8 H8 _ I8 q8) ?_;rintro ok s9 ⟨H9,I9,q9⟩;have again:∀{σa:St}{N:Hp}{Z:Shared},Inv (bZ X scope N' {s2 with heap:=f} (aA H2 s2⁻¹<|.dK []) f.objs.size fp) ([]++tQ fp s7.heap) σa N Z->Nx σa N->
     ∃m,m<n/\∃i σ' H',Inv (bZ X scope N' {s2 with heap:=f} (aA H2 s2⁻¹<|.dK []) f.objs.size fp) [] σ' H' Z/\M i Z.heap/\(∀b∈fp,H' b=none)/\W i m σ' H':=λ{σa N Z} Ia na=>by
    obtain⟨m',hm,wa⟩:=hN σa N na;refine⟨m',hm,i+1,σa,N,Ia.unpinned,T.keep _ _ _ ac λb j o e=>(Ia.pin (b,o)<|fR _<|fR _<|pN j e).1,λb j=>?_,wa⟩;obtain⟨o,e,d⟩:=T.obj _ _ ac b j;exact(Ia.pin (b,o)<|fR _<|fR _<|pN j e).2.1
   cases ok with
   | false=>exact again I9 q9
   | true=>
    refine aS (hk _ _ _ _ s9 σ8 H9 _ I9 q9) ?_;rintro kv b7 ⟨kk,b0,b2,rk,av⟩;refine aS (he _ _ _ _ b7 σ8 b0 _ b2 av) ?_;rintro y b5 ⟨v,bc,ag,b4,kvs,k,ek,hx,hl,aw⟩;subst ek;obtain⟨z,hd,vs,am,dd⟩:=mX ag.hok hx;have hz:↑vs<=sizeLine:=by rw[<-↑am];exact z
    have b3:↑(aU kvs k v)<=sizeLine:=by have:=nM kvs k v;lia
    refine wpAny_dictSet_pairs (knd:=cE X.prog X.w) (hsz:=hz) (nL rk) dd λh' ao hs=>?_;have b9:∃q,h'.get? s2⁻¹=some q:=let ⟨q,_,_,hq,_⟩:=ao;⟨q,hq⟩
    have ay:=nI (t':=b5.toks+1) ag (by rw[hx];exact jG) hs b9<|yR b3 hd (am.put k b4) ao;exact again ay aw
 exact codeAny_compStart_dict (H _ rfl)<|T.self _ 0 _ _ _ aj<|H _ rfl
def TC(wi:TI)(src:List (Option Nat))(g:TG)(tt:TT)(tkx te:TE):TE:=λσ H Q=>wi σ H λJ H2=>∀D,H2 D=none->FT J g tt tkx te D (sub src σ) (aA H2 D<|.dK []) λH'=>Q (.ref D) H'
def As(E:X.calm=true)(B:BlkN X scope N' src)(hi:PI X tg iter wi)(o:∀s3 H3 C fp,PG (bZ X scope N' s3 H3 C fp) tg g)(O:∀s3 H3 C fp,lT (bZ X scope N' s3 H3 C fp) ifs tt)(j:∀s3 H3 C fp,PE (bZ X scope N' s3 H3 C fp) kx tkx)(Y:∀s3 H3 C fp,PE (bZ X scope N' s3 H3 C fp) vx te)(l:(scope.names.all λy=>decide (y.2=.free->∀z∈scope.names,z.1=y.1->z.2=.free))=true:=by rfl')(L:∀x,foldedSetIterable iter X.env x=pure x:=by intro _;rfl):
  PE X (.DictComp kx vx [⟨tg,iter,ifs,0⟩] scope pos) (TC wi src g tt tkx te):=by
 intro a1 s σ H Q I h;have M:∀x k,(x,k)∈scope.names->k=.free->∀e,(x,e)∈scope.names->e=.free:=λx k d j e p=>cC (vm1.mp l (x,k) d) j (x,e) p rfl;have v:closureFor scope X.env=pure (bT X.env scope.names):=xZ λy i f=>I.ok.has y.1<|cC (vm1.mp B.frees y i) f;have K:∀y∈scope.names,y.2=.local->scope.names.lookup y.1=some .local:=λy i=>cC<|vm1.mp B.locs y i;rw[arm_eval_DictComp];refine xS (use:=none) rfl L v B.kind K<|aS (hi a1 s σ H _ I h) λxv s₁ r=>aS r λab s2 h2=>?_;obtain⟨it,fp,tn,J,H2,rfl,P,T,N,f,n⟩:=h2;refine OT (RR:=λacc C=>compPost (model X.prog X.w) X.A X.xe none (EP X a1 σ Q) acc C) (Q:=λD H'=>Q (.ref D) H') E B M T P N f (λa b c=>o a b c fp) (λa b c=>O a b c fp) (λa b c=>j a b c fp) (λa b c=>Y a b c fp) n ?_;intro D C H' s' aa d W IX Z a9 a8 ae ad q;obtain⟨m,d⟩:=d;exact⟨m,d,λG u=>⟨.ref D,H',W G u,rfl,q⟩⟩
def ZW(hc:X.calm=true)(W:X.N.Nodup)(ag:X.N[i]?=some y)(f:X.env.scope.names.lookup y=some .local)(B:BlkN X scope N' src)(hi:PI X tg iter wi)(hg:∀s3 H3 C fp,PG (bZ X scope N' s3 H3 C fp) tg g)(ht:∀s3 H3 C fp,lT (bZ X scope N' s3 H3 C fp) ifs tt)(p:∀s3 H3 C fp,PE (bZ X scope N' s3 H3 C fp) kx tkx)(he:∀s3 H3 C fp,PE (bZ X scope N' s3 H3 C fp) vx te)(af:swapsWith (.DictComp kx vx [⟨tg,iter,ifs,0⟩] scope pos) (some<|.Name y py) spos.line X.env=pure true:=by rfl)(a7:(scope.names.all λy=>decide (y.2=.free->∀z∈scope.names,z.1=y.1->z.2=.free))=true:=by rfl')(hs:∀x,foldedSetIterable iter X.env x=pure x:=by intro _;rfl):
  PS X (.Assign [.Name y py] (.DictComp kx vx [⟨tg,iter,ifs,0⟩] scope pos) spos) (gC (TC wi src g tt tkx te)<|bS i):=by
 intro r s σ H D I h;have G:∀x k,(x,k)∈scope.names->k=.free->∀l,(x,l)∈scope.names->l=.free:=λx k j p l a8=>cC (vm1.mp a7 (x,k) j) p (x,l) a8 rfl;have P:closureFor scope X.env=pure (bT X.env scope.names):=xZ λy f n=>I.ok.has y.1<|cC (vm1.mp B.frees y f) n;have a1:∀y∈scope.names,y.2=.local->scope.names.lookup y.1=some .local:=λy f=>cC<|vm1.mp B.locs y f;rw[exec_Assign_Name_used _ _ _ _ af];refine aB<|pV<|aB ?_;show wpAny _ X.A (do let _ <-comprehension (.DictComp kx vx [⟨tg,iter,ifs,0⟩] scope pos) scope X.env _ (newDict) false (eval iter X.env) (some<|assign (.Name y py) X.env)) _ _ s;have h':wi σ H λJ H2=>∀d,H2 d=none->FT J g tt tkx te d (sub src σ) (aA H2 d<|.dK []) λH'=>D.nx (σ.set i<|some<|.ref d) H':=h;refine aB<|fM (xS (use:=some<|assign (.Name y py) X.env) (Q:=λ_ s'=>SP X r D .next s') rfl hs P B.kind a1<|aS (hi r s σ H _ I h') λxv s₁ L=>aS L λal s2 h2=>?_) (λ_ s' M=>aD<|aD M) λ_ _ e=>e
 obtain⟨it,fp,tn,J,H2,rfl,I2,T,Y,n,hw⟩:=h2;refine OT (RR:=λacc C=>compPost (model X.prog X.w) X.A X.xe (some<|assign (.Name y py) X.env) (λ_ s'=>SP X r D .next s') acc C) (Q:=λd H'=>D.nx (σ.set i<|some<|.ref d) H') hc B G T I2 Y n (λa b c=>hg a b c fp) (λa b c=>ht a b c fp) (λa b c=>p a b c fp) (λa b c=>he a b c fp) hw ?_;intro d C H' s' ak j ai IX ah u E aa a9 q;obtain⟨m,j⟩:=j;show wpAny _ X.A (assign (.Name y py) X.env<|.ref d) _ _ _;refine wpAny_assign_Name ?_;refine MQ (v:=.ref d) IX W ag (.inl f) rfl (λad ae O=>?_)<|.inr f;obtain⟨a,Z,ha⟩:=O;have K:C≠a:=by
  rintro rfl;rcases ha with z | z
  .exact u z
  .exact E _ _ z rfl
 refine⟨m,j.sameBut Z K,λaj sb=>⟨_,H',?_,q⟩⟩;exact ae.turned (t':=ad.toks) (λb o hb e=>(sb.2 b hb).trans e) ah u (.inr aa) E a9
end
def AH(hi:Int)(n:Nat):It:=⟨λi _=>i<n,λi H x H'=>H'=H/\x=.int (hi-i),λi _=>n<=i⟩
def YQ{P:Program}{w:World}{K:Fg}{tg:Expr}(it:Addr)(hi:Int)(n:Nat):eX P w K tg (AH hi n) [it] it (λi h=>IsRangeIter h it (hi+(i:Nat)*-1) ((n:Int)-(i:Nat))<|-1) where
 mem:=by simp
 obj:=λi h st b a=>by
  have e:b=it:=by simpa using a
  subst e;exact⟨_,st,λv z=>by
   have G:Data.fields _=Data.cell v:=z;cases G⟩
 keep:=λi h h' st k=>k it (by simp) _ st
 item:=by
  intro X p j m q i B s σ H E I d st f;subst p j m;obtain⟨u,A,C,r,x,l⟩:=d it (by simp);have W:=Walks.range (prog:=X.prog) (w:=X.w) (I.ok.hd q) it hi (-1) n;refine W.item i s _ _ f st λv h' tk N a1 L=>?_;obtain⟨t,rfl⟩:=N;have M:Inv X B σ H {s with heap:=h',toks:=tk}:=I.turned (λb o a e=>L b o (by simpa using a) e) u A r x l;refine⟨_,rfl,sY (s:={s with heap:=h',toks:=tk}) (n:="range_iterator") a1 rfl rfl (by decide) ⟨.int<|hi-i,H,M,⟨t,?_⟩,⟨rfl,rfl⟩,a1,λb a=>(d b a).1⟩⟩;have e:hi+(i:Int)*-1=hi-i:=by lia
  rw[e]
 done:=by
  intro X p j m q i B s σ H E I d st f;subst p j m;obtain⟨u,A,C,r,x,l⟩:=d it (by simp);exact wpAny_pyNext_range_end (I.ok.hd q) st (by have:n<=i:=f;lia) λh' J=>⟨rfl,I.turned (t':=s.toks) (λb o a e=>J b o a e) u A r x l⟩
 self:=λ_ _ _ _ _ st h=>wpAny_pyIter_rangeiter st h
def Ai(ha:-(2 ^ 30)<=a)(a1:a<2 ^ 30)(d:-(2 ^ 30)<=b)(f:b<2 ^ 30):Builtin.Range.small a b (-1)=true:=by
 unfold Builtin.Range.small;have e:Builtin.Range.rangeSize a b (-1)=if a > b then a-b else 0:=by
  unfold Builtin.Range.rangeSize;simp only[show ¬((-1:Int) > 0) by decide,gI,show -(-1:Int)=1 by decide,Int.ediv_one]
  split <;> lia
 rw[e];simp only[Builtin.Range.rangeFitsLong,kH,Bool.or_eq_true,decide_eq_true_eq,beq_iff_eq,show ¬((-1:Int) > 0) by decide,gI]
 split <;> lia
def yJ(ta:TA):TI:=λσ H R=>ta σ H λvs H1=>∃i j:Int,vs=[.int i,.int j,.int<|-1]/\(-(2 ^ 30)<=i/\i<2 ^ 30/\-(2 ^ 30)<=j/\j<2 ^ 30)/\R (AH i (i-j).toNat) H1
def Dx(u:Gl X "range")(A:X.mg "range"=none)(ha:PA X [a,b,c] ta)(C:starEach [a,b,c] X.env=[(false,eval a X.env),(false,eval b X.env),(false,eval c X.env)]:=by rfl)(a1:starEach [b,c] X.env=[(false,eval b X.env),(false,eval c X.env)]:=by rfl):PI X tg (.Call (.Name "range" p) [a,b,c] [] pos) (yJ ta):=by
 intro m s σ H R I h;refine Call_ (lS I u A boot_range<|oN (aS (ha pos m s σ H _ I h) λL d ⟨K,H1,E,B,l⟩=>?_) (by rw[C,a1])<|by rw[a1];rfl);obtain⟨i,j,e,⟨l,x,n,G⟩,q⟩:=l;subst e;cases B with
 | cons r rr=>
  cases rr with
  | cons r' rr=>
   cases rr with
   | cons r'' rr=>
    cases rr;obtain⟨t,rfl⟩:=r;obtain⟨t',rfl⟩:=r';obtain⟨z,rfl⟩:=r'';refine call_range_3 (by decide) ?_ (fH<|PyProof.noPylong_small<|by decide);refine wpAny_pyIter_range (IsRange.new ..) (Ai l x n G) ?_;have f:Inv X m σ H1 {d with heap:=d.heap.push {cls:=.type "range",data:=.fields #[.int i t,.int j t',.int (-1) z]},toks:=d.toks}:=E.kept λb o e=>aZ _ e;refine⟨_,[_],_,_,H1,rfl,f.kept (t':=d.toks) λb o e=>aZ _ e,YQ _ i (i-j).toNat,?_,λb w=>?_,q⟩
    .have v:i+((0:Nat):Int)*-1=i:=by lia
     have J:(((i-j).toNat:Nat):Int)-((0:Nat):Int)=Builtin.Range.rangeSize i j (-1):=by
      unfold Builtin.Range.rangeSize;simp only[show ¬((-1:Int) > 0) by decide,gI,show -(-1:Int)=1 by decide,Int.ediv_one]
      split <;> lia
     show IsRangeIter _ _ (i+((0:Nat):Int)*-1) ((((i-j).toNat:Nat):Int)-((0:Nat):Int))<|-1;rw[v,J];exact bY _ rfl
    .rw[vh7.mp w];exact f.fpOk (aO _)<|f.hok.fresh<|aO _
def ZP{hi:Int}{n:Nat}{g:TG}{tb:TS}{D:dU}{σ:St}{H:Hp}(a:Nat->St->Hp->Prop)(h:a 0 σ H)
  (f:∀i σ H,i<n->a i σ H->g (.int<|hi-i) σ H λσ2 H2=>tb {D with nx:=a<|i+1,ct:=a<|i+1,bk:=D.nx} σ2 H2) (hd:∀σ H,a n σ H->D.nx σ H):
  ∃W:Nat->Nat->St->Hp->Prop,(∃m,W 0 m σ H)/\∀i m σ H,W i m σ H->
   ((AH hi n).stop i H/\D.nx σ H)\/((AH hi n).go i H/\∃N:St->Hp->Prop,(∀σ' H',N σ' H'->∃m',m'<m/\W (i+1) m' σ' H')/\∀x H',(AH hi n).yld i H x H'->g x σ H' λσ2 H2=>tb {D with nx:=N,ct:=N,bk:=D.nx} σ2 H2):=by
 exists λi m σ H=>m=n-i/\i<=n/\a i σ H,⟨n,by simp,bO _,h⟩;rintro i m σ H ⟨rfl,hi,p⟩
 by_cases b:i<n
 .refine .inr ⟨b,a<|i+1,λσ' H' d=>⟨n-(i+1),by lia,rfl,b,d⟩,λx H' y=>?_⟩;obtain⟨e,y⟩:=y;subst e y;exact f i σ _ b p
 .have e:i=n:=by lia
  subst e;exact .inl ⟨aO _,hd σ H p⟩
def JI:V->Option Int->Option Int->Hp->VK->Prop:=λx lo hi H Q=>∃z,x=.str z/\↑z<=sizeLine/\Q (.str<|Txt.slice z lo hi) H
def QD:EA X JI:=by
 intro a1 s σ H x v B r lo hi f Q I p b n d h;obtain⟨z,rfl,hz,q⟩:=h;obtain⟨t,rfl⟩:=p;exists "str",_,F.slot_str_getitem.lookup,typeIs_str _ _ _;have a:∀(l u:Option (Int×Tok)),s.heap.IsSlice f l u none->l.map (·.1)=lo->u.map (·.1)=hi->wpAny (model X.prog X.w) X.A (getItem (.str z t)<|.ref f) (EP X a1 σ Q) X.xe s:=λl u o m e=>by
  refine wpAny_getItem_str_slice (l:=l) (u:=u) (st:=none) o rfl<|post_val_or_str ⟨?_,λt' k=>?_⟩
  .have:=Txt.slice_le z lo hi;rw[<-m,<-e]at this;exact fI this hz
  .refine⟨.str<|Txt.slice z lo hi,H,I.tok _,⟨t',?_⟩,q⟩;rw[<-m,<-e];rfl
 cases n with
 | none=>cases d with
  | none=>exact a none none b rfl rfl
  | int j tj=>exact a none (some (j,tj)) b rfl rfl
 | int i ti=>cases d with
  | none=>exact a (some (i,ti)) none b rfl rfl
  | int j tj=>exact a (some (i,ti)) (some (j,tj)) b rfl rfl
def DB:R2:=λx y H Q=>∃z n,x=.str z/\y=.int n/\(n=0\/n=1)/\Q (.str<|if n=0 then Str.empty else z) H
def Bc:cN X (binaryOp .Mult) DB:=by
 intro e s σ H x y v u Q I d b h;obtain⟨z,n,rfl,rfl,a,q⟩:=h;obtain⟨t,rfl⟩:=d;obtain⟨t',rfl⟩:=b;refine SB.mul ⟨?_,?_,?_⟩ λa1 k=>⟨.str<|Txt.mul z n,H,I.tok _,⟨a1,rfl⟩,?_⟩
 .rcases a with rfl | rfl <;> decide
 .rcases a with rfl | rfl
  .intro h;exact absurd (by decide) h
  .intro _ h;simp at h
 .rcases a with rfl | rfl
  .intro h;exact absurd (by decide) h
  .intro _ h;simp at h
 .rcases a with rfl | rfl
  .exact q
  .exact q
def BF(K:Fg)(neg:Bool):R2:=λx y H Q=>∃a b xs,x=.ref a/\y=.ref b/\a≠b/\SqL K H a xs/\SqL K H b []/\Q (.bl<|xs.isEmpty != neg) H
def TL(d:X.A.units<cLine):cN X (compareOp .Eq) (BF X.K false):=by
 intro n s σ H x y v u Q I l i h;obtain⟨a,b,xs,rfl,rfl,m,h1,h2,q⟩:=h;cases l;cases i;obtain⟨its,r,p,hz⟩:=I.list h1;obtain⟨a1,f,p2,_⟩:=I.list h2;cases f;show wpAny _ _ (richCompare .Eq (.ref a)<|.ref b) _ _ _;cases r with
 | nil=>exact SeqAt.RcAt.lists (e:=λ_=>true) p.isList p2.isList rfl d (λj h=>absurd h<|by simp) _ _ _ _ ⟨.bl true,H,I,by simp;rfl,q⟩
 | cons r rr=>exact SeqAt.RcAt.lists_lengths p.isList p2.isList (by simp) d _ _ _ _ ⟨.bl false,H,I,rfl,q⟩
def EF(d:X.A.units<cLine):cN X (compareOp .NotEq) (BF X.K true):=by
 intro n s σ H x y v u Q I l i h;obtain⟨a,b,xs,rfl,rfl,m,h1,h2,q⟩:=h;cases l;cases i;obtain⟨its,r,p,hz⟩:=I.list h1;obtain⟨a1,f,p2,_⟩:=I.list h2;cases f;show wpAny _ _ (richCompare .NotEq (.ref a)<|.ref b) _ _ _;cases r with
 | nil=>exact SeqAt.RcNeAt.lists (e:=λ_=>true) p.isList p2.isList rfl d (λj h=>absurd h<|by simp) _ _ _ _ ⟨.bl false,H,I,by simp;rfl,q⟩
 | cons r rr=>exact SeqAt.RcNeAt.lists_lengths p.isList p2.isList (by simp) d _ _ _ _ ⟨.bl true,H,I,rfl,q⟩
def Ds(its:List Value):slicePick its.toArray none none (some<|-1)=its.reverse.toArray:=by
 unfold slicePick;have e:sliceBounds none none (some<|-1) its.toArray.size=((↑its:Int)-1,-1,-1):=by
  unfold sliceBounds;simp
 rw[e];unfold sliceRange;simp only[show ¬((-1:Int) > 0) by decide,gI,show -(-1:Int)=1 by decide,Int.ediv_one];have j:(if (↑its:Int)-1 > -1 then(↑its:Int)-1 - -1 - -1-1 else 0).toNat=↑its:=by split <;> lia
 rw[j]
 congr 1
 rw[yX];refine wE λi=>?_;have a:∀(n:Nat),n<=↑its->(List.range n).filterMap ((λx=>its.toArray[x]?)∘λ(k:Nat)=>((↑its:Int)-1+-1*(k:Int)).toNat)=its.reverse.take n:=by
  intro n
  induction n with
  | zero=>intro _;simp
  | succ n ih=>
   intro l;rw[List.range_succ,List.filterMap_append,ih (by lia),dG]
   congr 1
   have d:((↑its:Int)-1+-1*(n:Int)).toNat=↑its-1-n:=by lia
   have b:its[↑its-1-n]?=some its[↑its-1-n]:=bH (by lia);have h:its.reverse[n]?=some its[↑its-1-n]:=by rw[List.getElem?_reverse<|by lia];exact b
   rw[h];have f:((λx=>its.toArray[x]?)∘λ(k:Nat)=>((↑its:Int)-1+-1*(k:Int)).toNat) n=some its[↑its-1-n]:=by
    show its.toArray[((↑its:Int)-1+-1*(n:Int)).toNat]?=_;rw[d];simpa using b
   rw[FG,f];rfl
 rw[a ↑its (aO _)];rw[dD<|by simp]
def BU(K:Fg)(te:TE)(ts:TE):TE:=λσ H Q=>te σ H λx H1=>ts σ H1 λy H2=>y=.int (-1)/\∃a xs,x=.ref a/\SqL K H2 a xs/\∀p,H2 p=none->Q (.ref p) (aA H2 p<|.lst xs.reverse)
def VO{e st:Expr}{te ts:TE}{p2 pos:Pos}(G:PE X e te)(l:PE X st ts):PE X (.Subscript e (.Slice none none (some st) p2) pos) (BU X.K te ts):=by
 intro d s σ H Q I h;refine Subscript_<|aS (G d s σ H _ I h) ?_;rintro v n ⟨x,H1,E,B,C⟩;refine wpAny_Slice ?_;rw[evalPart_none];refine aD<|aD ?_;refine aS (l d n σ H1 _ E C) ?_;rintro J s3 ⟨y,H3,p,z,u,a,xs,ex,j,q⟩;subst u ex;obtain⟨tk,rfl⟩:=z;obtain rfl:v=Value.ref a:=B;have f:Inv X d σ H3 {s3 with heap:=s3.heap.push {cls:=.type "slice",data:=.fields #[.none,.none,.int (-1) tk]}}:=p.kept (t':=s3.toks) λb m q=>aZ _ q;show wpAny (model X.prog X.w) X.A (subscriptTail e (.Slice none none (some st) p2) (.ref a)<|.ref s3⁻¹) (EP X d σ Q) X.xe {s3 with heap:=s3.heap.push {cls:=.type "slice",data:=.fields #[.none,.none,.int (-1) tk]}};obtain⟨its,r,i,hz⟩:=f.list j;have a1:=↑r;refine tail_any (ops:=[.ref a,.ref s3⁻¹]) i.isList.typeIs slot_list_getitem.lookup ?_ (by with_unfolding_all rfl);refine wpAny_getItem_list_slice i.isList (Heap.IsSliceOf.new ..) .none .none (.int (-1) tk) (by simp) ?_ (by rw[cL] <;> lia);rw[Ds];refine⟨.ref _,_,f.laid (t':=s3.toks) (o:=.lst xs.reverse) (λb m q=>aZ _ q) (aO _) ?_,rfl,q _<|f.hok.fresh<|aO _⟩;exact⟨by rw[BP];exact hz,_,0,r.reverse,bY _ rfl⟩
def Inv.turnedNew{X:Cx}{a1:List (Addr×Obj)}{σ:St}{H:Hp}{s:Shared}{h':Heap}{t':Nat}{ch:List Addr}{xs:List V}{its:List Value}(I:Inv X a1 σ H s)(i:∀b∈ch,dH X a1 H b)
  (keep:∀b o,b∉ch->s.heap.get? b=some o->h'.get? b=some o) (A:h'.get? s⁻¹=some {cls:=.type "tuple",data:=.seq its.toArray}) (r:Vals xs its) (hz:↑xs<=sizeLine):
  Inv X a1 σ (aA H s⁻¹<|.tup xs) {s with heap:=h',toks:=t'}:=by
 have B:∀b u,H b=some u->b∉ch:=λb u e a=>by
  have:=(i b a).1;rw[this]at e;cases e
 have d:Inv X a1 σ H {s with heap:=h',toks:=t'}:=by
  refine I.step (g':=s.gens) (d':=s.drawn) (ch:=ch) (λb a=>⟨(i b a).2.2.2.1,(i b a).2.1,(i b a).2.2.2.2.1,(i b a).2.2.2.2.2⟩) (λb o _ _ f e _=>keep b o f e) (λb o _ _ f e _=>⟨o.slots,keep b o f e⟩)
   (λ_ _ _ _ n=>n) (λb o f e=>⟨o,keep b o f e⟩) (λ_ _ e=>e) (λ_ _ _ e=>e) (λb ps e=>⟨#[],by rw[e];simp⟩) (λm K=>?_) (λb u eq=>?_) I.bare
  .obtain⟨o,es,ep,J,r⟩:=K;exact⟨o,es,ep,keep _ o (λz=>(i _ z).2.1 rfl) J,r⟩
  .refine(I.hok b u eq).stay (λc v f q=>keep c v ?_ q) (λ_ q=>q) λ_ _ q=>q;rcases f with z | z
   .rw[z];exact B b u eq
   .exact B c _ z
 have j:H s⁻¹=none:=I.hok.fresh<|aO _;have base:=d.base;have x:HOk X.prog X.w (aA H s⁻¹<|.tup xs) h':=by
  intro b z q
  by_cases a:b=s⁻¹
  .subst a;rw[aE]at q;cases q;exact⟨⟨hz,_,A,rfl⟩,its,r,_,A,rfl,_,rfl⟩
  .rw[aI a]at q;refine(d.hok b z q).stay (λc L _ r=>r) (λc r=>?_) λc xs r=>?_
   .rw[aI<|aX r j];exact r
   .rw[aI<|aX r j];exact r
 have old:∀b o',X.s₀.heap.get? b=some o'->b≠s⁻¹:=λb o' e=>bI<|gE (bA e) I.sz;refine⟨d.ok,d.os,d.bare,⟨base.keep,base.slot,λb l q n E=>?_,base.there,λb ys q=>?_,λb l y q=>?_,λb ps q=>?_⟩,d.loc,d.cell,?_,λy c h=>?_,λp C=>?_,x,d.len⟩
 .rw[aI<|old b l q];exact base.free b l q n E
 .have:=base.tups b ys q;rw[aI<|aX this j];exact this
 .have:=base.frzs b l y q;rw[aI<|aX this j];exact this
 .obtain⟨m,this⟩:=base.tbls b ps q;exact⟨m,by rw[aI<|aX this j];exact this⟩
 .rw[aI<|bI I.lt];exact I.free
 .obtain⟨v,q⟩:=I.cell y c h;rw[aI<|bI q.lt];exact I.freeC y c h
 .obtain⟨h1,h2,G⟩:=d.pin p C;have:=bA (I.pin p C).1;exact⟨h1,by rw[aI<|bI this];exact h2,G⟩
def Inv.turnedAll{X:Cx}{h:List (Addr×Obj)}{σ:St}{H:Hp}{s:Shared}{h':Heap}{t':Nat}{ch:List Addr}(I:Inv X h σ H s)(d:∀b∈ch,dH X h H b)
  (keep:∀b o,b∉ch->s.heap.get? b=some o->h'.get? b=some o):Inv X h σ H {s with heap:=h',toks:=t'}:=by
 have a1:∀b u,H b=some u->b∉ch:=λb u e f=>by
  have:=(d b f).1;rw[this]at e;cases e
 refine I.step (g':=s.gens) (d':=s.drawn) (ch:=ch) (λb f=>⟨(d b f).2.2.2.1,(d b f).2.1,(d b f).2.2.2.2.1,(d b f).2.2.2.2.2⟩) (λb o _ _ a e _=>keep b o a e) (λb o _ _ a e _=>⟨o.slots,keep b o a e⟩)
  (λ_ _ _ _ n=>n) (λb o a e=>⟨o,keep b o a e⟩) (λ_ _ e=>e) (λ_ _ _ e=>e) (λb ps e=>⟨#[],by rw[e];simp⟩) (λm j=>?_) (λb u eq=>?_) I.bare
 .obtain⟨o,es,ep,i,r⟩:=j;exact⟨o,es,ep,keep _ o (λz=>(d _ z).2.1 rfl) i,r⟩
 .refine(I.hok b u eq).stay (λc v a q=>keep c v ?_ q) (λ_ q=>q) λ_ _ q=>q;rcases a with z | z
  .rw[z];exact a1 b u eq
  .exact a1 c _ z
def ItB(tp:Bool)(h:Heap)(it l:Addr)(k:Nat):Prop:=match tp with | true=>h.IsTupleIter it l k | false=>h.IsListIter it l k
def SeB(tp:Bool)(h:Heap)(l:Addr)(xs:Array Value):Prop:=match tp with | true=>h.IsTuple l xs | false=>h.IsList l xs
theorem ItB.at(x:ItB tp h it l k)(e:∀o,h.get? it=some o->h'.get? it=some o):ItB tp h' it l k:=by
 cases tp with
 | true=>exact Heap.IsTupleIter.at x e
 | false=>exact Heap.IsListIter.at x e
theorem SeB.at(x:SeB tp h l xs)(e:∀o,h.get? l=some o->h'.get? l=some o):SeB tp h' l xs:=by
 cases tp with
 | true=>obtain⟨o,a,r⟩:=(show h.IsTuple l xs from x);exact⟨o,e _ a,r⟩
 | false=>exact Heap.IsList.at x e
def ItB.obj(x:ItB tp h it l k):∃o,h.get? it=some o/\∀v,o.data≠.cell v:=by
 cases tp with
 | true=>obtain⟨o,e,c,d⟩:=(show h.IsTupleIter it l k from x);exact⟨o,e,λv z=>by rw[d]at z;cases z⟩
 | false=>obtain⟨o,e,c,d⟩:=(show h.IsListIter it l k from x);exact⟨o,e,λv z=>by rw[d]at z;cases z⟩
def CD(a:ItB tp s.heap it l k)(hl:SeB tp s.heap l items)(d:items[k]?=some x)(e:∀h',ItB tp h' it l (k+1)->Heap.SameBut it s.heap h'->Q x {s with heap:=h'}):wpAny (model prog w) A (Builtin.SmallTypes.nextOf<|.ref it) Q E s:=by
 cases tp with
 | false=>exact wpAny_nextOf_list_item a hl d e
 | true=>
  have a:s.heap.IsTupleIter it l k:=a;obtain⟨o,b,f,hd⟩:=id a;obtain⟨j,a1,_,i,h⟩:=(show s.heap.IsTuple l items from hl);unfold Builtin.SmallTypes.nextOf;refine aB<|jD (name:=Str.ofString "__next__") a.typeIs GY<|fO GY a.typeIs F.entry_tuple_iterator_next ?_<|F.args_tuple_iterator_next_1 _;show wpAny _ _ (field (.ref it) 0 >>= _) _ _ s;refine aB<|eZ b hd (x:=.ref l) rfl ?_;show wpAny _ _ (if (Value.ref l == Value.none)=true then _ else _) _ _ s;rw[aK (show ¬((Value.ref l == Value.none)=true) from cA)];show wpAny _ _ (field (.ref it) 1 >>= _) _ _ s;refine aB<|eZ b hd (x:=.int k 0) rfl ?_;show wpAny _ _ (seqItems? (.ref l) >>= _) _ _ s;refine aB<|jF a1 h ?_;simp only[lD,d];refine aB<|wpAny_setField b hd (by simp)<|aD ⟨x,rfl,aD<|e _ (show Heap.IsTupleIter _ it l (k+1) from ?_)<|kT ..⟩;exact⟨_,iI _ b<|Obj.isFreed_of_fields<|Obj.data_mapFields hd _,(Obj.cls_mapFields ..).trans f,by rw[Obj.data_mapFields hd];simp[rawInt]⟩
def JS(d:A.handled=none)(b:ItB tp s.heap it l k)(hl:SeB tp s.heap l items)(h:items[k]?=none)(i:∀h' e,Heap.ExtBut it s.heap h'->(∃o,h'.get? e=some o/\o.cls=.type "StopIteration")->E (.ref e) {s with heap:=h'}):wpAny (model prog w) A (Builtin.SmallTypes.nextOf<|.ref it) Q E s:=by
 cases tp with
 | false=>exact wpAny_nextOf_list_end d b hl h i
 | true=>
  have b:s.heap.IsTupleIter it l k:=b;obtain⟨o,f,n,hd⟩:=id b;obtain⟨q,a1,_,p,j⟩:=(show s.heap.IsTuple l items from hl);unfold Builtin.SmallTypes.nextOf;refine aB<|jD (name:=Str.ofString "__next__") b.typeIs GY<|fO GY b.typeIs F.entry_tuple_iterator_next ?_<|F.args_tuple_iterator_next_1 _;show wpAny _ _ (field (.ref it) 0 >>= _) _ _ s;refine aB<|eZ f hd (x:=.ref l) rfl ?_;show wpAny _ _ (if (Value.ref l == Value.none)=true then _ else _) _ _ s;rw[aK (show ¬((Value.ref l == Value.none)=true) from cA)];show wpAny _ _ (field (.ref it) 1 >>= _) _ _ s;refine aB<|eZ f hd (x:=.int k 0) rfl ?_;show wpAny _ _ (seqItems? (.ref l) >>= _) _ _ s;refine aB<|jF a1 j ?_;simp only[lD,h];refine aB<|fN<|aB<|wpAny_setField f hd (by simp) ?_;show wpAny _ _ (newExc (.type "StopIteration") [] >>= _) _ _ _;refine aB ?_;simp only[newExc,newTuple];refine aB (fY ?_<|by size_fits);refine aB (m:=firstArgMember _ _)<|sO (a:=Value.none) (by first | rfl | (simp only[firstArgMember];rfl)) ?_;refine fY ?_ (by size_fits);simp only[raiseNew];refine aB<|wpAny_handled ?_
  first | rw[show A.in1.handled=none from d] | rw[d]
  refine aB<|aD<|wpAny_throw ?_;exact i _ _ (((kT ..).extBut.push _).push _) ⟨_,bY _ rfl,rfl⟩
def OR{p q:Bool}{z TI TO h f n v:Addr}{k:Nat}{xs ys:Array Value}{x y a b:Value}{Q:Option Value->Shared->Prop}(D:ZipApart z TI TO h f n v)
  (hz:IsZip s.heap z TI TO .none) (ah:IsPair s.heap TI (.ref h) (.ref f)) (aj:IsPair s.heap TO a b)
  (h1:ItB p s.heap h n k) (h2:ItB q s.heap f v k) (ai:SeB p s.heap n xs) (aq:SeB q s.heap v ys) (hx:xs[k]?=some x) (hy:ys[k]?=some y)
  (Z:∀h',IsZip h' z TI TO (rawInt s⁻¹)->IsPair h' TO x y->ItB p h' h n (k+1)->ItB q h' f v (k+1)->IsPair h' s⁻¹ x y->
   (∀c o,c≠z->c≠TO->c≠h->c≠f->s.heap.get? c=some o->h'.get? c=some o)->Q (some<|.ref s⁻¹) {s with heap:=h'}):
  wpAny (model prog w) A (pyNext<|.ref z) Q E s:=by
 have P:s.TypeIs (.ref z) "zip":=⟨_,hz,rfl⟩;unfold pyNext;refine aB<|kY<|jD (name:=Str.ofString "__next__") P oJ<|fO oJ P F.entry_zip_next ?_<|EM _;show wpAny _ _ (field (.ref z) 2 >>= _) _ _ _;refine aB<|eZ hz rfl (x:=.bool false) rfl ?_;show wpAny _ _ (field (.ref z) 3 >>= _) _ _ _;refine aB<|eZ hz rfl (x:=.ref TI) rfl<|aB<|jF ah rfl ?_;show wpAny _ _ (Builtin.SmallTypes.ownedTupleIsFree (.ref z) >>= _) _ _ _;refine aB ?_;unfold Builtin.SmallTypes.ownedTupleIsFree;refine aB<|eZ hz rfl (x:=.none) rfl<|aD ?_;simp only[if_true];refine aB<|fN<|aB<|eZ hz rfl (x:=.ref TO) rfl<|aB<|iM hz (by simp) λh₁ L i=>?_;replace L:IsZip h₁ z TI TO .ellipsis:=L;refine aB ?_;simp only[List.zipIdx_cons,List.zipIdx_nil,wR,List.forIn_nil];refine aB<|aB<|wpAny_onRaise ?_;show wpAny _ _ (Builtin.SmallTypes.nextOf (.ref h) >>= _) _ _ _;refine aB<|CD (h1.at λo e=>i.extBut _ _ D.i1z e) (ai.at λo e=>i.extBut _ _ D.l1z e) hx λh₂ al l=>aD ?_;have Y:IsPair h₂ TO a b:=l.extBut _ _ D.TOi1<|i.extBut _ _ D.TOz aj;refine aB<|jF Y rfl<|aB<|wpAny_updateSeq_pair Y λh₃ a1 m=>?_;replace a1:IsPair h₃ TO x b:=a1;refine aB<|wpAny_letGo<|aD ?_;refine aB<|aB<|wpAny_onRaise ?_;show wpAny _ _ (Builtin.SmallTypes.nextOf (.ref f) >>= _) _ _ _;refine aB<|CD (h2.at λo e=>m.extBut _ _ D.TOi2.symm<|l.extBut _ _ D.i12.symm<|i.extBut _ _ D.i2z e) (aq.at λo e=>m.extBut _ _ D.l2TO<|l.extBut _ _ D.l2i1<|i.extBut _ _ D.l2z e) hy λh₄ ao u=>aD ?_
 have O:IsPair h₄ TO x b:=u.extBut _ _ D.TOi2 a1;refine aB<|jF O rfl<|aB<|wpAny_updateSeq_pair O λd B r=>?_;replace B:IsPair d TO x y:=B;refine aB<|wpAny_letGo<|aD<|aD ?_;refine aB<|jF B rfl<|aB<|wpAny_newTuple ?_;have hsz:d.objs.size=s⁻¹:=by rw[r.1,u.1,m.1,l.1,i.1]
 have N:IsZip d z TI TO .ellipsis:=r.extBut _ _ D.TOz.symm<|u.extBut _ _ D.i2z.symm<|m.extBut _ _ D.TOz.symm<|l.extBut _ _ D.i1z.symm L;have ap:∀c o,c≠z->c≠TO->c≠h->c≠f->s.heap.get? c=some o->d.get? c=some o:=λc o j I M K e=>
  r.extBut _ _ I (u.extBut _ _ K<|m.extBut _ _ I<|l.extBut _ _ M<|i.extBut _ _ j e)
 have am:ItB p d h n (k+1):=al.at λo e=>r.extBut _ _ D.TOi1.symm<|u.extBut _ _ D.i12<|m.extBut _ _ D.TOi1.symm e;have an:ItB q d f v (k+1):=ao.at λo e=>r.extBut _ _ D.TOi2.symm e;have T:z<d.objs.size:=bA N;show wpAny _ _ (Builtin.SmallTypes.ownedTupleHandOut (.ref z) (.ref d.objs.size) >>= _) _ _ _;refine aB ?_;unfold Builtin.SmallTypes.ownedTupleHandOut;have ak:IsZip (d.push {cls:=.type "tuple",data:=.seq #[x,y]}) z TI TO .ellipsis:=aZ _ N;refine aB<|iM ak (by simp) λh₇ J X=>?_;replace J:IsZip h₇ z TI TO (rawInt d.objs.size):=J;refine iM J (by simp) λC G W=>?_
 replace G:IsZip C z TI TO (rawInt d.objs.size):=G;have H:∀c o,c≠z->d.get? c=some o->C.get? c=some o:=λc o j e=>W.extBut _ _ j<|X.extBut _ _ j<|aZ _ e;have ad:IsPair C d.objs.size x y:=W.extBut _ _ (cQ T)<|X.extBut _ _ (cQ T)<|bY _ rfl;rw[hsz]at G ad;refine aD ⟨_,rfl,?_⟩;show wpAny _ _ (pure<|some<|Value.ref d.objs.size) _ _ _;refine aD ?_;rw[hsz];exact Z C G (H _ _ D.TOz B) (am.at λo e=>H _ o D.i1z e) (an.at λo e=>H _ o D.i2z e) ad λc o j I M K e=>H c o j<|ap c o j I M K e
def RT{p q:Bool}{z TI TO l j C J:Addr}{k:Nat}{xs ys:Array Value}{a b:Value}{Q:Option Value->Shared->Prop}(O:A.handled=none)(D:ZipApart z TI TO l j C J)
  (hz:IsZip s.heap z TI TO .none) (af:IsPair s.heap TI (.ref l) (.ref j)) (ah:IsPair s.heap TO a b)
  (h1:ItB p s.heap l C k) (h2:ItB q s.heap j J k) (ag:SeB p s.heap C xs) (aj:SeB q s.heap J ys) (a8:xs[k]?=none\/ys[k]?=none)
  (Z:∀h',(∀c o,c≠z->c≠TO->c≠l->c≠j->s.heap.get? c=some o->h'.get? c=some o)->Q none {s with heap:=h'}):wpAny (model prog w) A (pyNext<|.ref z) Q E s:=by
 have M:s.TypeIs (.ref z) "zip":=⟨_,hz,rfl⟩;unfold pyNext;have stop:∀(h':Heap)(e:Addr),(∀c o,c≠z->c≠TO->c≠l->c≠j->s.heap.get? c=some o->h'.get? c=some o)->(∃o,h'.get? e=some o/\o.cls=.type "StopIteration")->
   wpAny (model prog w) A (do if (<-isInstance (.ref e) (.type "StopIteration"))=true then pure none else throw (.ref e)) Q E {s with heap:=h'}:=λh' e hk r=>by
  obtain⟨o,ho,hc⟩:=r;exact aB<|gZ (T:="StopIteration") (b:=true) ⟨o,ho,hc⟩ vN<|aD<|Z _ hk
 refine aB<|kY<|jD (name:=Str.ofString "__next__") M oJ<|fO oJ M F.entry_zip_next ?_<|EM _;show wpAny _ _ (field (.ref z) 2 >>= _) _ _ _;refine aB<|eZ hz rfl (x:=.bool false) rfl ?_;show wpAny _ _ (field (.ref z) 3 >>= _) _ _ _;refine aB<|eZ hz rfl (x:=.ref TI) rfl<|aB<|jF af rfl ?_;show wpAny _ _ (Builtin.SmallTypes.ownedTupleIsFree (.ref z) >>= _) _ _ _;refine aB ?_;unfold Builtin.SmallTypes.ownedTupleIsFree;refine aB<|eZ hz rfl (x:=.none) rfl<|aD ?_;simp only[if_true];refine aB<|fN<|aB<|eZ hz rfl (x:=.ref TO) rfl<|aB<|iM hz (by simp) λB u i=>?_;replace u:IsZip B z TI TO .ellipsis:=u;refine aB ?_;simp only[List.zipIdx_cons,List.zipIdx_nil,wR,List.forIn_nil];refine aB<|aB<|wpAny_onRaise ?_;show wpAny _ _ (Builtin.SmallTypes.nextOf (.ref l) >>= _) _ _ _;have W:=h1.at (h':=B) λo e=>i.extBut _ _ D.i1z e;have P:=ag.at (h':=B) λo e=>i.extBut _ _ D.l1z e;cases hx:xs[k]? with
 | none=>
  refine aB<|JS O W P hx λv e d r=>?_;obtain⟨H,a1,m⟩:=r;have L:IsZip v z TI TO .ellipsis:=d _ _ D.i1z.symm u;have G:e≠z:=λx=>by subst x;rw[L]at a1;cases a1;simp at m
  refine iM L (by simp) λN _ f=>?_
  exact stop N e (λc o n _ I _ x=>f.extBut _ _ n<|d _ _ I<|i.extBut _ _ n x) ⟨H,f.extBut _ _ G a1,m⟩
 | some x=>
  have hy:ys[k]?=none:=by rcases a8 with h | h;rw[hx]at h;cases h;exact h
  refine aB<|CD W P hx λv ak d=>aD ?_;have X:IsPair v TO a b:=d.extBut _ _ D.TOi1<|i.extBut _ _ D.TOz ah;refine aB<|jF X rfl<|aB<|wpAny_updateSeq_pair X λN ai f=>?_;refine aB<|wpAny_letGo<|aD ?_;refine aB<|aB<|wpAny_onRaise ?_;show wpAny _ _ (Builtin.SmallTypes.nextOf (.ref j) >>= _) _ _ _;refine aB<|JS O (h2.at λo e=>f.extBut _ _ D.TOi2.symm<|d.extBut _ _ D.i12.symm<|i.extBut _ _ D.i2z e) (aj.at λo e=>f.extBut _ _ D.l2TO<|d.extBut _ _ D.l2i1<|i.extBut _ _ D.l2z e) hy λh₄ e Y r=>?_
  obtain⟨H,a1,m⟩:=r;have ad:IsZip h₄ z TI TO .ellipsis:=Y _ _ D.i2z.symm<|f.extBut _ _ D.TOz.symm<|d.extBut _ _ D.i1z.symm u;have G:e≠z:=λx=>by subst x;rw[ad]at a1;cases a1;simp at m
  refine iM ad (by simp) λh₅ _ K=>?_
  exact stop h₅ e (λc o n c2 I c4 x=>K.extBut _ _ n<|Y _ _ c4<|f.extBut _ _ c2<|d.extBut _ _ I<|i.extBut _ _ n x) ⟨H,K.extBut _ _ G a1,m⟩
def lO(K:Fg)(tp:Bool)(H:Hp)(a:Addr)(xs:List V):Prop:=match tp with | true=>SqT K H a xs | false=>SqL K H a xs
def IG(K:Fg)(p q:Bool)(a b:Addr):It:=
 ⟨λi H=>∃xs ys x y,lO K p H a xs/\lO K q H b ys/\xs[i]?=some x/\ys[i]?=some y, λi H v H'=>∃T x y,H T=none/\v=.ref T/\H'=aA H T (.tup [x,y])/\(∀xs,lO K p H a xs->xs[i]?=some x)/\∀ys,lO K q H b ys->ys[i]?=some y, λi H=>∃xs ys,lO K p H a xs/\lO K q H b ys/\(↑xs<=i\/↑ys<=i)⟩
def Inv.seqB(I:Inv X pins σ H s)(h:lO X.K tp H a xs):∃its:List Value,Vals xs its/\SeB tp s.heap a its.toArray/\↑xs<=sizeLine:=by
 cases tp with
 | true=>obtain⟨its,r,p,hz⟩:=I.tuple h;exact⟨its,r,p,hz⟩
 | false=>obtain⟨its,r,p,hz⟩:=I.list h;exact⟨its,r,p.isList,hz⟩
def Inv.seqB_inj(I:Inv X pins σ H s)(h:lO X.K tp H a xs)(h':lO X.K tp H a ys):xs=ys:=by
 cases tp with
 | true=>exact I.tuple_inj h h'
 | false=>exact I.list_inj h h'
def Bh{P:Program}{w:World}{K:Fg}{es:List Expr}{k:Nat}{pos:Pos}{p q:Bool}{z TI TO l j B L:Addr}(D:ZipApart z TI TO l j B L):
  eX P w K (.Tuple es k pos) (IG K p q B L) [z,TI,TO,l,j] z (λi h=>IsZip h z TI TO .none/\IsPair h TI (.ref l) (.ref j)/\(∃a b,IsPair h TO a b)/\ItB p h l B i/\ItB q h j L i) where
 mem:=by simp
 obj:=λi h st b d=>by
  obtain⟨hz,a1,⟨a,c,f⟩,h1,h2⟩:=st;simp only[vh3,aT,dJ]at d;rcases d with rfl | rfl | rfl | rfl | rfl
  .exact⟨_,hz,λv e=>by
    have n:Data.fields _=Data.cell v:=e;cases n⟩
  .exact⟨_,a1,λv e=>by
    have n:Data.seq _ _=Data.cell v:=e;cases n⟩
  .exact⟨_,f,λv e=>by
    have n:Data.seq _ _=Data.cell v:=e;cases n⟩
  .exact h1.obj
  .exact h2.obj
 keep:=λi h h' st r=>by
  obtain⟨hz,a1,⟨a,c,f⟩,h1,h2⟩:=st;exact⟨r z (by simp) _ hz,r TI (by simp) _ a1,⟨a,c,r TO (by simp) _ f⟩,h1.at λo e=>r l (by simp) o e,h2.at λo e=>r j (by simp) o e⟩
 item:=by
  intro X T Y O hc i a3 s σ H E I u st W;subst T Y O;obtain⟨xs,ys,x,y,A,J,C,hy⟩:=W;obtain⟨hz,a1,⟨a,c,f⟩,h1,h2⟩:=st;obtain⟨a6,ad,M,_⟩:=I.seqB A;obtain⟨aa,N,p2,_⟩:=I.seqB J;obtain⟨u1,ai,al⟩:=ad.get C;obtain⟨u2,af,ah⟩:=N.get hy;have lt:∀{c o},s.heap.get? c=some o->s⁻¹≠c:=λe=>cQ<|bA e;refine OR D hz a1 f h1 h2 M p2 (x:=u1) (y:=u2) (by simpa using ai) (by simpa using af) λh' aj a9 ae ak hT G=>?_
  refine⟨_,rfl,wpAny_letOwnedTupleGo_zip (s:={s with heap:=h'}) aj λa7 ab m=>?_⟩;have ag:a7.get? s⁻¹=some {cls:=.type "tuple",data:=.seq [u1,u2].toArray}:=m.extBut _ _ (lt hz) hT;have keep:∀b o,b∉[z,TI,TO,l,j]->s.heap.get? b=some o->a7.get? b=some o:=λb o d e=>
   m.extBut _ _ (λx=>d<|by simp[x]) (G b o (λx=>d<|by simp[x]) (λx=>d<|by simp[x]) (λx=>d<|by simp[x]) (λx=>d<|by simp[x]) e)
  have I1:Inv X a3 σ (aA H s⁻¹<|.tup [x,y]) {s with heap:=a7}:=I.turnedNew (t':=s.toks) u keep ag (.cons al<|.cons ah .nil) (by show 2<=sizeLine;decide);refine⟨.ref s⁻¹,_,I1,rfl,⟨_,x,y,I.hok.fresh<|aO _,rfl,rfl,λam Z=>by rw[I.seqB_inj Z A];exact C,λam Z=>by rw[I.seqB_inj Z J];exact hy⟩,
   ⟨ab,m.extBut _ _ D.TIz<|G _ _ D.TIz D.TITO D.TIi1 D.TIi2 a1,⟨_,_,m.extBut _ _ D.TOz a9⟩,ae.at λo e=>m.extBut _ _ D.i1z e,ak.at λo e=>m.extBut _ _ D.i2z e⟩,λb d=>?_⟩
  obtain⟨o,e,_⟩:∃o,s.heap.get? b=some o/\True:=by
   simp only[vh3,aT,dJ]at d;rcases d with rfl | rfl | rfl | rfl | rfl
   .exact⟨_,hz,trivial⟩
   .exact⟨_,a1,trivial⟩
   .exact⟨_,f,trivial⟩
   .obtain⟨o,e,_⟩:=h1.obj;exact⟨o,e,trivial⟩
   .obtain⟨o,e,_⟩:=h2.obj;exact⟨o,e,trivial⟩
  rw[aI<|cW<|lt e];exact(u b d).1
 done:=by
  intro X T Y O hc i a3 s σ H E I u st W;subst T Y O;obtain⟨xs,ys,A,J,C⟩:=W;obtain⟨hz,a1,⟨a,c,f⟩,h1,h2⟩:=st;obtain⟨a6,ad,M,_⟩:=I.seqB A;obtain⟨aa,N,p2,_⟩:=I.seqB J;have B:=↑ad;have L:=N.length;refine RT (I.ok.hd hc) D hz a1 f h1 h2 M p2 ?_ λh' G=>⟨rfl,I.turnedAll (t':=s.toks) u λb o d e=>G b o (λx=>d<|by simp[x]) (λx=>d<|by simp[x]) (λx=>d<|by simp[x]) (λx=>d<|by simp[x]) e⟩
  rcases C with h | h
  .exact .inl (DQ<|by simp;lia)
  .exact .inr (DQ<|by simp;lia)
 self:=λ_ _ _ _ _ st h=>wpAny_pyIter_zip st.1 h
abbrev BD(h:Heap)(l1:Addr):Heap:=h.push {cls:=.type "tuple_iterator",data:=.fields #[.ref l1,.int 0 0]}
abbrev HJ(h:Heap)(l1 l2:Addr):Heap:=(BD h l1).push {cls:=.type "tuple_iterator",data:=.fields #[.ref l2,.int 0 0]}
abbrev GF(h:Heap)(l1 l2:Addr):Heap:=(HJ h l1 l2).push {cls:=.type "tuple",data:=.seq #[.ref h.objs.size,.ref (BD h l1).objs.size]}
abbrev EL(h:Heap)(l1 l2:Addr):Heap:=(GF h l1 l2).push {cls:=.type "tuple",data:=.seq #[.none,.none]}
abbrev tR(h:Heap)(l1 l2:Addr):Heap:=(EL h l1 l2).push {cls:=.type "zip",data:=.fields #[.none,.bool false,.bool false,.ref (HJ h l1 l2).objs.size,.ref (GF h l1 l2).objs.size]}
def XR(a b:Addr)(xs ys:Array Value):
  Meets (Builtin.«zip.__new__» ⟨[.type "zip",.ref a,.ref b],[]⟩) (λ_ R s=>s.heap.IsTuple a xs/\s.heap.IsTuple b ys/\R (.ok<|.ret<|.ref (EL s.heap a b).objs.size) {s with heap:=tR s.heap a b}):=
 .of_wp λprog w A R s h=>by
  obtain⟨e,g,d,tk,os⟩:=s;obtain⟨a1,i,h⟩:=h;have m:=sub_zip;have l:Heap.IsTuple (Shared.heap ⟨e,g,d,tk,os⟩) a xs:=a1;have j:Heap.IsTuple (Shared.heap ⟨e.push {cls:=.type "tuple_iterator",data:=.fields #[.ref a,.int 0 0]},g,d,tk,os⟩) b ys:=by
   obtain⟨o,f,r⟩:=i;exact⟨o,aZ _ f,r⟩
  wp_walk using yL l,yL j
  exact⟨_,rfl,h⟩
def WU(a1:s.heap.IsTuple l1 xs)(p:s.heap.IsTuple l2 ys) (h:∀h',IsZip h' (s⁻¹+4) (s⁻¹+2) (s⁻¹+3) .none->IsPair h' (s⁻¹+2) (.ref s⁻¹) (.ref<|s⁻¹+1)-> IsPair h' (s⁻¹+3) .none .none->h'.IsTupleIter s⁻¹ l1 0->h'.IsTupleIter (s⁻¹+1) l2 0->
   (∀c o,s.heap.get? c=some o->h'.get? c=some o)->Q (.ref<|s⁻¹+4) {s with heap:=h'}):
  wpAny (model prog w) A (call (.type "zip") [.ref l1,.ref l2]) Q E s:=by
 refine callType_new F.called_zip (by decide) (F.typeCall_zip_2 _ _) (F.newCall_zip_2 _ _) (λobj=>F.args_object_init_3 obj _ _) F.entry_zip_new (XR l1 l2 xs ys) ⟨a1,p,?_⟩;have b:(BD s.heap l1).objs.size=s⁻¹+1:=jU ..;have f:(HJ s.heap l1 l2).objs.size=s⁻¹+2:=by rw[jU,b]
 have a:(GF s.heap l1 l2).objs.size=s⁻¹+3:=by rw[jU,f]
 have l:(EL s.heap l1 l2).objs.size=s⁻¹+4:=by rw[jU,a]
 have j:∀c o,(BD s.heap l1).get? c=some o->(tR s.heap l1 l2).get? c=some o:=λc o e=>aZ _<|aZ _<|aZ _<|aZ _ e;have d:(tR s.heap l1 l2).get? (EL s.heap l1 l2).objs.size=some _:=bY _ rfl;have i:(tR s.heap l1 l2).get? (GF s.heap l1 l2).objs.size=some _:=aZ _<|bY _ rfl;have n:(tR s.heap l1 l2).get? (HJ s.heap l1 l2).objs.size=some _:=aZ _<|aZ _<|bY _ rfl;have m:(tR s.heap l1 l2).get? (BD s.heap l1).objs.size=some _:=aZ _<|aZ _<|aZ _<|bY _ rfl;have q:(tR s.heap l1 l2).get? s⁻¹=some _:=j _ _<|bY _ rfl;show _/\_;rw[f,a,l]at d;rw[b,f]at n;rw[a]at i;rw[b]at m;rw[l];exact⟨⟨_,d,rfl⟩,h _ d n i ⟨_,q,rfl,rfl⟩ ⟨_,m,rfl,rfl⟩ λc o x=>j c o<|aZ _ x⟩
def JH(K:Fg)(p:Bool)(ta:TA):TI:=λσ H R=>ta σ H λvs H1=>∃a b xs ys,vs=[.ref a,.ref b]/\lO K p H1 a xs/\lO K p H1 b ys/\R (IG K p p a b) H1
theorem boot_zip:bootBuiltins "zip"=some (.type "zip"):=by first | exact PySem.boot_zip | rfl'
def tZ{X:Cx}{p:Bool}{es:List Expr}{k:Nat}{B:Pos}{a b:Expr}{ta:TA}{J pos:Pos}(L:Gl X "zip")(P:X.mg "zip"=none)(ha:PA X [a,b] ta)
  (M:starEach [a,b] X.env=[(false,eval a X.env),(false,eval b X.env)]:=by rfl) (v:starEach [b] X.env=[(false,eval b X.env)]:=by rfl):
  PI X (.Tuple es k B) (.Call (.Name "zip" J) [a,b] [] pos) (JH X.K p ta):=by
 intro a1 s σ H R I h;refine Call_ (lS I L P boot_zip<|oN (aS (ha pos a1 s σ H _ I h) λZ d ⟨vs,H1,m,O,T⟩=>?_) (by rw[M,v])<|by rw[v];rfl);obtain⟨x,G,xs,ys,e,N,W,q⟩:=T;subst e;cases O with
 | cons r rr=>
  cases rr with
  | cons r' rr=>
   cases rr;cases r;cases r';obtain⟨a8,ad,n,_⟩:=m.seqB N;obtain⟨aa,Y,p2,_⟩:=m.seqB W;have z:∀{tp:Bool}{l:Addr}{its:Array Value},SeB tp d.heap l its->l<d⁻¹:=λ{tp l its} h=>by
    cases tp with
    | true=>obtain⟨o,e,_⟩:=(show d.heap.IsTuple l its from h);exact bA e
    | false=>obtain⟨o,e,_⟩:=(show d.heap.IsList l its from h);exact bA e
   have D:ZipApart (d⁻¹+4) (d⁻¹+2) (d⁻¹+3) d⁻¹ (d⁻¹+1) x G:=zipApart_new (z n)<|z p2;have u:∀h',IsZip h' (d⁻¹+4) (d⁻¹+2) (d⁻¹+3) .none->IsPair h' (d⁻¹+2) (.ref d⁻¹) (.ref<|d⁻¹+1)->
     IsPair h' (d⁻¹+3) .none .none->ItB p h' d⁻¹ x 0->ItB p h' (d⁻¹+1) G 0->(∀c o,d.heap.get? c=some o->h'.get? c=some o)->
     wpAny (model X.prog X.w) X.A (pyIter<|.ref<|d⁻¹+4) (LE X a1 σ (.Tuple es k B) R) X.xe {d with heap:=h'}:=λh' hz i f h1 h2 j=>by
    refine wpAny_pyIter_zip (s:={d with heap:=h'}) hz ?_;refine⟨_,_,_,_,H1,rfl,m.kept (t':=d.toks) j,Bh D,⟨hz,i,⟨_,_,f⟩,h1,h2⟩,λb C=>?_,q⟩;have E:d⁻¹<=b:=by
     simp only[vh3,aT,dJ]at C;rcases C with rfl | rfl | rfl | rfl | rfl
     .exact uO _ _
     .exact uO _ _
     .exact uO _ _
     .exact aO _
     .exact uO _ _
    exact m.fpOk E<|m.hok.fresh E
   cases p with
   | true=>exact WU n p2 λh' hz i f h1 h2 j=>u h' hz i f h1 h2 j
   | false=>exact call_zip_2 n p2 λh' hz i f h1 h2 _ j=>u h' hz i f h1 h2 j
def Gc:typeLookup (.type "list") "keys"=pure none:=by rw[lU,mO];kernel_rfl
def WW(l:s.heap.get? a=some o)(j:o.cls=.type "list")(m:o.data=.seq xs k)(hd:o.dict=none)(p:A.handled=none)(h:∀h' tk,(∀b ob,s.heap.get? b=some ob->h'.get? b=some ob)->Q none {s with heap:=h',toks:=tk}):
  wpAny (model prog w) A (getAttr? (.ref a) "keys") Q E s:=by
 obtain⟨c,r,B,q⟩:=o;simp only at j m hd;subst j m hd;obtain⟨n,g,d,tk,os⟩:=s;have f:∀a1,(⟨n,g,d,a1,os⟩:Shared).TypeIs (.ref a) "list":=λ_=>⟨_,l,rfl⟩;have z:=sub_AttributeError;have x:=uh9.lookup;have v:=uh9.bind<|.ref a;have u:=am_list_getattr_none;unfold getAttr? getAttrBy? getAttrBy
 repeat (any_goals (first | assumption | exact f _ | ((with_reducible show wpAny _ _ (call (Value.builtin "list.__getattribute__") _ _) _ _ _);refine call_meets uh9 (f _) am_entry_list_getattribute (F.args_list_getattribute_2 _ _) (meets_getattribute_miss_list a xs k q "keys" _ Gc (by decide)<|by size_fits) ⟨l,p,λh' a1 e i=>?_⟩) | wp_step))
 obtain⟨t',G,C⟩:=i.there;show wpAny _ _ (getattributeRaised _ _ _ _ _ _ _) _ _ _;unfold getattributeRaised
 repeat (any_goals (first | assumption | wp_step))
 exact h h' a1 i.of.keeps
def FF:plainId "dict.update.loop"=true:=by rfl'
def RG:entryFor table "dict.update.loop"=some Builtin.«dict.update.loop»:=entryFor_of_fast (by kernel_rfl)
def YA(h:Heap)(its:List Value)(kvs:List (aL×V)):Prop:=↑its=↑kvs/\∀(j:Nat) p,kvs[j]?=some p->∃T kv vv,its[j]?=some (.ref T)/\h.IsTuple T #[kv,vv]/\jS p.1 kv=true/\RelV p.2 vv
def RN{kvs:List (aL×V)}{j:Nat}{p:aL×V}(h:kvs[j]?=some p):dX [] (kvs.take<|j+1)=aU (dX []<|kvs.take j) p.1 p.2:=by
 unfold dX;rw[dG,h,List.foldl_append];rfl
def YE{prog:Program}{w:World}{A:Around}{R:Result->Shared->Prop}{D it l:Addr}{its:List Value}{kvs:List (aL×V)}(hh:A.handled=none)(Y:l≠D)(O:l≠it)(u:D≠it)(hz:↑kvs<sizeLine):
  ∀(n j:Nat)(s:Shared)(a:List (aL×Value)),↑kvs-j=n->j<=↑kvs->s.heap.IsListIter it l j->s.heap.IsList l its.toArray->YA s.heap its kvs->(∀T,Value.ref T∈its->T≠D/\T≠it)->
  s.heap.DictOf (cE prog w) D a->KV (dX []<|kvs.take j) a->
  (∀h' tk i,h'.DictOf (cE prog w) D i->KV (dX [] kvs) i->(∀b o,b≠D->b≠it->s.heap.get? b=some o->h'.get? b=some o)->R (.ok<|.ret .none) {s with heap:=h',toks:=tk})->
  codeAny (model prog w) A (.builtin "dict.update.loop" ⟨[.ref D,.ref it,rawInt j,.none],[]⟩) R s:=by
 intro n
 induction n with
 | zero=>
  intro j s a X hj G hl d h hd f E;have e:j=↑kvs:=by lia
  subst e;refine jP RG ?_;rw[kI FF _];show wpAny _ A.in1 (pyNext (.ref it) >>= _) _ _ s;refine aB<|wpAny_pyNext_list_end (A:=A.in1) hh G hl (by simp[d.1]) λh' I=>?_;show wpAny _ A.in1 (Builtin.Dict.addKeywords D [] >>= _) _ _ _;refine aB<|aD<|aD<|E h' s.toks a ?_ ?_ λb o h1 h2 e=>I b o h2 e
  .exact hd.at λo e=>I D o u e
  .rw[dD<|aO _]at f;exact f
 | succ n ih=>
  intro j s a X hj G hl d h hd f E;have m:j<↑kvs:=by lia
  obtain⟨T,z,q,hi,ht,a5,rv⟩:=d.2 j kvs[j]<|bH m;obtain⟨an,af⟩:=h T<|cX hi;refine jP RG ?_;rw[kI FF _];show wpAny _ A.in1 (pyNext (.ref it) >>= _) _ _ s;refine aB<|wpAny_pyNext_list_item (A:=A.in1) G hl (x:=.ref T) (by simpa using hi) λh' W B=>?_;have C:h'.IsTuple T #[z,q]:=by obtain⟨o,e,r⟩:=ht;exact⟨o,B.extBut _ _ af e,r⟩
  have al:h'.DictOf (cE prog w) D a:=hd.at λo e=>B.extBut _ _ u e;obtain⟨ot,M,ec,nt,ed⟩:=id C;have Z:↑a<=sizeLine:=by
   have h1:=↑f;have h2:=wG (kvs.take j) [];rw[dI]at h2;simp at h2;lia
  show wpAny _ A.in1 (holding [.ref T] _ >>= _) _ _ {s with heap:=h'};refine aB<|dP<|aB<|wpAny_tryCatch ?_;unfold Builtin.Dict.pairItems;refine aB<|nB (T:="tuple") ⟨ot,M,ec⟩ ?_;rw[aR<|by decide];refine aB<|jF M ed<|aD ?_;show wpAny _ A.in1 (holding [z,q]<|dictSet D z q) _ _ _;refine dP<|wpAny_dictSet_pairs (knd:=cE prog w) (k:=kvs[j].1) (hsz:=Z) a5 al λh2 am K=>?_;refine aD ⟨lX FF _,?_⟩;have H:∀b o,b≠D->b≠it->s.heap.get? b=some o->h2.get? b=some o:=λb o h1 v e=>K.extBut _ _ h1<|B.extBut _ _ v e;refine ih (j+1) {s with heap:=h2,toks:=s.toks+1} _ (by lia) m (W.at λo e=>K.extBut _ _ (cW u) e) (hl.at λo e=>H l o Y O e) ⟨d.1,λj' p ae=>?_⟩ h am ?_ λv tk i ah ad kk=>?_
  .obtain⟨J,P,ak,N,C,a1,ai⟩:=d.2 j' p ae;obtain⟨q1,q2⟩:=h J<|cX N;obtain⟨o,e,r⟩:=C;exact⟨J,P,ak,N,⟨o,H _ _ q1 q2 e,r⟩,a1,ai⟩
  .rw[RN<|bH m];exact f.put _ rv
  .exact E v tk i ah ad λb o h1 L e=>kk b o h1 L<|H b o h1 L e
def sC(K:Fg):List V->Hp->VK->Prop:=λxs H Q=>∃(p:Addr)(ts:List Addr)(kvs:List (aL×V)),xs=[.ref p]/\SqL K H p (ts.map V.ref)/\↑ts=↑kvs/\↑kvs<sizeLine/\
 (∀(j:Nat) t kv,ts[j]?=some t->kvs[j]?=some kv->SqT K H t [kV kv.1,kv.2])/\∀l,H l=none->Q (.ref l) (aA H l<|.dK<|dX [] kvs)
def IV(L:X.calm=true):CallR X (.type "dict") (sC X.K):=by
 intro aj s σ H xs us Q I r h;obtain⟨p,ts,kvs,rfl,hq,al,ag,a4,q⟩:=h;obtain⟨u,rfl,rx⟩:=gY r;cases rx;obtain⟨its,W,Y,hz⟩:=I.list hq;obtain⟨O,nl,E,G,a6,ap⟩:=id Y;have a5:p<s⁻¹:=bA E;have as:↑its=↑ts:=by have:=W.length;rw[aG]at this;exact this.symm
 have ad:∀(j:Nat) t,ts[j]?=some t->its[j]?=some (.ref t):=λj t e=>by
  obtain⟨u,hu,ru⟩:=W.get (i:=j) (x:=V.ref t) (by rw[bD,e];rfl);cases ru;exact hu
 refine callType_codes (Q₁:=λobj M=>obj=.ref s⁻¹/\M={s with heap:=s.heap.push {cls:=.type "dict",data:=.dict #[]}}) F.kt_called_dict (F.kt_typeCall_dict_1 _) F.entry_dict_init (kt_code_dict_new _ ⟨rfl,rfl⟩) ?_;rintro obj M ⟨rfl,rfl⟩;have n:(s.heap.push {cls:=.type "dict",data:=.dict #[]}).DictOf (cE X.prog X.w) s⁻¹ []:=Heap.DictOf.new s.heap;exists n.typeIs,F.args_dict_init_2 _ _;unfold Builtin.«dict.__init__»;refine aB ?_;unfold Builtin.Dict.selfAndRest;refine aB<|HP n.typeIs ?_;show wpAny _ _ (pure (s⁻¹,[Value.ref p])) _ _ _;refine aD ?_;show wpAny _ _ (Builtin.Dict.updateFrom "dict.__init__" s⁻¹ (.ref p) [] .none) _ _ _;unfold Builtin.Dict.updateFrom;have Z:(s.heap.push {cls:=.type "dict",data:=.dict #[]}).get? p=some O:=aZ _ E;refine aB<|nB (T:="list") ⟨O,Z,G⟩ ?_;rw[aR<|by decide];refine aB<|WW (A:=X.A.in1.in1) Z G ap a6 (I.ok.hd L) λh2 ah B=>?_;show wpAny _ _ (rule _ >>= _) _ _ _;refine aB<|fN ?_;have z:∀b o,s.heap.get? b=some o->h2.get? b=some o:=λb o e=>B b o<|aZ _ e;have J:h2.IsList p its.toArray:=Y.isList.at λo e=>z p o e;have v:h2.DictOf (cE X.prog X.w) s⁻¹ []:=n.at λo e=>B _ o e;have m:s⁻¹<h2.objs.size:=by obtain⟨_,_,_,e,_⟩:=v;exact bA e
 refine aB<|zA (s:={s with heap:=h2,toks:=ah}) J<|aD ⟨lX FF _,?_⟩;have a1:∀b o,s.heap.get? b=some o->(h2.push {cls:=.type "list_iterator",data:=.fields #[.ref p,.int 0 0]}).get? b=some o:=λb o e=>aZ _<|z b o e;have N:∀(j:Nat) t,ts[j]?=some t->t<s⁻¹/\∃l kvv vv,kvs[j]?=some l/\s.heap.IsTuple t #[kvv,vv]/\jS l.1 kvv=true/\RelV l.2 vv:=λj t e=>by
  obtain⟨f,_⟩:=vg4.mp e;have C:kvs[j]?=some kvs[j]:=bH (by lia);obtain⟨au,rt,pt,_⟩:=I.tuple<|a4 j t _ e C;cases rt with
  | cons r1 rr=>
   cases rr with
   | cons r2 rr=>
    cases rr;obtain⟨o,eo,rest⟩:=id pt;exact⟨bA eo,_,_,_,C,pt,nL (P:=X.prog) (w:=X.w) r1,r2⟩
 refine YE (A:=X.A.in1) (I.ok.hd L) (its:=its) (kvs:=kvs) (bI a5) (bI<|fP a5 m) (bI m) ag ↑kvs 0 _ [] (by simp) (bO _) ⟨_,bY _ rfl,rfl,rfl⟩ (J.at λo e=>aZ _ e) ⟨by lia,λj l f=>?_⟩ (λT hT=>?_)
  (v.at λo e=>aZ _ e) .nil λh' tk am ak ai kk=>?_
 .obtain⟨aq,_⟩:=vg4.mp f;have d:ts[j]?=some ts[j]:=bH (by lia);obtain⟨_,ar,a,b,h1,ao,h3,h4⟩:=N j _ d;rw[f]at h1;cases h1;obtain⟨o,e,r⟩:=ao;exact⟨_,a,b,ad j _ d,⟨o,a1 _ _ e,r⟩,h3,h4⟩
 .obtain⟨j,f,e⟩:=mP hT;have d:ts[j]?=some ts[j]:=bH (by lia);have:=ad j _ d;rw[bH f,e]at this;cases this;have:=(N j _ d).1;exact⟨bI this,bI<|fP this m⟩
 .refine⟨rfl,⟨.ref s⁻¹,_,?_,rfl,q _<|I.hok.fresh<|aO _⟩⟩;have an:↑(dX [] kvs)<=sizeLine:=by
   have:=wG kvs [];simp at this;lia
  have a8:(s⁻¹ == sysModules)=false:=by
   have:=I.big;simpa using cQ this
  exact I.laid (t':=tk) (o:=.dK<|dX [] kvs) (λb o e=>kk b o (bI<|bA e) (bI<|fP (bA e) m)<|a1 b o e) (aO _) ⟨an,a8,am,ai,ak⟩
section
variable{tg:Expr}
end
def Inv.laidMany(I:Inv X pins σ H s)(keep:∀b o,s.heap.get? b=some o->h'.get? b=some o)(d:∀b,b<s⁻¹->H' b=H b)(i:HOk X.prog X.w H' h'):Inv X pins σ H' {s with heap:=h',toks:=t'}:=by
 have a:Inv X pins σ H {s with heap:=h',toks:=t'}:=I.kept (t':=t') keep;have old:∀b o',X.s₀.heap.get? b=some o'->b<s⁻¹:=λb o' e=>gE (bA e) I.sz;have lt:∀b u,H b=some u->b<s⁻¹:=λb u e=>by
  rcases iJ b s⁻¹ with h | h
  .exact h
  .rw[I.hok.fresh h]at e;cases e
 have base:=a.base;refine⟨a.ok,a.os,a.bare,⟨base.keep,base.slot,λb f q n x=>?_,base.there,λb ys q=>?_,λb f y q=>?_,λb ps q=>?_⟩,a.loc,a.cell,?_,λy c h=>?_,λp j=>?_,i,a.len⟩
 .rw[d b<|old b f q];exact base.free b f q n x
 .have:=base.tups b ys q;rw[d b<|lt b _ this];exact this
 .have:=base.frzs b f y q;rw[d b<|lt b _ this];exact this
 .obtain⟨m,this⟩:=base.tbls b ps q;exact⟨m,by rw[d b<|lt b _ this];exact this⟩
 .rw[d _ I.lt];exact I.free
 .obtain⟨v,q⟩:=I.cell y c h;rw[d _ q.lt];exact I.freeC y c h
 .obtain⟨l,z,r⟩:=a.pin p j;have:=bA (I.pin p j).1;exact⟨l,by rw[d _ this];exact z,r⟩
abbrev sZ(h:Heap)(z TI TO T:Addr)(f:Bool):Prop:=
 h.get? z=some {cls:=.type "zip",dict:=none,data:=.fields #[rawInt T,.bool f,.bool false,.ref TI,.ref TO],slots:=#[]}
def NP{z TI TO T:Addr}{f:Bool}{e:Obj}{Q:Bool->Shared->Prop}(hz:sZ s.heap z TI TO T f)(d:s.heap.get? T=some e)
  (h:∀a,sZ a z TI TO T true->Heap.SameBut z s.heap a->Q false {s with heap:=a}):wpAny (model prog w) A (Builtin.SmallTypes.ownedTupleIsFree<|.ref z) Q E s:=by
 unfold Builtin.SmallTypes.ownedTupleIsFree;refine aB<|eZ hz rfl (x:=rawInt T) rfl ?_;show wpAny _ _ (loadIfAlive ((T:Int).toNat) >>= _) _ _ _;rw[lD];refine aB<|PySem.W.kdx_alive d ?_;show wpAny _ _ (field (.ref z) 1 >>= _) _ _ s;refine aB<|eZ hz rfl (x:=.bool f) rfl ?_;cases f with
 | true=>exact aD<|h s.heap hz<|vM _ _
 | false=>exact aB<|iM hz (by simp) λa b a1=>aD<|h a b a1
def YJ{z TI TO b a i j T:Addr}{f:Bool}{v:Obj}{k:Nat}{xs ys:Array Value}{x y:Value}{Q:Option Value->Shared->Prop}(D:ZipApart z TI TO b a i j)
  (hz:sZ s.heap z TI TO T f) (u:s.heap.get? T=some v) (n:IsPair s.heap TI (.ref b) (.ref a))
  (h1:s.heap.IsListIter b i k) (h2:s.heap.IsListIter a j k) (I:s.heap.IsList i xs) (L:s.heap.IsList j ys) (C:xs[k]?=some x) (H:ys[k]?=some y)
  (p:∀h',sZ h' z TI TO T true->h'.IsListIter b i (k+1)->h'.IsListIter a j (k+1)->IsPair h' s⁻¹ x y->
   (∀c o,c≠z->c≠b->c≠a->s.heap.get? c=some o->h'.get? c=some o)->Q (some<|.ref s⁻¹) {s with heap:=h'}):
  wpAny (model prog w) A (pyNext<|.ref z) Q E s:=by
 have ty:s.TypeIs (.ref z) "zip":=⟨_,hz,rfl⟩;unfold pyNext;refine aB<|kY<|jD (name:=Str.ofString "__next__") ty oJ<|fO oJ ty F.entry_zip_next ?_<|EM _;show wpAny _ _ (field (.ref z) 2 >>= _) _ _ s;refine aB<|eZ hz rfl (x:=.bool false) rfl ?_;show wpAny _ _ (field (.ref z) 3 >>= _) _ _ s;refine aB<|eZ hz rfl (x:=.ref TI) rfl<|aB<|jF n rfl ?_;show wpAny _ _ (Builtin.SmallTypes.ownedTupleIsFree (.ref z) >>= _) _ _ s;refine aB<|NP hz u λO B d=>?_;simp only[lB,gI];refine aB ?_;simp only[List.forIn_toArray,wR,List.forIn_nil];refine aB<|aB<|dP ?_;show wpAny _ _ (Builtin.SmallTypes.nextOf (.ref b) >>= _) _ _ _;refine aB<|CD (tp:=false) (h1.at λo e=>d.extBut _ _ D.i1z e) (I.at λo e=>d.extBut _ _ D.l1z e) C λq G a1=>aD ?_;refine aD ?_;refine aB<|aB<|dP ?_;show wpAny _ _ (Builtin.SmallTypes.nextOf (.ref a) >>= _) _ _ _;refine aB<|CD (tp:=false) (h2.at λo e=>a1.extBut _ _ D.i12.symm<|d.extBut _ _ D.i2z e) (L.at λo e=>a1.extBut _ _ D.l2i1<|d.extBut _ _ D.l2z e) H λh r l=>aD ?_;refine aD<|aD ?_;have hsz:h.objs.size=s⁻¹:=by rw[l.1,a1.1,d.1]
 show wpAny _ _ (newTuple [x,y] >>= _) _ _ _;refine aB<|wpAny_newTuple ?_;refine aD ⟨_,rfl,?_⟩;show wpAny _ _ (pure<|some<|Value.ref h.objs.size) _ _ _;refine aD ?_;have M:∀c o,c≠z->c≠b->c≠a->s.heap.get? c=some o->(h.push {cls:=.type "tuple",data:=.seq #[x,y]}).get? c=some o:=λc o K N J e=>aZ _<|l.extBut _ _ J<|a1.extBut _ _ N<|d.extBut _ _ K e;have m:IsPair (h.push {cls:=.type "tuple",data:=.seq #[x,y]}) h.objs.size x y:=bY _ rfl;rw[hsz]at m ⊢;refine p _ (aZ _<|l.extBut _ _ D.i2z.symm<|a1.extBut _ _ D.i1z.symm B) ?_ ?_ m M
 .exact(show Heap.IsListIter q b i (k+1) from G).at λo e=>aZ _<|l.extBut _ _ D.i12 e
 .exact(show Heap.IsListIter h a j (k+1) from r).at λo e=>aZ _ e
def Fw{z TI TO a i d H T:Addr}{f:Bool}{n:Obj}{k:Nat}{xs:Array Value}{Q:Option Value->Shared->Prop}(u:A.handled=none)(D:ZipApart z TI TO a i d H)
  (hz:sZ s.heap z TI TO T f) (m:s.heap.get? T=some n) (v:IsPair s.heap TI (.ref a) (.ref i))
  (h1:s.heap.IsListIter a d k) (j:s.heap.IsList d xs) (r:xs[k]?=none)
  (l:∀h',(∀c o,c≠z->c≠a->s.heap.get? c=some o->h'.get? c=some o)->Q none {s with heap:=h'}):wpAny (model prog w) A (pyNext<|.ref z) Q E s:=by
 have ty:s.TypeIs (.ref z) "zip":=⟨_,hz,rfl⟩;unfold pyNext;refine aB<|kY<|jD (name:=Str.ofString "__next__") ty oJ<|fO oJ ty F.entry_zip_next ?_<|EM _;show wpAny _ _ (field (.ref z) 2 >>= _) _ _ s;refine aB<|eZ hz rfl (x:=.bool false) rfl ?_;show wpAny _ _ (field (.ref z) 3 >>= _) _ _ s;refine aB<|eZ hz rfl (x:=.ref TI) rfl<|aB<|jF v rfl ?_;show wpAny _ _ (Builtin.SmallTypes.ownedTupleIsFree (.ref z) >>= _) _ _ s;refine aB<|NP hz m λM L h=>?_;simp only[lB,gI];refine aB ?_;simp only[List.forIn_toArray,wR,List.forIn_nil];refine aB<|aB<|dP ?_;show wpAny _ _ (Builtin.SmallTypes.nextOf (.ref a) >>= _) _ _ _;refine aB<|JS (tp:=false) u (h1.at λo e=>h.extBut _ _ D.i1z e) (j.at λo e=>h.extBut _ _ D.l1z e) r λK e B I=>?_;obtain⟨C,p,a1⟩:=I;exact aB<|gZ (T:="StopIteration") (b:=true) ⟨C,p,a1⟩ vN<|aD<|l _ λc o G J q=>B _ _ J<|h.extBut _ _ G q
structure ZipSt(h:Heap)(S z TI TO i1 i2 l1 l2:Addr)(xs ys:List Value)(i:Nat)(ts:List Addr):Prop where
 zs:(ts=[]/\IsZip h z TI TO .none)\/∃T f,T∈ts/\sZ h z TI TO T f
 tI:IsPair h TI (.ref i1) (.ref i2)
 tO:∃a b,IsPair h TO a b
 a1:h.IsListIter i1 l1 i
 a2:h.IsListIter i2 l2 i
 b1:h.IsList l1 xs.toArray
 b2:h.IsList l2 ys.toArray
 len:↑ts=i
 nd:ts.Nodup
 up:∀t∈ts,S<t
 prs:∀(j:Nat) t,ts[j]?=some t->∃x y,xs[j]?=some x/\ys[j]?=some y/\IsPair h t x y
def ZipSt.move{h h':Heap}{S z TI TO n m d p:Addr}{xs ys:List Value}{i:Nat}{ts:List Addr}(q:ZipSt h S z TI TO n m d p xs ys i ts)(G:z≠S/\TI≠S/\TO≠S/\n≠S/\m≠S/\d≠S/\p≠S)
  (k:∀b o,b≠S->h.get? b=some o->h'.get? b=some o):ZipSt h' S z TI TO n m d p xs ys i ts:=by
 obtain⟨r,v,C,L,E,J,K⟩:=G;obtain⟨zs,H,⟨a,b,u⟩,a1,B,b1,A,len,nd,s,l⟩:=q;refine⟨?_,k _ _ v H,⟨a,b,k _ _ C u⟩,a1.at λo e=>k _ o L e,B.at λo e=>k _ o E e,b1.at λo e=>k _ o J e,A.at λo e=>k _ o K e,len,nd,s,λj t e=>?_⟩
 .rcases zs with ⟨e,q⟩ | ⟨T,f,hT,q⟩
  .exact .inl ⟨e,k _ _ r q⟩
  .exact .inr ⟨T,f,hT,k _ _ r q⟩
 .obtain⟨x,y,w,M,I⟩:=l j t e;exact⟨x,y,w,M,k _ _ (cQ<|s t<|cX e) I⟩
def ZipSt.turn{S z TI TO m l r C:Addr}{xs ys:List Value}{i:Nat}{ts:List Addr}{Q:Option Value->Shared->Prop}(D:ZipApart z TI TO m l r C)(q:ZipSt s.heap S z TI TO m l r C xs ys i ts)
  (hS:S<s⁻¹) (ht:∀t∈ts,t≠z/\t≠TO/\t≠m/\t≠l) (hi:i<↑xs) (hl:↑xs=↑ys)
  (P:∀h' t,ZipSt h' S z TI TO m l r C xs ys (i+1) (ts++[t])->s⁻¹<=t->(∀c o,c≠z->c≠TO->c≠m->c≠l->s.heap.get? c=some o->h'.get? c=some o)->Q (some<|.ref t) {s with heap:=h'}):
  wpAny (model prog w) A (pyNext<|.ref z) Q E s:=by
 obtain⟨zs,L,⟨a,b,W⟩,a1,X,b1,I,len,nd,up,n⟩:=q;have ex:xs.toArray[i]?=some xs[i]:=by simp[hi]
 have Z:ys.toArray[i]?=some (ys[i]'(by lia)):=by simp[show i<ys.length by lia]
 have a6:xs[i]?=some xs[i]:=bH hi;have a5:ys[i]?=some (ys[i]'(by lia)):=bH (by lia);have Y:∀h':Heap,((∃T f,T∈ts++[s⁻¹]/\sZ h' z TI TO T f))->(∃a b,IsPair h' TO a b)->h'.IsListIter m r (i+1)->h'.IsListIter l C (i+1)->IsPair h' s⁻¹ xs[i] (ys[i]'(by lia))->
   (∀c o,c≠z->c≠TO->c≠m->c≠l->s.heap.get? c=some o->h'.get? c=some o)->ZipSt h' S z TI TO m l r C xs ys (i+1) (ts++[s⁻¹]):=by
  intro h' hz a4 B c2 hp d;refine⟨.inr hz,d _ _ D.TIz D.TITO D.TIi1 D.TIi2 L,a4,B,c2,b1.at λo e=>d _ o D.l1z D.l1TO D.l1i1 D.l1i2 e,I.at λo e=>d _ o D.l2z D.l2TO D.l2i1 D.l2i2 e,by rw[bL,len];rfl,?_,λt J=>?_,λj t e=>?_⟩
  .refine List.nodup_append.mpr ⟨nd,by simp,λt J u hu=>?_⟩;obtain⟨j,v⟩:=vm3.mp J;obtain⟨_,_,_,_,e⟩:=n j t v;rw[vh7.mp hu];exact bI<|bA e
  .rcases vj5.mp J with h | h
   .exact up t h
   .rw[vh7.mp h];exact hS
  .by_cases v:j<↑ts
   .rw[nW v]at e;obtain⟨x,y,e1,e2,e3⟩:=n j t e;obtain⟨n1,n2,n3,n4⟩:=ht t<|cX e;exact⟨x,y,e1,e2,d _ _ n1 n2 n3 n4 e3⟩
   .rw[oG<|by lia]at e;have h0:j-↑ts=0:=by
     cases hz:j-↑ts with
     | zero=>rfl
     | succ k=>rw[hz]at e;simp at e
    rw[h0]at e;simp only[FY,AX]at e;subst e;have:j=i:=by lia
    subst this;exact⟨_,_,a6,a5,hp⟩
 rcases zs with ⟨rfl,hz⟩ | ⟨T,f,hT,hz⟩
 .exact OR (p:=false) (q:=false) D hz L W a1 X b1 I ex Z λh' H g2 M K O d=>P h' _ (Y h' ⟨_,false,fR _<|vh7.mpr rfl,H⟩ ⟨_,_,g2⟩ M K O d) (aO _) d
 .obtain⟨j,v⟩:=vm3.mp hT;obtain⟨_,_,_,_,eT⟩:=n j T v;exact YJ D hz eT L a1 X b1 I ex Z λh' H M K O d=>P h' _ (Y h' ⟨T,true,mQ _ hT,H⟩ ⟨_,_,d _ _ D.TOz D.TOi1 D.TOi2 W⟩ M K O λc o B _ N G e=>d c o B N G e) (aO _) λc o B _ N G e=>d c o B N G e
def ZipSt.stop{S z TI TO i h m u:Addr}{xs ys:List Value}{ts:List Addr}{Q:Option Value->Shared->Prop}(n:A.handled=none)(D:ZipApart z TI TO i h m u)(q:ZipSt s.heap S z TI TO i h m u xs ys ↑xs ts)
  (l:∀h',(∀c o,c≠z->c≠TO->c≠i->c≠h->s.heap.get? c=some o->h'.get? c=some o)->Q none {s with heap:=h'}):wpAny (model prog w) A (pyNext<|.ref z) Q E s:=by
 obtain⟨zs,r,⟨a,b,v⟩,a1,B,b1,x,len,nd,J,d⟩:=q;have ex:xs.toArray[↑xs]?=none:=by simp
 rcases zs with ⟨rfl,hz⟩ | ⟨T,f,hT,hz⟩
 .exact RT (p:=false) (q:=false) n D hz r v a1 B b1 x (.inl ex) l
 .obtain⟨j,I⟩:=vm3.mp hT;obtain⟨_,_,_,_,eT⟩:=d j T I;exact Fw n D hz eT r a1 b1 ex λh' C=>l h' λc o H _ G _ e=>C c o H G e
def Cc:typeLookup (.type "zip") "__len__"=pure none:=by(rw[lU,mO];kernel_rfl)
def Au:typeLookup (.type "zip") "__length_hint__"=pure none:=by(rw[lU,mO];kernel_rfl)
section
variable{R:Result->Shared->Prop}
def Ce(a:s.TypeIs (.ref z) "zip")(h:Q true s):wpAny (model prog w) A (Builtin.List.listLengthHint<|.ref z) Q E s:=by
 unfold Builtin.List.listLengthHint;refine aB<|kE a Cc ?_;refine hC (λc=>absurd c<|by decide) λ_=>?_;refine hC (λc=>absurd c<|by decide) λ_=>?_;refine aB<|kE a Au ?_;exact aD h
abbrev vS(h:Heap)(S:Addr)(ts:List Addr)(c:Nat):Prop:=h.get? S=some {cls:=.type "list",dict:=none,data:=.seq (ts.map Value.ref).toArray c,slots:=#[]}
structure KY(h₀ h:Heap)(S z TO i1 i2:Addr)(xs ys:List Value)(ts:List Addr):Prop where
 keep:∀b o,b≠S->b≠z->b≠TO->b≠i1->b≠i2->h₀.get? b=some o->h.get? b=some o
 lst:∃c,vS h S ts c
 len:↑ts=↑xs
 nd:ts.Nodup
 up:∀t∈ts,S<t
 prs:∀(j:Nat) t,ts[j]?=some t->∃x y,xs[j]?=some x/\ys[j]?=some y/\IsPair h t x y
def Bu{S z TI TO B v I K:Addr}{xs ys:List Value}(Y:A.handled=none)(D:ZipApart z TI TO B v I K)(lo:z<S/\TI<S/\TO<S/\B<S/\v<S/\I<S/\K<S)(hl:↑xs=↑ys)(hn:↑xs<=sizeLine)(res:Value){h₀:Heap}
  (T:∀h' tk ts,KY h₀ h' S z TO B v xs ys ts->R (.ok<|.ret res) {s with heap:=h',toks:=tk}):
  ∀(m i:Nat)(h:Heap)(tk c:Nat)(ts:List Addr),↑xs-i=m->i<=↑xs->ZipSt h S z TI TO B v I K xs ys i ts->(∀b o,b≠S->b≠z->b≠TO->b≠B->b≠v->h₀.get? b=some o->h.get? b=some o)->vS h S ts c->
   codeAny (model prog w) A (.builtin "list.extend.loop" ⟨[.ref S,.ref z,res],[]⟩) R {s with heap:=h,toks:=tk}:=by
 obtain⟨l,X,r,E,u,O,o7⟩:=lo;intro m
 induction m with
 | zero=>
  intro i h tk c ts hm hi q J G;have e:i=↑xs:=by lia
  subst e;refine jP F.entry_extend_loop ?_;rw[kI vU _];show wpAny _ A.in1 (pyNext (.ref z) >>= _) _ _ _;refine aB<|ZipSt.stop (s:={s with heap:=h,toks:=tk}) (A:=A.in1) Y D q λh' d=>aD<|T h' tk ts ⟨λb o H n f p C e=>d b o n f p C<|J b o H n f p C e,⟨c,d S _ (cQ l) (cQ r) (cQ E) (cQ u) G⟩,q.len,q.nd,q.up,λj t M=>?_⟩;obtain⟨x,y,N,e2,e3⟩:=q.prs j t M;have a:=q.up t<|cX M;exact⟨x,y,N,e2,d t _ (cQ<|fP l a) (cQ<|fP r a) (cQ<|fP E a) (cQ<|fP u a) e3⟩
 | succ m ih=>
  intro i h tk c ts hm hi q J G;have a1:i<↑xs:=by lia
  refine jP F.entry_extend_loop ?_;rw[kI vU _];show wpAny _ A.in1 (pyNext (.ref z) >>= _) _ _ _;refine aB<|ZipSt.turn (s:={s with heap:=h,toks:=tk}) D q (bA G) (λt a=>⟨cQ<|fP l<|q.up t a,cQ<|fP r<|q.up t a,cQ<|fP E<|q.up t a,cQ<|fP u<|q.up t a⟩) a1 hl λh' t q' a3 d=>?_;have L:vS h' S ts c:=d S _ (cQ l) (cQ r) (cQ E) (cQ u) G;have sz:(ts.map Value.ref).toArray.size=i:=by rw[cL,aG,q.len]
  obtain⟨c',P⟩:∃c',vS (h'.update S<|Obj.mapSeq (·.push (Value.ref t))) S (ts++[t]) c':=by
   have W:((ts++[t]).map Value.ref).toArray=(ts.map Value.ref).toArray.push (.ref t):=by simp
   unfold vS;rw[W];exact⟨_,iI (Obj.mapSeq (·.push (Value.ref t))) L rfl⟩
  show wpAny _ A.in1 (updateSeq S (·.push (Value.ref t)) >>= _) _ _ _;refine aB<|wF L rfl (aD ⟨lX vU _,ih (i+1) _ tk c' (ts++[t]) (by lia) a1 (q'.move ⟨bI l,bI X,bI r,bI E,bI u,bI O,bI o7⟩ λb o Z e=>(kM _ _<|cW Z).trans e) ?_ ?_⟩) ?_ ?_
  .exact λb o H n f p C e=>(kM _ _<|cW H).trans<|d b o n f p C<|J b o H n f p C e
  .exact P
  .rw[sz];lia
  .show((ts.map Value.ref).toArray.push<|Value.ref t).size<=sizeLine+1;rw[Array.size_push,sz];lia
def Dg{S z TI TO l i m p:Addr}{xs ys:List Value}{a b:Value}(I:A.handled=none)(D:ZipApart z TI TO l i m p)(lo:z<S/\TI<S/\TO<S/\l<S/\i<S/\m<S/\p<S)(hl:↑xs=↑ys)(M:↑xs<=sizeLine)(res:Value)
  (hz:IsZip s.heap z TI TO .none) (G:IsPair s.heap TI (.ref l) (.ref i)) (J:IsPair s.heap TO a b) (h1:s.heap.IsListIter l m 0) (h2:s.heap.IsListIter i p 0) (C:s.heap.IsList m xs.toArray) (v:s.heap.IsList p ys.toArray) {K:Nat} (r:vS s.heap S [] K)
  (E:∀h' tk ts,KY s.heap h' S z TO l i xs ys ts->R (.ok<|.ret res) {s with heap:=h',toks:=tk}):
  wpAny (model prog w) A.in1 (Builtin.List.listExtendWith (.ref S) (.ref z) res)
   (λa1 s'=>match a1 with | .done f=>R (.ok f) s' | .again c'=>c'.quiet=true/\codeAny (model prog w) A c' R s') (λe s'=>R (.error e) s') s:=by
 obtain⟨q,H,L,Z,N,B,X⟩:=id lo;unfold Builtin.List.listExtendWith;refine aB<|nB (T:="zip") ⟨_,hz,rfl⟩ ?_;have x:Builtin.List.listSameRef (.ref S) (.ref z)=false:=by simp[Builtin.List.listSameRef,cQ q]
 have Y:(Value.type "zip" == Value.type "list")=false:=by decide
 have W:(Value.type "zip" == Value.type "tuple")=false:=by decide
 simp only[x,Y,W,Bool.or_false,lB,gI];refine aB<|wpAny_pyIter_zip hz<|aB<|dP<|Ce ⟨_,hz,rfl⟩ ?_;refine hC (λ_=>?_) λc=>absurd rfl c;refine aB<|fN<|aB ?_;show wpAny _ _ (updateSeq S (·.push .none) >>= λ_=>updateSeq S (·.pop)) _ _ s;refine aB<|wF r rfl ?_;have u:=iI (Obj.mapSeq (·.push Value.none)) r rfl;refine wF (hz:=by seq_fits) u rfl ?_;have P:=iI (Obj.mapSeq (·.pop)) u rfl;have d:∀b o,b≠S->s.heap.get? b=some o->((s.heap.update S<|Obj.mapSeq (·.push Value.none)).update S<|Obj.mapSeq (·.pop)).get? b=some o:=λb o n e=>(kM _ _<|cW n).trans<|(kM _ _<|cW n).trans e;refine aD ⟨lX vU _,Bu (s:=s) I D lo hl M res E ↑xs 0 _ _ _ [] (Nat.sub_zero _) (bO _) ⟨.inl ⟨rfl,d _ _ (bI q) hz⟩,d _ _ (bI H) G,⟨a,b,d _ _ (bI L) J⟩,h1.at λo e=>d _ o (bI Z) e,h2.at λo e=>d _ o (bI N) e,C.at λo e=>d _ o (bI B) e,v.at λo e=>d _ o (bI X) e,rfl,kD,(λt h=>nomatch h),(λj t e=>by simp at e)⟩ (λb o O _ _ _ _ e=>d b o O e) P⟩
def Fr{z TI TO h f i l:Addr}{xs ys:List Value}{a b:Value}{Q:Vp}(J:A.handled=none)(D:ZipApart z TI TO h f i l)(hl:↑xs=↑ys)(K:↑xs<=sizeLine)
  (hz:IsZip s.heap z TI TO .none) (p:IsPair s.heap TI (.ref h) (.ref f)) (m:IsPair s.heap TO a b) (h1:s.heap.IsListIter h i 0) (h2:s.heap.IsListIter f l 0) (a1:s.heap.IsList i xs.toArray) (u:s.heap.IsList l ys.toArray)
  (x:∀h' tk ts,KY s.heap h' s⁻¹ z TO h f xs ys ts->Q (.ref s⁻¹) {s with heap:=h',toks:=tk}):wpAny (model prog w) A (call (.type "list") [.ref z]) Q E s:=by
 refine callType_codes (Q₁:=λr n=>r=.ref s⁻¹/\n={s with heap:=s.heap.push {cls:=.type "list",data:=.seq #[]}}) F.called_list (F.typeCall_list_1 _) F.entry_list_init (code_list_new _ ⟨rfl,rfl⟩) λr n q=>?_;obtain⟨rfl,rfl⟩:=q;have O:z<s⁻¹:=bA hz;have N:TI<s⁻¹:=bA p;have P:TO<s⁻¹:=bA m;have I:h<s⁻¹:=by obtain⟨_,e,_⟩:=h1;exact bA e
 have v:f<s⁻¹:=by obtain⟨_,e,_⟩:=h2;exact bA e
 have C:i<s⁻¹:=by obtain⟨_,e,_⟩:=a1;exact bA e
 have M:l<s⁻¹:=by obtain⟨_,e,_⟩:=u;exact bA e
 have j:(s.heap.push {cls:=.type "list",data:=.seq #[]}).get? s⁻¹=some {cls:=.type "list",data:=.seq #[]}:=bY _ rfl;exists ⟨_,j,rfl⟩,F.args_list_init_2 _ _;show wpAny _ A.in1.in1 (do let old <-Builtin.List.listItems (.ref s⁻¹);Builtin.List.listUpdate (.ref s⁻¹) λ_=>#[];letGo old.toList.reverse;Builtin.List.listExtendWith (.ref s⁻¹) (.ref z) .none) _ _ _;refine aB ?_;unfold Builtin.List.listItems;refine aB<|jF j rfl<|aD ?_;show wpAny _ _ (updateSeq s⁻¹ (λ_=>#[]) >>= λ_=>letGo (#[]:Array Value).toList.reverse >>= λ_=>Builtin.List.listExtendWith (.ref s⁻¹) (.ref z) .none) _ _ _;refine aB<|wF j rfl ?_;have W:=iI (Obj.mapSeq λ_=>(#[]:Array Value)) j rfl;have d:∀b o,s.heap.get? b=some o->((s.heap.push {cls:=.type "list",data:=.seq #[]}).update s⁻¹<|Obj.mapSeq λ_=>(#[]:Array Value)).get? b=some o:=
  λb o e=>(kM _ _<|cQ<|bA e).trans<|aZ _ e
 refine aB<|wpAny_letGo ?_;refine Dg (A:=A.in1) J D ⟨O,N,P,I,v,C,M⟩ hl K .none (d _ _ hz) (d _ _ p) (d _ _ m) (h1.at λo e=>d _ o e) (h2.at λo e=>d _ o e) (a1.at λo e=>d _ o e) (u.at λo e=>d _ o e) W λh' tk ts q=>⟨rfl,x h' tk ts ?_⟩;exact⟨λb o L G B H T e=>q.keep b o L G B H T<|d b o e,q.lst,q.len,q.nd,q.up,q.prs⟩
end
def kX(H:Hp)(S:Addr)(ts:List Addr)(xs ys:List V):Hp:=λb=>if b=S then some (.lst<|ts.map V.ref) else if b∈ts then some (.tup [xs.getD (ts.idxOf b) .non,ys.getD (ts.idxOf b) .non]) else H b
def tV{ts:List Addr}(nd:ts.Nodup){j:Nat}{t:Addr}(e:ts[j]?=some t):ts.idxOf t=j:=by
 obtain⟨f,d⟩:=vg4.mp e;have a:t∈ts:=cX e;have b:ts.idxOf t<↑ts:=List.idxOf_lt_length_iff.mpr a;have h2:ts[ts.idxOf t]=t:=List.getElem_idxOf b;exact(yZ nd).mp<|h2.trans d.symm
theorem RC:∀ts:List Addr,Vals (ts.map V.ref)<|ts.map Value.ref
 | []=>.nil
 | t::r=>.cons rfl<|RC r
def XJ(K:Fg)(ta:TA):TE:=λσ H Q=>ta σ H λvs H1=>∃(l1 l2:Addr)(xs ys:List V),vs=[.ref l1,.ref l2]/\SqL K H1 l1 xs/\SqL K H1 l2 ys/\↑xs=↑ys/\
 ∀(l:Addr)(ts:List Addr)(H':Hp),(∀b o,H1 b=some o->H' b=some o)->H1 l=none->H' l=some (.lst<|ts.map V.ref)->↑ts=↑xs->
  (∀(j:Nat) t,ts[j]?=some t->∃x y,xs[j]?=some x/\ys[j]?=some y/\H' t=some (.tup [x,y]))->Q (.ref l) H'
theorem boot_list:bootBuiltins "list"=some (.type "list"):=by first | exact PySem.boot_list | rfl'
def Gz{X:Cx}{a b:Expr}{ta:TA}{p E pos B:Pos}(hc:X.calm=true)(al:Gl X "list")(ai:X.mg "list"=none)(ac:Gl X "zip")(ad:X.mg "zip"=none)(ha:PA X [a,b] ta)
  (hs:starEach [a,b] X.env=[(false,eval a X.env),(false,eval b X.env)]:=by rfl) (aa:starEach [b] X.env=[(false,eval b X.env)]:=by rfl)
  (he:starEach [.Call (.Name "zip" E) [a,b] [] B] X.env=[(false,eval (.Call (.Name "zip" E) [a,b] [] B) X.env)]:=by rfl):
  PE X (.Call (.Name "list" p) [.Call (.Name "zip" E) [a,b] [] B] [] pos) (XJ X.K ta):=by
 intro a4 s σ H Q I h;refine AT<|lS I al ai boot_list ?_;refine oN ?_ (by rw[he];rfl) rfl;rw[he];show wpAny _ _ (spliced<|(false,eval (.Call (.Name "zip" E) [a,b] [] B) X.env)::[]) _ _ s;refine kP<|aS (Q:=λu s₂=>wpAny (model X.prog X.w) X.A (call (.type "list") [u]) (EP X a4 σ Q) X.xe s₂) ?_ λu s₂ q=>pF q;refine Call_ (lS I ac ad boot_zip<|oN (aS (ha B a4 s σ H _ I h) λus d ⟨vs,H1,m,r1,q1⟩=>?_) (by rw[hs,aa])<|by rw[aa];rfl);obtain⟨l1,l2,xs,ys,e,ae,ah,hl,q⟩:=q1;subst e;cases r1 with
 | cons r rr=>
  cases rr with
  | cons r' rr=>
   cases rr;cases r;cases r';obtain⟨a5,n,af,a9⟩:=m.list ae;obtain⟨a7,Y,am,ap⟩:=m.list ah;have L:=af.isList;have p2:=am.isList;have an:l1<d⁻¹:=by obtain⟨o,e,_⟩:=L;exact bA e
   have ab:l2<d⁻¹:=by obtain⟨o,e,_⟩:=p2;exact bA e
   have D:ZipApart (d⁻¹+4) (d⁻¹+2) (d⁻¹+3) d⁻¹ (d⁻¹+1) l1 l2:=zipApart_new an ab;refine call_zip_2 L p2 λh' hz ag ak h1 h2 hsz P=>?_;refine Fr (s:={d with heap:=h'}) (m.ok.hd hc) D (xs:=a5) (ys:=a7) (by rw[<-↑n,<-Y.length];exact hl) (by rw[<-↑n];exact a9) hz ag ak h1 h2 (L.at λo e=>P _ o e) (p2.at λo e=>P _ o e) λM tk ts i=>?_
   have C:d⁻¹<h'.objs.size:=by rw[hsz];lia
   have k2:∀b o,d.heap.get? b=some o->M.get? b=some o:=λb o e=>by
    have f:b<d⁻¹:=bA e;exact i.keep b o (bI<|fP f C) (bI<|gE f<|uO _ _) (bI<|gE f<|uO _ _) (bI f) (bI<|gE f<|uO _ _)<|P b o e
   have a2:∀b,b<d⁻¹->kX H1 h'.objs.size ts xs ys b=H1 b:=λb f=>by
    unfold kX;rw[aK<|bI<|fP f C,aK λl=>iB b<|fP (fP f C)<|i.up b l]
   have lt:∀b u,H1 b=some u->b<d⁻¹:=λb u e=>by
    rcases iJ b d⁻¹ with h | h
    .exact h
    .rw[m.hok.fresh h]at e;cases e
   have a1:∀b o,H1 b=some o->kX H1 h'.objs.size ts xs ys b=some o:=λb o e=>by rw[a2 b<|lt b o e];exact e
   have z:∀(j:Nat) t,ts[j]?=some t->∃x y u v,xs[j]?=some x/\ys[j]?=some y/\RelV x u/\RelV y v/\IsPair M t u v/\kX H1 h'.objs.size ts xs ys t=some (.tup [x,y]):=λj t e=>by
    obtain⟨u,v,G,J,e3⟩:=i.prs j t e;have ao:j<↑xs:=by rw[↑n];exact(vg4.mp G).1
    have aj:j<↑ys:=by rw[Y.length];exact(vg4.mp J).1
    have N:xs[j]?=some xs[j]:=bH ao;have T:ys[j]?=some ys[j]:=bH aj;obtain⟨u',eu,W⟩:=n.get N;obtain⟨v',ev,rv⟩:=Y.get T;rw[G]at eu;rw[J]at ev;cases eu;cases ev;have l:t∈ts:=cX e;exists _,_,u,v,N,T,W,rv,e3;unfold kX;rw[aK<|cQ<|i.up t l,aR l,tV i.nd e,sF,sF,N,T];rfl
   have O:HOk X.prog X.w (kX H1 h'.objs.size ts xs ys) M:=by
    intro b o e
    by_cases f:b=h'.objs.size
    .subst f;have:kX H1 h'.objs.size ts xs ys h'.objs.size=some (.lst<|ts.map V.ref):=by unfold kX;rw[aR rfl]
     rw[this]at e;cases e;obtain⟨c,ec⟩:=i.lst;exact⟨by rw[aG,i.len,<-↑n];exact a9,ts.map Value.ref,c,RC ts,ec⟩
    .by_cases l:b∈ts
     .obtain⟨j,hj⟩:=vm3.mp l;obtain⟨x,y,u,v,_,_,W,rv,ep,Z⟩:=z j b hj;rw[Z]at e;cases e;exact⟨⟨by show 2<=sizeLine;exact cM (bN<|by lia),_,ep,rfl⟩,[u,v],.cons W<|.cons rv .nil,_,ep,rfl,_,rfl⟩
     .have:kX H1 h'.objs.size ts xs ys b=H1 b:=by unfold kX;rw[aK f,aK l]
      rw[this]at e;exact(m.hok b o e).stay (λc v _ r=>k2 c v r) (λc r=>a1 c _ r) λc zs r=>a1 c _ r
   exists .ref h'.objs.size,_,m.laidMany (t':=tk) k2 a2 O,rfl;refine q h'.objs.size ts _ a1 (m.hok.fresh<|cM C) (by unfold kX;rw[aR rfl]) (by rw[i.len,↑n]) λj t e=>?_
   obtain⟨x,y,u,v,G,J,_,_,_,Z⟩:=z j t e;exact⟨x,y,G,J,Z⟩
inductive A2{α β:Type}(R:α->β->Prop):List α->List β->Prop
 | nil:A2 R [] []
 | cons {a:α} {b:β} {as:List α} {bs:List β} (h:R a b) (t:A2 R as bs):A2 R (a::as) (b::bs)
def A2.imp{α β:Type}{R S:α->β->Prop}(f:∀a b,R a b->S a b){as:List α}{bs:List β}(h:A2 R as bs):A2 S as bs:=by
 induction h with
 | nil=>exact .nil
 | cons h _ ih=>exact .cons (f _ _ h) ih
def A2.app{α β:Type}{R:α->β->Prop}{as a:List α}{bs a1:List β}(h:A2 R as bs)(g:A2 R a a1):A2 R (as++a) (bs++a1):=by
 induction h with
 | nil=>exact g
 | cons h _ ih=>exact .cons h ih
def A2.snoc{α β:Type}{R:α->β->Prop}{as:List α}{bs:List β}{a:α}{b:β}(h:A2 R as bs)(g:R a b):A2 R (as++[a]) (bs++[b]):=h.app<|.cons g .nil
def A2.len{α β:Type}{R:α->β->Prop}{as:List α}{bs:List β}(h:A2 R as bs):↑as=↑bs:=by
 induction h with
 | nil=>rfl
 | cons _ _ ih=>exact cR (·+1) ih
def A2.get{α β:Type}{R:α->β->Prop}{as:List α}{bs:List β}(h:A2 R as bs):∀{i:Nat}{a:α},as[i]?=some a->∃b,bs[i]?=some b/\R a b:=by
 induction h with
 | nil=>intro i a e;simp at e
 | cons h _ ih=>
  intro i a e;cases i with
  | zero=>cases e;exact⟨_,rfl,h⟩
  | succ i=>exact ih e
def GH{xs:List V}{a:List Value}(r:Vals xs a):∀{j:Nat}{u:Value},a[j]?=some u->∃x,xs[j]?=some x/\RelV x u:=by
 induction r with
 | nil=>intro j u e;simp at e
 | cons h _ ih=>
  intro j u e;cases j with
  | zero=>cases e;exact⟨_,rfl,h⟩
  | succ j=>exact ih e
section
variable{pins:List (Addr×Obj)}{σ:List (Option V)}{H:Hp}{s:Shared}{A:Around}
def Ed{ss tt:List Str}:((List.range<|min ↑ss ↑tt).all (λj=>decide<|ss[j]?=tt[j]?) && ↑ss == ↑tt)=decide (ss=tt):=by
 by_cases h:ss=tt
 .subst h;simp
 .rw[eR h]
  by_cases hl:↑ss=↑tt
  .have:((List.range<|min ↑ss ↑tt).all λj=>decide<|ss[j]?=tt[j]?)=false:=by
    rw[<-Bool.not_eq_true,vm1];intro a;refine h<|wE λi=>?_
    by_cases hi:i<↑ss
    .have:=a i (vt7.mpr<|by lia);exact cC this
    .rw[nE (by lia),nE<|by lia]
   rw[this];rfl
  .have:(↑ss == ↑tt)=false:=by simpa using hl
   rw[this,Bool.and_false]
def Al(I:Inv X pins σ H s){ss tt:List Str}{its d:List Value}(r:Vals (ss.map V.str) its)(o:Vals (tt.map V.str) d)(j:Nat)(h1:j<its.toArray.size)(h2:j<d.toArray.size):SeqAt.EqAt A s its.toArray[j] d.toArray[j] (decide<|ss[j]?=tt[j]?):=by
 have n:its[j]?=some its.toArray[j]:=by simp
 have p:d[j]?=some d.toArray[j]:=by simp
 obtain⟨x,f,m⟩:=GH r n;obtain⟨y,i,l⟩:=GH o p;rw[bD,vg8]at f i;obtain⟨a,f,rfl⟩:=f;obtain⟨b,i,rfl⟩:=i;obtain⟨t,m⟩:=m;obtain⟨t2,l⟩:=l;rw[m,l,f,i];have:=SeqAt.EqAt.str_str (A:=A) (s:=s) a t b t2;have e:(a == b)=decide (some a=some b):=by
  by_cases h:a=b
  .subst h;simp
  .simp[h]
 rwa [e]at this
def WH(I:Inv X pins σ H s)(l:A.units<cLine){a b:Addr}{ss tt:List Str}(ha:SqT X.K H a (ss.map V.str))(m:SqT X.K H b (tt.map V.str)):SeqAt.RcAt A s (.ref a) (.ref b) (decide<|ss=tt):=by
 obtain⟨its,r,p,_⟩:=I.tuple ha;obtain⟨n,f,p2,_⟩:=I.tuple m;have h:=SeqAt.RcAt.tuples (A:=A) (e:=λj=>decide<|ss[j]?=tt[j]?) p p2 l λj h1 h2=>Al I r f j h1 h2;have d:=↑r;have i:=↑f;rw[aG]at d i;rw[cL,cL,<-d,<-i,Ed]at h;exact h
end
def xN(K:Fg):R2:=λx y H Q=>∃(a b:Addr)(ss tt:List Str),x=.ref a/\y=.ref b/\SqT K H a (ss.map V.str)/\SqT K H b (tt.map V.str)/\Q (.bl<|decide<|ss=tt) H
def tK(e:X.A.units<cLine):cN X (compareOp .Eq) (xN X.K):=by
 intro j s σ H x y v u Q I i f h;obtain⟨a,b,ss,tt,rfl,rfl,ha,d,q⟩:=h;cases i;cases f;exact WH I e ha d _ _ _ _ ⟨.bl _,H,I,rfl,q⟩
open Classical in
def VX(x y:V):Prop:=(∃s:Str,x=.str s/\y=.str s)\/∃i:Int,x=.int i/\y=.int i
section
variable{pins:List (Addr×Obj)}{σ:List (Option V)}{H:Hp}{s:Shared}
def Fa{A:Around}{x y:V}{u v:Value}(h:VX x y)(a:RelV x u)(b:RelV y v):SeqAt.EqAt A s u v true:=by
 rcases h with ⟨z,rfl,rfl⟩ | ⟨z,rfl,rfl⟩
 .obtain⟨t,rfl⟩:=a;obtain⟨t2,rfl⟩:=b;have:=SeqAt.EqAt.str_str (A:=A) (s:=s) z t z t2;rwa [beq_self_eq_true]at this
 .obtain⟨t,rfl⟩:=a;obtain⟨t2,rfl⟩:=b;have:=SeqAt.EqAt.int_int (A:=A) (s:=s) z t z t2;rwa [beq_self_eq_true]at this
def ZF(I:Inv X pins σ H s){A:Around}{R:V->V->Prop}{xs ys:List V}(i:∀x y u v,R x y->RelV x u->RelV y v->SeqAt.EqAt A s u v true)(h:A2 R xs ys){its a:List Value}(r:Vals xs its)(e:Vals ys a)(j:Nat)(h1:j<its.toArray.size)(h2:j<a.toArray.size):SeqAt.EqAt A s its.toArray[j] a.toArray[j] ((λ_=>true) j):=by
 have d:its[j]?=some its.toArray[j]:=by simp
 have m:a[j]?=some a.toArray[j]:=by simp
 obtain⟨x,b,l⟩:=GH r d;obtain⟨y,n,f⟩:=GH e m;obtain⟨p,a1,o⟩:=h.get b;rw[n]at a1;cases a1;exact i x y _ _ o l f
end
section
variable{tg:Expr}
end
section
variable{o i e value:Expr}{pos:Pos}{td ty:TE}
end
abbrev cV(w:World):Bool:=w.params.followText "set-order"
abbrev hJ(w:World):Obj:={cls:=.type "set",data:=.set #[] 0 (SetTable.fresh 0 0<|!cV w)}
def eJ(e:Int×Value):Str:=match e.2 with
 | .str x _=>x
 | _=>"" 
def lG(w:World)(e:Int×Value):Prop:=∃x tk,e=(hashStr w x,.str x tk)
inductive SSet(w:World)(h:Heap)(a:Addr)(ss:List Str):Prop
 | mk(es:Array (Int×Value))(ep:Nat)(t:SetTable)(h1:h.get? a=some {cls:=.type "set",data:=.set es ep t})(h2:∀e∈es.toList,lG w e)(h3:ss=es.toList.map eJ)(h4:ss.Nodup)(h5:t.fits es.size=true)(h6:t.led=!cV w)(h7:ss=[]\/t.plain=false):SSet w h a ss
def Hr{t:SetTable}{es:Array (Int×Value)}{n:Nat}:(relayAll t es n).2.1.led=t.led/\((relayAll t es n).2.1.plain=t.plain\/(relayAll t es n).2.1.plain=false):=by
 unfold relayAll
 split
 .rename_i t' order e
  have a:t'.led=t.led/\t'.plain=t.plain:=by
   unfold SetTable.relaid SetTable.laid at e;cases q:SetTable.layClean (SetTable.sizeAbove n-1) (Array.map (λx=>x.fst) es)with
   | none=>rw[q]at e;cases e
   | some ow=>rw[q]at e;cases e;exact⟨rfl,rfl⟩
  dsimp only
  split
  .exact⟨a.1,.inl a.2⟩
  .exact⟨rfl,.inr rfl⟩
 .exact⟨rfl,.inr rfl⟩
def Ch{t:SetTable}{es:Array (Int×Value)}{h:Int}{x:Value}:(layNew t es h x).2.1.led=t.led/\((layNew t es h x).2.1.plain=t.plain\/(layNew t es h x).2.1.plain=false):=by
 unfold layNew
 split
 .split
  rename_i t' p e
  have a:t'.led=t.led/\t'.plain=t.plain:=by
   unfold SetTable.put at e;cases e;exact⟨rfl,rfl⟩
  dsimp only;unfold SetTable.orStandIn
  split
  .exact⟨a.1,.inl a.2⟩
  .exact⟨a.1,.inr rfl⟩
 .exact⟨rfl,.inr rfl⟩
def RF{w:World}{e:Int×Value}(h:lG w e):e.2.scannable=true:=by obtain⟨x,tk,rfl⟩:=h;rfl
def QH{w:World}{e:Int×Value}(h:lG w e):isExactStrKey e.2=true:=by obtain⟨x,tk,rfl⟩:=h;rfl
def VL{w:World}{e:Int×Value}{s:Str}(h:lG w e):e.2.isStr s=(eJ e == s):=by obtain⟨x,tk,rfl⟩:=h;rfl
def uQ{a:Addr}{ss:List Str}{x:Str}{tk:Tok}{Q:Bool->Shared->Prop}(S:SSet w s.heap a ss)(hn:↑ss<1000)
  (hQ:∀(h':Heap)(a1:List Str)(b:Bool),Heap.SameBut a s.heap h'->SSet w h' a a1->(x∈ss->a1=ss)->(x∉ss->a1.Perm (x::ss))->Q b {s with heap:=h',toks:=s.toks+1}):wpAny (model prog w) A (setAdd a<|.str x tk) Q E s:=by
 obtain⟨es,ep,t,h1,h2,B,h4,P,W,h7⟩:=S;have hsz:es.size=↑ss:=by rw[B,aG,cF]
 unfold setAdd;refine dP<|aB<|wpAny_pyHash_str ?_;unfold setAddHashed;refine dP ?_;rw[setAddHashedIn.eq_def];dsimp only;refine aB<|dM (s:={s with toks:=s.toks+1}) h1 rfl P ?_;dsimp only;have hb:byScan (.str x tk) es=true:=by
  unfold byScan;rw[kH,kH];exists ⟨rfl,cI<|by rw[hsz];exact fP hn<|by decide⟩;rw[EO];intro e j;exact RF (h2 e<|by simpa using j)
 rw[aR hb];refine aB ?_;unfold setAddByScan;refine aB<|fN ?_;refine aB ?_;unfold setScan;dsimp only;have hk:(es.all λe=>isExactStrKey e.snd)=true:=by
  rw[EO];intro e j;exact QH (h2 e<|by simpa using j)
 rw[aR hk];unfold setScanStrs;cases hf:Array.findIdx? (λy=>y.snd.isStr x) es with
 | some i=>
  obtain⟨hi,Z,_⟩:=Array.findIdx?_eq_some_iff_getElem.mp hf;have J:es[i]∈es.toList:=by simp
  obtain⟨y,ac,j⟩:=h2 _ J;have a8:y=x:=by
   rw[j]at Z;exact beq_iff_eq.mp (show(y == x)=true from Z)
  subst a8;dsimp only;rw[gJ hi,j];dsimp only;refine aB ?_;unfold setEpoch;refine aB<|dM (s:={s with toks:=s.toks+1}) h1 rfl P<|aD ?_;refine aB<|BC ?_;rw[cI rfl];refine aD<|aD<|aD ?_;have I:y∈ss:=by
   rw[B];refine vh6.mpr ⟨_,J,?_⟩;rw[j];rfl
  exact hQ s.heap ss false (vM _ _) ⟨es,ep,t,h1,h2,B,h4,P,W,h7⟩ (λ_=>rfl) λn=>absurd I n
 | none=>
  have I:x∉ss:=by
   rw[B];intro J;obtain⟨e,j,hs⟩:=vh6.mp J;have:=Array.findIdx?_eq_none_iff.mp hf e (by simpa using j);rw[VL<|h2 e j,hs]at this;simp at this
  refine aD ?_;dsimp only;have u:=layNew_perm t es (hashStr w x)<|.str x tk;have C:=layNew_fits t es (hashStr w x)<|.str x tk;have o:=Ch (t:=t) (es:=es) (h:=hashStr w x) (x:=.str x tk);generalize layNew t es (hashStr w x) (.str x tk)=r at u C o ⊢;obtain⟨d,m,wd,gv⟩:=r;dsimp only at u C o ⊢;have aa:d.size=↑ss+1:=by
   have:=u.length_eq;rw[cF,cF,Array.size_push,hsz]at this;exact this
  refine aB ?_;have a5:d.size<=sizeLine:=by rw[aa];exact cM (bN<|by lia)
  have hE:∀e∈d.toList,lG w e:=by
   intro e j;have:=u.mem_iff.mp j;rw[pG,vj5,vh7]at this;rcases this with h | rfl
   .exact h2 e h
   .exact⟨x,tk,rfl⟩
  have hP:(d.toList.map eJ).Perm (x::ss):=by
   have h:=u.map eJ;rw[pG,bP,<-B]at h;exact h.trans vv2
  have hN:(x::ss).Nodup:=vq2.mpr ⟨I,h4⟩;have T:∀{h':Heap}{v:Array (Int×Value)}{ab:Nat}{t2:SetTable},h'.get? a=some {cls:=.type "set",data:=.set v ab t2}->v.toList.Perm d.toList->t2.fits v.size=true->t2.led=t.led->t2.plain=false->SSet w h' a (v.toList.map eJ)/\(v.toList.map eJ).Perm (x::ss):=λg p f l pl=>
   have q:=(p.map eJ).trans hP
   ⟨⟨_,_,_,g,λe j=>hE e<|p.mem_iff.mp j,rfl,q.nodup_iff.mpr hN,f,l.trans W,.inr pl⟩,q⟩
  have H:∀(G:Bool->Sem Unit),(∀b (Q:Unit->Shared->Prop) s,Q () s->wpAny (model prog w) A (G b) Q E s)->∀{t2:SetTable},t2.fits d.size=true->t2.led=t.led->t2.plain=false->
    ∀(L:Option Bool->Shared->Prop),(∀(h':Heap)(a1:List Str),Heap.SameBut a s.heap h'->SSet w h' a a1->a1.Perm (x::ss)->L (some true) {s with heap:=h',toks:=s.toks+1})->
    wpAny (model prog w) A (storeSet a d t2 >>= λ_=>if (!wd && t2.tooFull)=true then(G (relayAll t2 d<|SetTable.grown d.size).2.2 >>= λ_=>storeSet a (relayAll t2 d<|SetTable.grown d.size).1 (relayAll t2 d<|SetTable.grown d.size).2.1 >>= λ_=>pure<|some true) else pure (some true)) L E {s with toks:=s.toks+1}:=by
   intro G hG t2 ft lt pt L q;refine aB<|CV (s:={s with toks:=s.toks+1}) h1 rfl ?_ a5;have K:(s.heap.update a<|Obj.putSet d t2).get? a=some {cls:=.type "set",data:=.set d (ep+1) t2}:=iI _ h1 rfl;have a7:=kT s.heap a<|Obj.putSet d t2
   split
   .refine aB<|hG _ _ _ ?_;have p2:=relayAll_perm t2 d<|SetTable.grown d.size;have X:=relayAll_fits t2 d<|SetTable.grown d.size;have O:=Hr (t:=t2) (es:=d) (n:=SetTable.grown d.size);generalize relayAll t2 d (SetTable.grown d.size)=r at p2 X O ⊢;have a9:r.1.size<=sizeLine:=by
     have:=p2.length_eq;rw[cF,cF]at this;rw[this];exact a5
    refine aB<|CV (s:={s with heap:=s.heap.update a<|Obj.putSet d t2,toks:=s.toks+1}) K rfl (aD ?_) a9;have g2:((s.heap.update a<|Obj.putSet d t2).update a<|Obj.putSet r.1 r.2.1).get? a=some {cls:=.type "set",data:=.set r.1 (ep+1+1) r.2.1}:=iI _ K rfl;obtain⟨M,N⟩:=T g2 p2 X (O.1.trans lt)<|O.2.elim (λz=>z.trans pt) id;exact q _ _ (a7.trans<|kT _ a _) M N
   .obtain⟨M,N⟩:=T K (kK _) ft lt pt;exact aD<|q _ _ a7 M N
  have out:∀(h':Heap)(a1:List Str),Heap.SameBut a s.heap h'->SSet w h' a a1->a1.Perm (x::ss)->wpAny (model prog w) A (pure true:Sem Bool) Q E {s with heap:=h',toks:=s.toks+1}:=λh' a1 sb S p=>aD<|hQ h' a1 true sb S (λz=>absurd z I) λ_=>p;have Y:∀p:Bool,({m with plain:=p}:SetTable).fits d.size=true:=λ_=>C;cases gv
  .refine aD ?_;cases hpl:m.plain with
   | true=>
    rw[aR rfl,hashByValue_scannable 8 rfl];refine aB<|aD ?_;refine H _ ?_ (t2:={m with plain:=false}) (Y false) o.1 rfl _ out;intro b Q s h;cases b
    .exact aD h
    .exact fN h
   | false=>
    rw[aK cA];refine aB<|aD ?_;refine H _ ?_ (t2:=m) C o.1 hpl _ out;intro b Q s h;cases b
    .exact aD h
    .exact fN h
  .refine fN ?_;cases hpl:m.plain with
   | true=>
    rw[aR rfl,hashByValue_scannable 8 rfl];refine aB<|aD ?_;refine H _ ?_ (t2:={m with plain:=false}) (Y false) o.1 rfl _ out;intro b Q s h;cases b
    .exact aD h
    .exact fN h
   | false=>
    rw[aK cA];refine aB<|aD ?_;refine H _ ?_ (t2:=m) C o.1 hpl _ out;intro b Q s h;cases b
    .exact aD h
    .exact fN h
def xE:plainId "set.update.loop"=true:=by rfl'
def GG:entryFor table "set.update.loop"=some Builtin.«set.update.loop»:=entryFor_of_fast (by kernel_rfl)
def SSet.at{w:World}{h h':Heap}{a:Addr}{ss:List Str}(S:SSet w h a ss)(k:∀o,h.get? a=some o->h'.get? a=some o):SSet w h' a ss:=by
 obtain⟨es,ep,t,h1,h2,i,e,f,d,b⟩:=S;exact⟨es,ep,t,k _ h1,h2,i,e,f,d,b⟩
def WB{R:Result->Shared->Prop}{D I:Addr}{fp h:List Addr}{xs:List Str}{St:Nat->Heap->Prop}(W:Walks prog w A.in1 I fp h ↑xs (λi v=>∃x tk,xs[i]?=some x/\v=.str x tk) St)(m:D∉fp)(hz:↑xs<1000):
  ∀(k i:Nat)(s:Shared)(ss:List Str),↑xs-i=k->i<=↑xs->St i s.heap->SSet w s.heap D ss->(∀x,x∈ss↔x∈xs.take i)->↑ss<=i->
  (∀h' tk ss',SSet w h' D ss'->(∀x,x∈ss'↔x∈xs)->(∀b o,b≠D->b∉h->s.heap.get? b=some o->h'.get? b=some o)->R (.ok<|.ret .none) {s with heap:=h',toks:=tk})->
  codeAny (model prog w) A (.builtin "set.update.loop" ⟨[.ref D,.ref I],[]⟩) R s:=by
 have l:D∉h:=λz=>m<|W.sub D z;intro k
 induction k with
 | zero=>
  intro i s ss K hi st S d hl f;have e:i=↑xs:=by lia
  subst e;refine jP GG ?_;rw[kI xE _];show wpAny _ A.in1 (pyNext (.ref I) >>= _) _ _ s;refine aB<|W.done s _ _ st λh' tk a=>aD<|f h' tk ss (S.at λo e=>a D o l e) ?_ λb o _ h2 e=>a b o h2 e;rw[dD<|aO _]at d;exact d
 | succ k ih=>
  intro i s ss K hi st S d hl f;have a1:i<↑xs:=by lia
  refine jP GG ?_;rw[kI xE _];show wpAny _ A.in1 (pyNext (.ref I) >>= _) _ _ s;refine aB<|W.item i s _ _ a1 st λv h' tk N B a=>?_;obtain⟨x,tx,C,rfl⟩:=N;show wpAny _ A.in1 (holding [.str x tx] _ >>= _) _ _ {s with heap:=h',toks:=tk};refine aB<|dP<|uQ (s:={s with heap:=h',toks:=tk}) (S.at λo e=>a D o l e) (by lia) λh2 E b j O p n=>?_;refine aD ⟨lX xE _,?_⟩;have eT:xs.take (i+1)=xs.take i++[x]:=by rw[dG,C];rfl
  refine ih (i+1) {s with heap:=h2,toks:=tk+1} E (by lia) a1 (W.frame _ _ _ B λb J o e=>j.extBut _ _ (λz=>m<|z▸J) e) O ?_ ?_ λG L r M H u=>?_
  .intro y;rw[eT,vj5,vh7,<-d y]
   by_cases e:x∈ss
   .rw[p e];exact⟨.inl,λz=>z.elim id λz=>z▸e⟩
   .rw[(n e).mem_iff,vh3];exact⟨λz=>z.symm,λz=>z.symm⟩
  .by_cases e:x∈ss
   .rw[p e];lia
   .rw[(n e).length_eq,cY];lia
  .exact f G L r M H λb o h1 q e=>u b o h1 q<|j.extBut _ _ h1<|a b o q e
def lZ{Q:Setting->Shared->Prop}(h:Q {program:=prog,params:=w.params} s):wpAny (model prog w) A ask Q E s:=λ_ _ _=>h
def QW{a:Value}{Q₁:Vp}(h:Q₁ (.ref s⁻¹) {s with heap:=s.heap.push<|hJ w}):
  codeAny (model prog w) A (.call (.builtin "set.__new__") ⟨[.type "set",a],[]⟩) (wants Q₁ E) s:=by
 refine codeAny_call_builtin F.plain_set_new F.entry_set_new ?_;have b:checkBuiltinCall "set.__new__" ⟨[.type "set",a],[]⟩=pure ():=by kernel_rfl
 rw[b];refine aD ?_;unfold Builtin.«set.__new__» Builtin.Frozenset.newClass;dsimp only;have e:isSubtype (.type "set") (.type "set")=pure true:=by(rw[gK];kernel_rfl)
 have d:isType (.type "set")=pure true:=by kernel_rfl
 rw[d];refine aB<|aB<|aD ?_;show wpAny _ _ (isSubtype (.type "set") (.type "set") >>= _) _ _ s;rw[e];refine aB<|aD<|aD ?_;show wpAny _ _ (newSet (.type "set") >>= _) _ _ s;unfold newSet setsByText;refine aB<|aB<|aB<|lZ<|aD ?_;show wpAny _ _ (newObj (.type "set")<|.set #[] 0 (SetTable.fresh 0 0<|!cV w)) _ _ s;refine fY ?_;exact aD h
def IT{D l:Addr}{T:String}{Q:PySem.Fin->Shared->Prop}(a:s.TypeIs (.ref l) T)(h1:isSubtype (.type T) (.type "set")=pure false)(h2:isSubtype (.type T) (.type "frozenset")=pure false)(j:(Value.type T == Value.type "dict")=false)
  (b:s.heap.get? D=some (hJ w))
  (h:wpAny (model prog w) A (pyIter<|.ref l) (λit d=>codeAny (model prog w) A (.builtin "set.update.loop" ⟨[.ref D,it],[]⟩) (wants (λ_ s2=>Q (.done<|.ret .none) s2) E) d) E s):
  wpAny (model prog w) A (Builtin.«set.__init__» ⟨[.ref D,.ref l],[]⟩) Q E s:=by
 have m:s.TypeIs (.ref D) "set":=⟨_,b,rfl⟩;unfold Builtin.«set.__init__»;dsimp only;refine aB<|aD ?_;have i:wpAny (model prog w) A (typeNameOfCut 200<|.ref D) (λx s'=>s'=s) E s:=by
  unfold typeNameOfCut
  repeat (any_goals (first | assumption | rfl | wp_step))
 refine aB<|aS i λx s' e=>?_;subst e;refine aB ?_;show wpAny _ _ (pure ()) _ _ _;refine aD ?_;show wpAny _ _ (setUsed D >>= _) _ _ _;unfold setUsed;refine aB<|aB<|dM b rfl rfl<|aD ?_;show wpAny _ _ (Builtin.Frozenset.updateFrom "set.__init__" D (.ref l) >>= _) _ _ _;unfold Builtin.Frozenset.updateFrom Builtin.Frozenset.isAnySet;refine aB<|aB ?_;show wpAny _ _ (isInstance (.ref l) (.type "set") >>= _) _ _ _;refine aB<|gZ a h1 ?_;show wpAny _ _ (isInstance (.ref l)<|.type "frozenset") _ _ _;refine gZ a h2 ?_;rw[aK cA];refine aB<|nB a ?_;rw[j,aK cA];refine aB<|aS h λit d h1=>?_;refine aB<|wpAny_runValue<|codeAny_mono h1 λr s2 q=>?_;cases r with
 | error e=>exact q
 | ok f=>
  cases f with
  | ret v=>exact aD<|aD q
  | _=>exact q
def UX{args:List Value}{Q Q₁:Vp}(h:checkTypeCall "set" ⟨args,[]⟩=pure ())
  (j:codeAny (model prog w) A.in1 (.call (.builtin "set.__new__") ⟨.type "set"::args,[]⟩) (wants Q₁ E) s)
  (hi:∀obj s₁,Q₁ obj s₁->s₁.TypeIs obj "set"/\wpAny (model prog w) A.in1 (call (.builtin "set.__init__")<|obj::args) (λr s'=>r=.none/\Q obj s') E s₁):wpAny (model prog w) A (call (.type "set") args) Q E s:=by
 have T:=F.called_set;obtain⟨c,tl,i⟩:=T.mro;refine wpAny_call<|codeAny_of_tree ?_;refine aD ⟨Code.quiet_builtin _ (by rfl'),jP F.entry_type_call ?_⟩;rw[Around.under_plain (weight_type_call_type _ _ _)<|units_type_call_type _ _ _];unfold Builtin.«type.__call__»;dsimp only;rw[T.notType];rw[aK cA];rw[aK<|by rw[T.canCreate];exact cA];rw[h];refine aB<|aD ?_;rw[i];refine aB<|aD ?_;show wpAny _ _ (Bind.madeBy (.type "set") >>= _) _ _ _;rw[T.made];refine aB<|aD ?_;dsimp only;refine aB<|aD ?_;refine aB<|dP<|wpAny_call<|codeAny_mono j λr a q=>?_;cases r with
 | error e=>exact q
 | ok f=>
  cases f with
  | ret obj=>
   have q:Q₁ obj a:=q;obtain⟨ty,b⟩:=hi obj a q;refine aB<|gZ ty T.sub ?_;show wpAny _ _ (holding [obj] (callSpecial? obj (Str.ofString "__init__") args []) >>= _) _ _ _;refine aB<|dP<|jD ty T.init<|aS b λr s2 ⟨e,d⟩=>?_;subst e;exact aD d
  | _=>exact q
abbrev dV(w:World)(a:Addr)(ss:List Str):HO:=.ext λh=>SSet w h a ss
def Gu{P:Program}{w:World}{H:Hp}{h:Heap}{a:Addr}{ss:List Str}(S:SSet w h a ss):ObjOk P w H h a (dV w a ss):=by
 refine⟨S,?_,λh1 h2 b k=>b.at k⟩;obtain⟨_,_,_,h1,_⟩:=S;exact⟨_,h1⟩
def OP(a:Value):checkTypeCall "set" ⟨[a],[]⟩=pure ():=by kernel_rfl
inductive jW(K:Fg)(w:World)(vs:List V)(H:Hp)(Q:VK):Prop
 | mk(p:Addr)(xs:List Str)(h1:vs=[.ref p])(h2:SqT K H p (xs.map V.str)\/SqL K H p (xs.map V.str))(h3:↑xs<1000)(q:∀l ss,H l=none->ss.Nodup->(∀x,x∈ss↔x∈xs)->Q (.ref l) (aA H l<|dV w l ss)):jW K w vs H Q
def SSet.nd{w:World}{h:Heap}{a:Addr}{ss:List Str}(S:SSet w h a ss):ss.Nodup:=by obtain⟨_,_,_,_,_,_,h,_⟩:=S;exact h
def BJ(P:X.calm=true):CallR X (.type "set") (jW X.K X.w):=by
 intro Z s σ H vs us Q I r h;obtain⟨p,xs,rfl,B,hz,q⟩:=h;obtain⟨u,rfl,rx⟩:=gY r;cases rx;have Y:H s⁻¹=none:=I.hok.fresh<|aO _;refine UX (OP _) (Q₁:=λv s1=>v=.ref s⁻¹/\s1={s with heap:=s.heap.push<|hJ X.w}) (QW ⟨rfl,rfl⟩) ?_;rintro _ _ ⟨rfl,rfl⟩;have n:(s.heap.push<|hJ X.w).get? s⁻¹=some (hJ X.w):=bY _ rfl;have N:SSet X.w (s.heap.push<|hJ X.w) s⁻¹ []:=⟨_,_,_,n,λe he=>by simp at he,rfl,kD,rfl,rfl,.inl rfl⟩;refine⟨⟨_,n,rfl⟩,wpAny_call<|codeAny_call_builtin F.slot_set_init.plain F.entry_set_init<|check_set_init_1 ⟨_,n,rfl⟩ ?_⟩;generalize hh1:s.heap.push (hJ X.w)=h1 at n N;have f:∀b o,s.heap.get? b=some o->h1.get? b=some o:=λb o e=>by rw[<-hh1];exact aZ _ e
 have l:h1.objs.size=s⁻¹+1:=by rw[<-hh1,jU]
 have last:∀(h':Heap)(tk:Nat)(ss:List Str),SSet X.w h' s⁻¹ ss->(∀x,x∈ss↔x∈xs)->(∀b o,s.heap.get? b=some o->h'.get? b=some o)->EP X Z σ Q (.ref s⁻¹) {s with heap:=h',toks:=tk}:=λh' tk ss S m k=>
  ⟨.ref s⁻¹,_,I.laid (t':=tk) k (aO _)<|Gu S,rfl,q _ _ Y S.nd m⟩
 rcases B with B | B
 .obtain⟨its,E,pt,a5⟩:=I.tuple B;have hl:=E.length;rw[aG]at hl;obtain⟨o,d,j⟩:=id pt;have a1:p<s⁻¹:=bA d;have G:h1.IsTuple p its.toArray:=⟨o,f _ _ d,j⟩;have tp:({s with heap:=h1}:Shared).TypeIs (.ref p) "tuple":=⟨o,f _ _ d,j.1⟩;refine IT (s:={s with heap:=h1}) (T:="tuple") tp (by(rw[gK];kernel_rfl)) (by(rw[gK];kernel_rfl)) (by decide) n ?_;refine yL (s:={s with heap:=h1}) G ?_;have W:=Walks.tuple (prog:=X.prog) (w:=X.w) (A:=X.A.in1.in1.in1) (I.ok.hd P) h1.objs.size p (bI<|by rw[l];exact jY a1) its.toArray;have M:its.toArray.size=↑xs:=by rw[cL,hl]
  rw[M]at W;have L:Walks X.prog X.w X.A.in1.in1.in1 h1.objs.size [h1.objs.size,p] [h1.objs.size] ↑xs (λi v=>∃x tk,xs[i]?=some x/\v=.str x tk) _:=W.weaken λi v a=>by
   have a:its[i]?=some v:=by simpa using a
   have hi:=(vg4.mp a).1;have C:xs[i]?=some (xs[i]'(by lia)):=bH _;obtain⟨u,O,t,rfl⟩:=E.get (i:=i) (by rw[bD,C];rfl);rw[O]at a;cases a;exact⟨_,t,C,rfl⟩
  have J:s⁻¹∉[h1.objs.size,p]:=by
   rw[l];intro z;rcases vh3.mp z with z | z
   .exact absurd z<|bI<|oB _
   .exact absurd (vh7.mp z)<|cQ a1
  refine WB L J hz ↑xs 0 _ [] (Nat.sub_zero _) (bO _) ⟨⟨_,bY _ rfl,rfl,rfl⟩,⟨o,aZ _<|f _ _ d,j⟩⟩ (N.at λo e=>aZ _ e) (by simp) (aO _) λh' tk ss S m k=>⟨rfl,?_⟩
  exact last h' tk ss S m λb o e=>k b o (bI<|bA e) (λz=>absurd (vh7.mp z)<|bI<|by rw[l];exact jY<|bA e)<|aZ _<|f _ _ e
 .obtain⟨its,E,pl,a5⟩:=I.list B;have hl:=E.length;rw[aG]at hl;obtain⟨o,d,j⟩:=id pl.isList;have a1:p<s⁻¹:=bA d;have G:h1.IsList p its.toArray:=⟨o,f _ _ d,j⟩;have tp:({s with heap:=h1}:Shared).TypeIs (.ref p) "list":=⟨o,f _ _ d,j.1⟩;refine IT (s:={s with heap:=h1}) (T:="list") tp (by(rw[gK];kernel_rfl)) (by(rw[gK];kernel_rfl)) (by decide) n ?_;refine zA (s:={s with heap:=h1}) G ?_;have W:=Walks.list (prog:=X.prog) (w:=X.w) (A:=X.A.in1.in1.in1) (I.ok.hd P) h1.objs.size p (bI<|by rw[l];exact jY a1) its.toArray;have M:its.toArray.size=↑xs:=by rw[cL,hl]
  rw[M]at W;have L:Walks X.prog X.w X.A.in1.in1.in1 h1.objs.size [h1.objs.size,p] [h1.objs.size] ↑xs (λi v=>∃x tk,xs[i]?=some x/\v=.str x tk) _:=W.weaken λi v a=>by
   have a:its[i]?=some v:=by simpa using a
   have hi:=(vg4.mp a).1;have C:xs[i]?=some (xs[i]'(by lia)):=bH _;obtain⟨u,O,t,rfl⟩:=E.get (i:=i) (by rw[bD,C];rfl);rw[O]at a;cases a;exact⟨_,t,C,rfl⟩
  have J:s⁻¹∉[h1.objs.size,p]:=by
   rw[l];intro z;rcases vh3.mp z with z | z
   .exact absurd z<|bI<|oB _
   .exact absurd (vh7.mp z)<|cQ a1
  refine WB L J hz ↑xs 0 _ [] (Nat.sub_zero _) (bO _) ⟨⟨_,bY _ rfl,rfl,rfl⟩,⟨o,aZ _<|f _ _ d,j⟩⟩ (N.at λo e=>aZ _ e) (by simp) (aO _) λh' tk ss S m k=>⟨rfl,?_⟩
  exact last h' tk ss S m λb o e=>k b o (bI<|bA e) (λz=>absurd (vh7.mp z)<|bI<|by rw[l];exact jY<|bA e)<|aZ _<|f _ _ e
def Bd:entryFor table "set.__iter__"=some Builtin.«frozenset.__iter__»:=xK (id':="frozenset.__iter__") (by kernel_rfl) rfl (by rfl') (by kernel_rfl)
def zs9:Slot "set_iterator" "__next__" "set_iterator.__next__":=
 .of (owner:="set_iterator") (n:="__next__") (by rw[lU,mO];kernel_rfl) (by rfl') (by rfl') (by rfl')
  (by first | exact .inl (by rfl') | exact .inr (by rfl')) (by rw[gK];kernel_rfl)
def Dv:entryFor table "set_iterator.__next__"=some Builtin.«set_iterator.__next__»:=entryFor_of_fast (by kernel_rfl)
def NY:Manifest.owners.lookup (String.ofList ['r','o','t','a','r','e','t','i','_','t','e','s'].reverse)=some Manifest.sig_set_iterator:=by kernel_rfl
def Af(a:Value):argsOk "set_iterator.__next__" ⟨[a],[]⟩:=by
 unfold argsOk;rw[BG (id:="set_iterator.__next__") (n:=['_','_','t','x','e','n','_','_']) (o:=['r','o','t','a','r','e','t','i','_','t','e','s']) (by kernel_rfl) NY];kernel_rfl
def VR:Slot "set_iterator" "__iter__" "set_iterator.__iter__":=
 .of (owner:="set_iterator") (n:="__iter__") (by rw[lU,mO];kernel_rfl) (by rfl') (by rfl') (by rfl')
  (by first | exact .inl (by rfl') | exact .inr (by rfl')) (by rw[gK];kernel_rfl)
def Fe:entryFor table "set_iterator.__iter__"=some Builtin.«dict_keyiterator.__iter__»:=xK (id':="dict_keyiterator.__iter__") (by kernel_rfl) rfl (by rfl') (by kernel_rfl)
def XE(a:Value):argsOk "set_iterator.__iter__" ⟨[a],[]⟩:=by
 unfold argsOk;rw[BG (id:="set_iterator.__iter__") (n:=['_','_','r','e','t','i','_','_']) (o:=['r','o','t','a','r','e','t','i','_','t','e','s']) (by kernel_rfl) NY];kernel_rfl
def AC(h:Heap)(I a:Addr)(f:Value)(i n ep:Nat):Prop:=h.get? I=some {cls:=.type "set_iterator",data:=.fields #[f,rawInt i,.ref a,rawInt n,rawInt ep]}
theorem LX{α:Type}:∀(l:List α)(i:Nat)(h:i<↑l),(l[i]::l.eraseIdx i).Perm l
 | x::l,0,_=>kK _
 | x::l,i+1,h=>by
  have p:=LX l i (by simpa using h);simp only[List.getElem_cons_succ,List.eraseIdx_cons_succ];exact(List.Perm.swap _ _ _).trans<|p.cons x
def Es{α:Type}(next:Nat->Nat):∀(n k:Nat)(l:List α)(out:Array α),↑l=n->(pickOrder.go next n k l out).toList.Perm (out.toList++l):=by
 intro n
 induction n with
 | zero=>
  intro k l out h;have e:l=[]:=vt4.mp h;subst e;rw[iA];exact kK _
 | succ n ih=>
  intro k l out h;unfold pickOrder.go;have hl:next k % ↑l<↑l:=Nat.mod_lt _ (by lia)
  rw[bH hl];dsimp only;refine(ih _ _ _<|by rw[MT hl];lia).trans ?_;rw[pG,dR];refine wM _ ?_;refine List.Perm.trans ?_<|LX _ _ hl;exact kK _
def GO{α:Type}(next:Nat->Nat)(xs:Array α):(pickOrder next xs).toList.Perm xs.toList:=by
 have h:=Es next xs.size 0 xs.toList #[] (by rw[cF])
 unfold pickOrder;simpa using h
def XW{n:Nat}{src:Source}{Q:Nat->Shared->Prop}(a:n≠0)(h:∀i d,i<n->Q i {s with drawn:=d}):wpAny (model prog w) A (choose src n) Q E s:=λ_ _ _=>⟨a,h _ _<|Nat.mod_lt _<|Nat.pos_of_ne_zero a⟩
def WQ{α:Type}:∀(n:Nat)(xs:List α)(s:Shared)(Q:List α->Shared->Prop),↑xs=n->(∀ys d,ys.Perm xs->Q ys {s with drawn:=d})->wpAny (model prog w) A (drawOrder n xs) Q E s:=by
 intro n
 induction n with
 | zero=>
  intro xs s Q h q;have e:xs=[]:=vt4.mp h;subst e;exact aD<|q [] s.drawn<|kK _
 | succ n ih=>
  intro xs s Q h q;cases xs with
  | nil=>simp at h
  | cons x xs=>
   show wpAny _ _ (choose .order ↑(x::xs) >>= _) _ _ _;refine aB<|XW (by simp) λi d hi=>?_;rw[bH hi];dsimp only;refine aB<|ih _ _ _ (by rw[MT hi];lia) λys a p=>?_;exact aD<|q _ _<|(p.cons _).trans<|LX _ _ hi
def NM{I:Addr}{α:Type}{s0:Shared}{Q:α->Shared->Prop}(d:A.handled=none)(b:Heap.ExtBut I s0.heap s.heap)
  (f:∀a h',Heap.ExtBut I s0.heap h'->({s with heap:=h'}:Shared).TypeIs a "StopIteration"->E a {s with heap:=h'}):wpAny (model prog w) A (newExc (.type "StopIteration") [] >>= λe=>(raiseNew e:Sem α)) Q E s:=by
 refine aB ?_;simp only[newExc,newTuple];refine aB (fY ?_<|by size_fits);refine aB (m:=firstArgMember _ _)<|sO (a:=Value.none) (by first | rfl | (simp only[firstArgMember];rfl)) ?_;refine fY ?_ (by size_fits);simp only[raiseNew];refine aB<|wpAny_handled ?_;rw[d];refine aB<|aD<|wpAny_throw ?_;exact f _ _ ((b.push _).push _) ⟨_,bY _ rfl,rfl⟩
def wB{I a:Addr}{f:Value}{i n ep:Nat}{es:Array (Int×Value)}{t:SetTable}{Q:Option Value->Shared->Prop}(M:A.handled=none)(h:AC s.heap I a f i n ep)(ha:s.heap.get? a=some {cls:=.type "set",data:=.set es ep t})(B:t.fits es.size=true)(O:es.size=n)
  (P:∀slot,f=rawInt slot->wpAny (model prog w) A.in1 (setNext a slot.toNat i ep) (λr m=>m=s/\match r with
   | some (x,nx)=>∀h',AC h' I a (rawInt nx) (i+1) n ep->Heap.ExtBut I s.heap h'->Q (some x) {s with heap:=h'}
   | none=>∀h',Heap.ExtBut I s.heap h'->Q none {s with heap:=h'}) (λ_ _=>False) s)
  (K:(∃slot,f=rawInt slot)\/∃(T:Addr)(ps:List Nat),f=.ref T/\s.heap.IsTuple T (ps.map λ(j:Nat)=>rawInt j).toArray/\
   (∀p,ps[i]?=some p->∃e:Int×Value,es[p]?=some e/\∀h',AC h' I a f (i+1) n ep->Heap.ExtBut I s.heap h'->Q (some e.2) {s with heap:=h'})/\
   (ps[i]?=none->∀h',Heap.ExtBut I s.heap h'->Q none {s with heap:=h'})):wpAny (model prog w) A (pyNext (.ref I)) Q E s:=by
 have G:s.TypeIs (.ref I) "set_iterator":=⟨_,h,rfl⟩;unfold pyNext;refine aB<|kY<|jD (name:=Str.ofString "__next__") G zs9<|fO zs9 G Dv ?_<|Af _
 unfold Builtin.«set_iterator.__next__»;refine aB<|sO (a:=(Value.ref I,[])) rfl ?_;dsimp only;refine aB<|wpAny_fieldsOf h rfl ?_;show wpAny _ _ (setEntries a >>= _) _ _ s;unfold setEntries;refine aB<|aB<|dM ha rfl B<|aD ?_;dsimp only;have J:((es.size:Int) != ((n:Nat):Int))=false:=by rw[O];simp
 rw[aK<|by rw[J];exact cA];have stop:∀h',Heap.ExtBut I s.heap h'->(∀h',Heap.ExtBut I s.heap h'->Q none {s with heap:=h'})->∀(C:PySem.Fin->Shared->Prop)(u:Vp),(∀a h',Heap.ExtBut I s.heap h'->({s with heap:=h'}:Shared).TypeIs a "StopIteration"->u a {s with heap:=h'})->wpAny (model prog w) A.in1 (newExc (.type "StopIteration") [] >>= λe=>(raiseNew e:Sem PySem.Fin)) C u {s with heap:=h'}:=λh' k q C u W=>NM (s:={s with heap:=h'}) (s0:=s) M k W;rcases K with ⟨slot,rfl⟩ | ⟨T,ps,rfl,tT,hp,hp0⟩
 .show wpAny _ _ (setNext a slot.toNat ((i:Int)).toNat ((ep:Int)).toNat >>= _) _ _ s;simp only[lD];refine aB<|fM (P slot rfl) ?_ λ_ _ z=>z.elim;rintro r m ⟨rfl,q⟩;cases r with
  | none=>
   dsimp only at q ⊢;refine aB<|iM h (by simp) λh1 l d=>?_;refine stop h1 d.extBut q _ _ λa h' k ty=>?_;refine aB<|gZ (T:="StopIteration") (b:=true) ty vN ?_;exact aD<|q h' k
  | some p=>
   obtain⟨x,nx⟩:=p;dsimp only at q ⊢;refine aB<|iM h (by simp) λh1 l d=>?_;refine aB<|iM (s:={m with heap:=h1}) l (by simp) λh2 H a1=>?_;refine aD ⟨x,rfl,aD<|q h2 ?_ (d.trans a1).extBut⟩;exact H
 .obtain⟨o,N,Y,Z,L⟩:=id tT;show wpAny _ _ (seqItems? (.ref T) >>= _) _ _ s;refine aB<|jF N L ?_;dsimp only;simp only[lD];cases hq:ps[i]? with
  | none=>
   have v:(ps.map λ(j:Nat)=>rawInt j).toArray[i]?=none:=by simp[hq]
   rw[v];dsimp only;refine aB<|iM h (by simp) λh1 l d=>?_;refine aB<|iM (s:={s with heap:=h1}) l (by simp) λh2 H a1=>?_;refine stop h2 (d.trans a1).extBut (hp0 hq) _ _ λa h' k ty=>?_;refine aB<|gZ (T:="StopIteration") (b:=true) ty vN ?_;exact aD<|hp0 hq h' k
  | some p=>
   have v:(ps.map λ(j:Nat)=>rawInt j).toArray[i]?=some (rawInt p):=by simp[hq]
   rw[v];show wpAny _ _ (setNextDrawn a ((p:Int)).toNat ((ep:Int)).toNat >>= _) _ _ s;simp only[lD];obtain⟨e,X,q⟩:=hp p hq;unfold setNextDrawn;refine aB<|aB<|dM ha rfl B ?_;dsimp only;rw[aK<|by simp];rw[X];refine aB<|aD<|aD ?_;refine aB<|iM h (by simp) λh1 l d=>?_;exact aD ⟨e.2,rfl,aD<|q h1 l d.extBut⟩
def zI(ys:List Str)(i:Nat)(v:Value):Prop:=∃x tk,ys[i]?=some x/\v=.str x tk
def StS(I a:Addr)(es:Array (Int×Value))(ep:Nat)(t:SetTable)(first:Nat->Value)(i:Nat)(h:Heap):Prop:=AC h I a (first i) i es.size ep/\h.get? a=some {cls:=.type "set",data:=.set es ep t}
def StS.at{I a:Addr}{es:Array (Int×Value)}{ep:Nat}{t:SetTable}{first:Nat->Value}{i:Nat}{h h':Heap}{fp:List Addr}(x:StS I a es ep t first i h)(h1:I∈fp)(h2:a∈fp)(k:∀b∈fp,∀o,h.get? b=some o->h'.get? b=some o):StS I a es ep t first i h':=⟨k _ h1 _ x.1,k _ h2 _ x.2⟩
def WL{t:SetTable}{n:Nat}(h:t.fits n=true):t.place.size=n:=by
 unfold SetTable.fits at h;simp at h;exact h.1
section
variable{a I:Addr}{es:Array (Int×Value)}{ep:Nat}{t:SetTable}
def oZ{slot i:Nat}{Q:Option (Value×Nat)->Shared->Prop}(d:cV w=true)(ha:s.heap.get? a=some {cls:=.type "set",data:=.set es ep t})(b:t.fits es.size=true)
  (h:Q (((pickOrder (w.params.setOrder a ep) es)[i]?).map λe=>(e.2,slot)) s):wpAny (model prog w) A (setNext a slot i ep) Q E s:=by
 unfold setNext;refine aB<|dM ha rfl b ?_;unfold setsByText;refine aB<|aB<|lZ<|aD ?_;show wpAny _ _ (if cV w=true then _ else _) _ _ s;rw[aR d];rw[aK<|by simp];unfold setWalk;refine aB<|aB<|dM ha rfl b ?_;unfold setsByText;refine aB<|aB<|lZ<|aD ?_;show wpAny _ _ (if cV w=true then _ else _) _ _ s;rw[aR d];refine aB<|lZ<|aD ?_;exact aD h
def pK{slot i:Nat}{Q:Option (Value×Nat)->Shared->Prop}(d:cV w=false)(h1:es.size<=1)(hl:t.led=true)(ha:s.heap.get? a=some {cls:=.type "set",data:=.set es ep t})(b:t.fits es.size=true)
  (h:Q (match es[SetTable.below t.place slot]?,t.place[SetTable.below t.place slot]? with
   | some (_,x),some j=>some (x,j+1)
   | _,_=>none) s):wpAny (model prog w) A (setNext a slot i ep) Q E s:=by
 unfold setNext;refine aB<|dM ha rfl b ?_;unfold setsByText;refine aB<|aB<|lZ<|aD ?_;show wpAny _ _ (if cV w=true then _ else _) _ _ s;rw[aK<|by rw[d];exact cA];show wpAny _ _ (if (!t.plain && decide (es.size > 1))=true then _ else _) _ _ s;rw[aK<|by simp;intro _;lia];refine aB (m:=if (!t.led && !es.isEmpty)=true then unsupported "set:maker-not-led" else pure ()) ?_;rw[aK<|by rw[hl];simp];exact aD<|aD h
def LN{f:Value}{i n:Nat}{Q:Vp}(d:AC s.heap I a f i n ep)(h:Q (.ref I) s):wpAny (model prog w) A (pyIter<|.ref I) Q E s:=by
 have b:s.TypeIs (.ref I) "set_iterator":=⟨_,d,rfl⟩;refine EH b VR<|fO VR b Fe ?_<|XE _;show wpAny _ _ (ret<|.ref I) _ _ s;exact aD ⟨_,rfl,"set_iterator",_,b,zs9.lookup,h⟩
def NE{es:Array (Int×Value)}{e:Int×Value}(b:∀e∈es.toList,lG w e)(a:e∈es.toList):∃tk,e.2=.str (eJ e) tk:=by
 obtain⟨x,tk,rfl⟩:=b e a;exact⟨tk,rfl⟩
def BR(m:A.handled=none)(r:a≠I)(l:cV w=true)(j:t.fits es.size=true)(q:∀e∈es.toList,lG w e):
  Walks prog w A I [I,a] [I] es.size (zI<|(pickOrder (w.params.setOrder a ep) es).toList.map eJ) (StS I a es ep t λ_=>rawInt 0) where
 sub:=λb d=>by simp at d;simp[d]
 frame:=λi h h' st n=>st.at (by simp) (by simp) n
 item:=λi s Q E hi st f=>by
  have p:=GO (w.params.setOrder a ep) es;refine wB m st.1 st.2 j rfl (λslot e=>?_)<|.inl ⟨0,rfl⟩;cases e;refine oZ l st.2 j ⟨rfl,?_⟩;have hz:i<(pickOrder (w.params.setOrder a ep) es).size:=by
   have:=p.length_eq;rw[cF,cF]at this;rw[this];exact hi
  rw[gJ hz];show ∀h',_->_->_;intro h' a1 k;obtain⟨tk,e⟩:=NE q<|p.mem_iff.mp (by simp:(pickOrder (w.params.setOrder a ep) es)[i]∈_);refine f _ h' s.toks ⟨eJ (pickOrder (w.params.setOrder a ep) es)[i],tk,?_,e⟩ ⟨a1,k a _ r st.2⟩ λb o d e=>k b o (λz=>d<|by simp[z]) e
  rw[bD,iF,gJ hz];rfl
 done:=λs Q E st f=>by
  have p:=GO (w.params.setOrder a ep) es;refine wB m st.1 st.2 j rfl (λslot e=>?_)<|.inl ⟨0,rfl⟩;cases e;refine oZ l st.2 j ⟨rfl,?_⟩;have hz:(pickOrder (w.params.setOrder a ep) es)[es.size]?=none:=by
   rw[ug4];have:=p.length_eq;rw[cF,cF]at this;lia
  rw[hz];exact λh' k=>f h' s.toks λb o d e=>k b o (λz=>d<|by simp[z]) e
 self:=λ_ _ _ _ st f=>LN st.1 f
def CW(r:A.handled=none)(C:a≠I)(q:cV w=false)(h1:es.size<=1)(hl:t.led=true)(f:t.fits es.size=true)(B:∀e∈es.toList,lG w e):
  Walks prog w A I [I,a] [I] es.size (zI<|es.toList.map eJ) (StS I a es ep t λi=>rawInt (if i=0 then(0:Nat) else t.place.getD 0 0+1:Nat)) where
 sub:=λb d=>by simp at d;simp[d]
 frame:=λi h h' st v=>st.at (by simp) (by simp) v
 item:=λi s Q E hi st j=>by
  have x:i=0:=by lia
  subst x;have l:=WL f;refine wB r st.1 st.2 f rfl (λslot e=>?_)<|.inl ⟨_,rfl⟩;have u:slot=0:=by injection e with e;exact e.symm
  subst u;refine pK q h1 hl st.2 f ⟨rfl,?_⟩;have hz:es.size=1:=by lia
  have d:SetTable.below t.place 0=0:=by
   unfold SetTable.below;rw[l,hz];simp[SetTable.below.go]
  have p:es[0]?=some (es[0]'hi):=gJ _;have m:t.place[0]?=some (t.place.getD 0 0):=by
   rw[gJ<|by lia];simp[Array.getD,l,hz]
  rw[show(0:Int).toNat=0 from rfl,d,p,m];show ∀h',_->_->_;intro h' a1 k;obtain⟨tk,e⟩:=NE B (by simp:es[0]∈_);refine j _ h' s.toks ⟨eJ es[0],tk,?_,e⟩ ⟨a1,k a _ C st.2⟩ λb o d e=>k b o (λz=>d<|by simp[z]) e
  rw[bD,iF,p];rfl
 done:=λs Q E st j=>by
  have l:=WL f;refine wB r st.1 st.2 f rfl (λslot e=>?_)<|.inl ⟨_,rfl⟩;refine pK q h1 hl st.2 f ⟨rfl,?_⟩;have hz:es[SetTable.below t.place slot.toNat]?=none:=by
   rw[ug4];injection e with e;subst e;simp only[lD]
   by_cases z:es.size=0
   .rw[z];exact bO _
   .have n:es.size=1:=by lia
    rw[aK z,n];unfold SetTable.below;rw[l,n];have m:t.place[0]?=some (t.place[0]'(by lia)):=gJ _;simp[SetTable.below.go,m]
  rw[hz];exact λh' k=>j h' s.toks λb o d e=>k b o (λz=>d<|by simp[z]) e
 self:=λ_ _ _ _ st j=>LN st.1 j
def AK{T:Addr}{ps:List Nat}(v:A.handled=none)(a1:a≠I)(G:T≠I)(m:ps.Perm (List.range es.size))(n:t.fits es.size=true)(C:∀e∈es.toList,lG w e):
  Walks prog w A I [I,a,T] [I] es.size (zI<|ps.map λp=>eJ<|es.getD p default) (λi h=>StS I a es ep t (λ_=>.ref T) i h/\h.IsTuple T (ps.map λ(j:Nat)=>rawInt j).toArray) where
 sub:=λb d=>by simp at d;simp[d]
 frame:=λi h h' st q=>⟨st.1.at (by simp) (by simp) q,let ⟨o,ho,r⟩:=st.2;⟨o,q T (by simp) o ho,r⟩⟩
 item:=λi s Q E hi st f=>by
  have hz:=m.length_eq;rw[lR]at hz;have keep:∀h',Heap.ExtBut I s.heap h'->h'.IsTuple T (ps.map λ(j:Nat)=>rawInt j).toArray:=λh' k=>let ⟨o,ho,r⟩:=st.2;⟨o,k T o G ho,r⟩
  refine wB v st.1.1 st.1.2 n rfl (λslot e=>by cases e)<|.inr ⟨T,ps,rfl,st.2,λp l=>?_,λx=>?_⟩
  .have u:p<es.size:=vt7.mp<|m.mem_iff.mp<|cX l;refine⟨es[p],gJ u,λh' B k=>?_⟩;obtain⟨tk,e⟩:=NE C (by simp:es[p]∈_);refine f _ h' s.toks ⟨eJ es[p],tk,?_,e⟩ ⟨⟨B,k a _ a1 st.1.2⟩,keep h' k⟩ λb o d e=>k b o (λz=>d<|by simp[z]) e
   rw[bD,l];simp[Array.getD,u]
  .rw[List.getElem?_eq_none_iff]at x;lia
 done:=λs Q E st f=>by
  have hz:=m.length_eq;rw[lR]at hz;refine wB v st.1.1 st.1.2 n rfl (λslot e=>by cases e)<|.inr ⟨T,ps,rfl,st.2,λp l=>?_,λx=>?_⟩
  .have:=(vg4.mp l).1;lia
  .exact λh' k=>f h' s.toks λb o d e=>k b o (λz=>d<|by simp[z]) e
 self:=λ_ _ _ _ st f=>LN st.1.1 f
def Fh{es:Array (Int×Value)}{ps:List Nat}(a:ps.Perm (List.range es.size)):(ps.map λp=>eJ<|es.getD p default).Perm (es.toList.map eJ):=by
 refine(a.map _).trans ?_;have e:(List.range es.size).map (λp=>eJ<|es.getD p default)=es.toList.map eJ:=by
  refine List.ext_getElem (by simp) λi h1 h2=>?_
  simp at h1 h2;simp[Array.getD,h1]
 rw[e]
def ZK{ss:List Str}{Q:Vp}(S:SSet w s.heap a ss)(hz:↑ss<1000)
  (x:∀(I:Addr)(h':Heap) d (ys:List Str) (fp:List Addr) (St:Nat->Heap->Prop),ys.Perm ss->(∀b o,s.heap.get? b=some o->h'.get? b=some o)->(∀b∈fp,b=a\/s⁻¹<=b)->s⁻¹<=I->(∀m:Around,m.handled=none->Walks prog w m I fp [I] ↑ys (zI ys) St)->St 0 h'->Q (.ref I) {s with heap:=h',drawn:=d}):
  wpAny (model prog w) A (pyIter<|.ref a) Q E s:=by
 obtain⟨es,ep,t,h1,h2,v,J,l,G,r⟩:=S;have C:s.TypeIs (.ref a) "set":=⟨_,h1,rfl⟩;have ha:a<s⁻¹:=bA h1;have hsz:es.size=↑ss:=by rw[v,aG,cF]
 refine EH C F.slot_set_iter<|fO F.slot_set_iter C Bd ?_<|F.args_set_iter_1 _;unfold Builtin.«frozenset.__iter__»;refine aB<|sO (a:=a) rfl ?_;unfold Builtin.Frozenset.sizeOf setEntries;refine aB<|aB<|aB<|dM h1 rfl l<|aD<|aD ?_;dsimp only;unfold setDrawn;refine aB<|aB<|dM h1 rfl l ?_;unfold setsByText;refine aB<|aB<|lZ<|aD<|aD ?_;show wpAny _ _ (if (!cV w && (!t.plain && decide (es.size > 1)))=true then _ else _) _ _ s;unfold setEpoch
 by_cases f:(!cV w && (!t.plain && decide (es.size > 1)))=true
 .rw[aR f];refine aB<|WQ es.size (List.range es.size) s _ lR λps d B=>?_;have z:=B.length_eq;rw[lR]at z;unfold newTuple;refine aB<|fY ?_ (by show(ps.map _).toArray.size<=_;rw[cL,aG,z,hsz];exact cM<|bN<|cM hz);refine aB<|aB<|dM (s:={s with heap:=s.heap.push _,drawn:=d}) (aZ _ h1) rfl l<|aD ?_;unfold newFields;refine aB<|fY ?_;refine aD ⟨_,rfl,"set_iterator",_,⟨_,bY _ rfl,rfl⟩,zs9.lookup,?_⟩;have u:(s.heap.push {cls:=.type "tuple",data:=.seq (ps.map λ(i:Nat)=>rawInt i).toArray}).objs.size=s⁻¹+1:=jU ..;refine x _ _ d (ps.map λp=>eJ<|es.getD p default) [(s.heap.push {cls:=.type "tuple",data:=.seq (ps.map λ(i:Nat)=>rawInt i).toArray}).objs.size,a,s⁻¹] (λi h=>StS (s.heap.push {cls:=.type "tuple",data:=.seq (ps.map λ(i:Nat)=>rawInt i).toArray}).objs.size a es ep t (λ_=>.ref s⁻¹) i h/\h.IsTuple s⁻¹ (ps.map λ(j:Nat)=>rawInt j).toArray) (v▸Fh B) (λb o e=>aZ _<|aZ _ e) ?_ (by rw[u];exact vC _) (λm n=>?_) ⟨⟨?_,?_⟩,?_⟩
  .intro b f;rcases vh3.mp f with rfl | f
   .exact .inr (by rw[u];exact vC _)
   .rcases vh3.mp f with rfl | f
    .exact .inl rfl
    .exact .inr<|Nat.le_of_eq (vh7.mp f).symm
  .have W:=AK (prog:=prog) (w:=w) (A:=m) (a:=a) (I:=(s.heap.push {cls:=.type "tuple",data:=.seq (ps.map λ(i:Nat)=>rawInt i).toArray}).objs.size) (es:=es) (ep:=ep) (t:=t) (T:=s⁻¹) n (bI<|by rw[u];exact jY ha) (bI<|by rw[u];exact oB _) B l h2;have q:↑(ps.map λp=>eJ<|es.getD p default)=es.size:=by rw[aG,z]
   rw[q];exact W
  .exact bY _ rfl
  .exact aZ _<|aZ _ h1
  .exact⟨_,aZ _<|bY _ rfl,rfl,_,rfl⟩
 .rw[aK f];refine aB<|aD ?_;refine aB<|aB<|dM h1 rfl l<|aD ?_;unfold newFields;refine aB<|fY ?_;refine aD ⟨_,rfl,"set_iterator",_,⟨_,bY _ rfl,rfl⟩,zs9.lookup,?_⟩;have a1:∀b∈[s⁻¹,a],b=a\/s⁻¹<=b:=by
   intro b f;rcases vh3.mp f with rfl | f
   .exact .inr<|aO _
   .exact .inl<|vh7.mp f
  cases ht:cV w with
  | true=>
   have p:=GO (w.params.setOrder a ep) es;refine x _ _ s.drawn ((pickOrder (w.params.setOrder a ep) es).toList.map eJ) [s⁻¹,a] (StS s⁻¹ a es ep t λ_=>rawInt 0) (v▸p.map eJ) (λb o e=>aZ _ e) a1 (aO _) (λm n=>?_) ⟨bY _ rfl,aZ _ h1⟩;have q:↑((pickOrder (w.params.setOrder a ep) es).toList.map eJ)=es.size:=by rw[aG,p.length_eq,cF]
   rw[q];exact BR n (bI ha) ht l h2
  | false=>
   have hl:t.led=true:=by rw[G,ht];rfl
   have H:es.size<=1:=by
    rcases r with r | r
    .rw[hsz,r];exact bO _
    .rw[ht,r]at f;simp at f;exact f
   refine x _ _ s.drawn (es.toList.map eJ) [s⁻¹,a] (StS s⁻¹ a es ep t λi=>rawInt (if i=0 then(0:Nat) else t.place.getD 0 0+1:Nat)) (v▸kK _) (λb o e=>aZ _ e) a1 (aO _) (λm n=>?_) ⟨bY _ rfl,aZ _ h1⟩;have q:↑(es.toList.map eJ)=es.size:=by rw[aG,cF]
   rw[q];exact CW n (bI ha) ht H hl l h2
end
def Fo{r:Addr}{Q:Bool->Shared->Prop}(a:s.TypeIs (.ref r) "set")(h:Q false s):wpAny (model prog w) A (Builtin.List.listLengthHint<|.ref r) Q E s:=by
 unfold Builtin.List.listLengthHint;refine aB<|kE a F.slot_set_len.lookup ?_;generalize hid:("set.__len__":String)=a1
 wp_delta
 rw[show splitId a1=some ("set","__len__") from by subst hid;rfl'];subst hid;refine aB<|gZ (T:="set") (b:=true) a (by rw[gK];kernel_rfl) ?_;refine hC (λd=>absurd d<|by decide) λ_=>?_;refine hC (λ_=>?_) λd=>absurd (by rfl') d;refine aB<|nB a ?_;exact aD h
def Gk{ys:List Str}:∀{acc:List Value}{n:Nat},n+↑acc=↑ys->(∀j v,acc[j]?=some v->zI ys (n+j) v)->StrsAre acc (ys.drop n):=by
 intro acc
 induction acc with
 | nil=>
  intro n h _;rw[List.drop_eq_nil_of_le<|by simp at h;lia];exact .nil
 | cons v acc ih=>
  intro n h p;obtain⟨x,tk,a,rfl⟩:=p 0 v rfl;have b:n<↑ys:=by simp at h;lia
  rw[Nat.add_zero]at a;have e:ys.drop n=x::ys.drop (n+1):=by
   rw[DS b];rw[bH b]at a;cases a;rfl
  rw[e];refine .cons x tk<|ih (n:=n+1) (by simp at h;lia) λj v d=>?_;have:=p (j+1) v (by simpa using d);rwa [show n+(j+1)=n+1+j by lia]at this
def Cl{a:Addr}{ss:List Str}{Q:List Value->Shared->Prop}(M:A.handled=none)(S:SSet w s.heap a ss)(hz:↑ss<1000)
  (P:∀h' d tk vs ys,ys.Perm ss->StrsAre vs ys->(∀b o,s.heap.get? b=some o->h'.get? b=some o)->s⁻¹<h'.objs.size->Q vs {s with heap:=h',drawn:=d,toks:=tk}):wpAny (model prog w) A (collect<|.ref a) Q E s:=by
 have ha:a<s⁻¹:=by obtain⟨_,_,_,h1,_⟩:=S;exact bA h1
 unfold collect;refine aB<|wpAny_runValue<|jP F.entry_proto_collect ?_;rw[kI F.plain_proto_collect _];show wpAny _ A.in1 (newList [] >>= λl=>again<|.builtin "list.__iadd__" ⟨[l,.ref a],[]⟩) _ _ s;refine aB<|fY ?_;refine aD ⟨lX GX _,jP F.entry_list_iadd ?_⟩;rw[kI GX _];have C:SSet w (s.heap.push {cls:=.type "list",data:=.seq ([]:List Value).toArray}) a ss:=S.at λo e=>aZ _ e;have Y:(s.heap.push {cls:=.type "list",data:=.seq ([]:List Value).toArray}).get? s⁻¹=some {cls:=.type "list",data:=.seq ([]:List Value).toArray}:=bY _ rfl;have T:(s.heap.push {cls:=.type "list",data:=.seq ([]:List Value).toArray}).objs.size=s⁻¹+1:=jU ..;have K:∀s':Shared,SSet w s'.heap a ss->s'.TypeIs (.ref a) "set":=λs' S=>by obtain⟨_,_,_,h1,_⟩:=S;exact⟨_,h1,rfl⟩
 show wpAny _ A.in1 (Builtin.List.listExtendWith (.ref s⁻¹) (.ref a)<|.ref s⁻¹) _ _ _;unfold Builtin.List.listExtendWith;refine aB<|nB (K _ C) ?_;have h1:Builtin.List.listSameRef (.ref s⁻¹) (.ref a)=false:=by
  have:s⁻¹≠a:=cQ ha;simp[Builtin.List.listSameRef,this]
 have h2:(Value.type "set" == Value.type "list")=false:=by decide
 have h3:(Value.type "set" == Value.type "tuple")=false:=by decide
 simp only[h1,h2,h3,Bool.or_false,lB,gI];refine aB<|ZK (s:={s with heap:=s.heap.push {cls:=.type "list",data:=.seq ([]:List Value).toArray}}) C hz λI h' d ys fp St p k B u W st=>?_;dsimp only at k B u ⊢;rw[T]at B u;have J:s⁻¹∉fp:=λm=>by
  rcases B _ m with e | e
  .exact absurd e<|cQ ha
  .exact absurd e<|Nat.not_le_of_gt<|oB _
 refine aB<|dP<|Fo (K _<|C.at λo e=>k a o e) ?_;have hl:=p.length_eq;have f:∀(h2:Heap)(G:Nat),St 0 h2->(∀b o,b≠s⁻¹->s.heap.get? b=some o->h2.get? b=some o)->h2.get? s⁻¹=some {cls:=.type "list",data:=.seq #[] G}->
   codeAny (model prog w) A (.builtin "list.extend.loop" ⟨[.ref s⁻¹,.ref I,.ref s⁻¹],[]⟩) (λr s'=>match r with
    | .ok (.ret v)=>wpAny (model prog w) A (match v with
      | .ref a=>do
       match (<-load a).data with
        | .seq xs _=>pure xs.toList
        | _=>unsupported "internal:collect"
      | _=>unsupported "internal:collect") Q E s'
    | .ok _=>False
    | .error e=>E e s') {s with heap:=h2,drawn:=d}:=by
  intro h2 G X Z g2;refine codeAny_extend_loopS (W A.in1 M).toS (by rw[hl];exact cM<|bN<|by lia) _ J _ ↑ys 0 {s with heap:=h2,drawn:=d} #[] G rfl (bO _) X g2 (ItemsOf.nil _) λs' a1 c' m O L=>?_
  show wpAny _ A (load s⁻¹ >>= _) _ _ s';refine aB<|wpAny_load O ?_;have q:StrsAre a1.toList ys:=by
   have h:=Gk (ys:=ys) (acc:=a1.toList) (n:=0) (by rw[mL,cF];exact L.1) λj v hj=>by
    rw[mL];exact L.2 j v (by simpa using hj)
   exact h
  have hsz:=bA O;rw[Moved.eq_with m]at hsz ⊢;refine aD<|P _ d _ _ ys p q (λb o e=>m.heap b o (λz=>?_)<|Z b o (bI<|bA e) e) hsz;rcases vh3.mp z with z | z
  .exact absurd z<|bI<|bA e
  .rw[vh7.mp z]at e;exact absurd (bA e)<|Nat.not_lt_of_le<|Nat.le_of_succ_le u
 have x:=k _ _ Y;refine hC (λ_=>?_) λ_=>aD ⟨lX vU _,f _ 0 st (λb o _ e=>k b o<|aZ _ e) x⟩;refine aB<|fN ?_;refine aB ?_;show wpAny _ _ (updateSeq s⁻¹ (·.push .none) >>= λ_=>updateSeq s⁻¹ (·.pop)) _ _ _;refine aB<|wF x rfl ?_;have H:=iI (Obj.mapSeq (·.push Value.none)) x rfl;refine wF (hz:=by seq_fits) H rfl ?_;have a9:=iI (Obj.mapSeq (·.pop)) H rfl;refine aD ⟨lX vU _,f _ _ ?_ (λb o i e=>?_) a9⟩
 .refine(W A.in1 M).frame 0 _ _ st λb i o e=>?_;have N:b≠s⁻¹:=λh=>J<|h▸i;exact(kM _ _<|cW N).trans<|(kM _ _<|cW N).trans e
 .exact(kM _ _<|cW i).trans ((kM _ _<|cW i).trans<|k b o<|aZ _ e)
def Cv{a:Addr}{ss:List Str}{Q:Vp}(C:A.handled=none)(S:SSet w s.heap a ss)(hz:↑ss<64)
  (u:∀h' d tk l e f ys,ys.Perm ss->sortedS ys=true->StrsAre f ys->(∀b o,s.heap.get? b=some o->h'.get? b=some o)->s⁻¹<=l->h'.get? l=some (seqObj "list" f.toArray e)->Q (.ref l) {s with heap:=h',drawn:=d,toks:=tk}):
  wpAny (model prog w) A (call (.builtin "sorted") [.ref a]) Q E s:=by
 refine GI kind_sorted plain_sorted entry_sorted (args_sorted1 _) ?_;unfold Builtin.«sorted»;refine aB (m:=checkCount "sorted" 1 1 _)<|aD ?_;refine aB<|Cl C S (by lia) λh1 d tk f ys p h k hsz=>?_;have hl:↑f=↑ys:=by
  clear p
  induction h with
  | nil=>rfl
  | cons _ _ _ ih=>simp[ih]
 have G:↑f<64:=by rw[hl,p.length_eq];exact hz
 refine aB (wpAny_newList ?_<|by rw[kR];lia);have i:(h1.push<|seqObj "list" f.toArray 0).get? h1.objs.size=some (seqObj "list" f.toArray 0):=bY _ rfl;refine aB<|dP<|fO slot_list_sort (s:={s with heap:=h1.push<|seqObj "list" f.toArray 0,drawn:=d,toks:=tk}) ⟨_,i,rfl⟩ entry_list_sort (list_sort_treeK strKind_oneLt i h.keysOf (λJ I rest e=>keyKind_strs<|by rw[<-e];exact h) G λr a1 z=>⟨_,rfl,?_⟩)<|args_list_sort _;obtain⟨x,B,v,q⟩:=sorted_out_str h a1 z;obtain⟨e,H⟩:=sortedHeap_at (out:=(arrOf r).map (·.2)) i;refine aD ⟨_,rfl,u _ d tk h1.objs.size e _ x (v.trans p) q B (λb o j=>?_) (cM hsz)<|by rw[Array.toArray_toList];exact H⟩;have n:b<h1.objs.size:=bA<|k b o j;rw[sortedHeap_old (bI n)<|by rw[size_push'];exact jY n];exact aZ _<|k b o j
theorem Inv.drawn{a:List (Addr×Obj)}{σ:St}{H:Hp}{s:Shared}{d:Drawn}(I:Inv X a σ H s):Inv X a σ H {s with drawn:=d}:=⟨I.ok,I.os,I.bare,I.base,I.loc,I.cell,I.free,I.freeC,I.pin,I.hok,I.len⟩
inductive xO(w:World)(vs:List V)(H:Hp)(Q:VK):Prop
 | mk(p:Addr)(ss:List Str)(h1:vs=[.ref p])(h2:H p=some (dV w p ss))(h3:↑ss<64)(q:∀(l:Addr)(ss':List Str),H l=none->ss'.Perm ss->sortedS ss'=true->Q (.ref l) (aA H l<|.lst<|ss'.map V.str)):xO w vs H Q
def Ev(v:X.calm=true):CallR X (.builtin "sorted") (xO X.w):=by
 intro a1 s σ H xs B Q I r h;obtain⟨p,ss,rfl,m,z,q⟩:=h;obtain⟨u,rfl,A⟩:=gY r;cases A;have S:SSet X.w s.heap p ss:=(I.hok p _ m).1;refine Cv (I.ok.hd v) S z λh' d tk l e i ys p x f k hl b=>?_;have j:=(I.drawn (d:=d)).laid (t':=tk) (h':=h') (a:=l) (o:=.lst<|ys.map V.str) k hl (show ObjOk X.prog X.w _ _ _ (.lst<|ys.map V.str) from ⟨?_,i,e,JY f,by simpa [seqObj]using b⟩)
 .exact⟨.ref l,_,j,rfl,q _ _ (I.hok.fresh hl) p x⟩
 .rw[aG,p.length_eq];have:=bN (n:=↑ss) (by lia);lia
def hY:Bool->Keyed->Array Keyed->Nat->Nat->Nat->StateT SortSt Sem (Option Nat):=sortPriv% PySem.Builtin.gallop
def pD(left:Bool)(key:Keyed)(arr:Array Keyed)(base i:Nat):StateT SortSt Sem (Option Bool):=
 elem' arr (base+i) >>= λx=>if left=true then lt' x key else lt' key x >>= λr=>pure<|Option.map (λb=>!b) r
section
variable{M:Model}{A:Around}{E:Vp}{s:Shared}{st:SortSt}{n:Nat}{act:Nat->StateT SortSt Sem (Option Bool)}
def GB(M:Model)(A:Around)(E:Vp)(s:Shared)(act:Nat->StateT SortSt Sem (Option Bool))(n:Nat)(st:SortSt):Prop:=∀i,i<n->∃b,∀Q:Option Bool->SortSt->Prop,Q (some b) st->wpS M A E s (act i) Q st
def RX{lo hi:Nat}{Q:(Option (Option Nat)×Nat×Nat)->SortSt->Prop}(ha:GB M A E s act n st)(h1:lo<=hi)(h2:hi<=n)(h:∀l k,k<=n->Q (none,l,k) st):
  wpS M A E s (forIn [:n] ((none:Option (Option Nat)),lo,hi) λ_ c=>
   if c.2.1≥c.2.2 then pure (ForInStep.done (none,c.2.1,c.2.2)) else act (c.2.1+(c.2.2-c.2.1) / 2) >>= λr=>match r with
    | some more=>if more=true then pure (ForInStep.yield (none,c.2.1+(c.2.2-c.2.1) / 2+1,c.2.2)) else pure (ForInStep.yield (none,c.2.1,c.2.1+(c.2.2-c.2.1) / 2))
    | _=>pure<|ForInStep.done (some none,c.2.1,c.2.2)) Q st:=by
 refine hW (I:=λx c i=>i=st/\∃l k,c=(none,l,k)/\l<=k/\k<=n) ?_ ?_ ⟨rfl,lo,hi,rfl,h1,h2⟩
 .rintro x c _ _ j ⟨rfl,l,k,rfl,e,a⟩;dsimp only
  by_cases d:l≥k
  .rw[aR d];exact bM<|h l k a
  .rw[aK d];obtain⟨b,f⟩:=ha (l+(k-l) / 2) (by lia);refine bC<|f _ ?_;cases b <;> exact bM ⟨rfl,_,_,rfl,by lia,by lia⟩
 .rintro c _ ⟨rfl,l,k,rfl,e,a⟩;exact h l k a
def XC{Q:(Option (Option Nat)×Nat×Nat)->SortSt->Prop}(ha:GB M A E s act n st)(j:hint<n)(h:∀last a,hint+last<n->last<a->Q (none,last,a) st):
  wpS M A E s (forIn [:n] ((none:Option (Option Nat)),0,1) λ_ c=>
   if c.2.2≥n-hint then pure (ForInStep.done (none,c.2.1,c.2.2)) else act (hint+c.2.2) >>= λr=>match r with
    | some more=>if (!more)=true then pure (ForInStep.done (none,c.2.1,c.2.2)) else pure (ForInStep.yield (none,c.2.2,2*c.2.2+1))
    | _=>pure<|ForInStep.done (some none,c.2.1,c.2.2)) Q st:=by
 refine hW (I:=λx c a1=>a1=st/\∃last a,c=(none,last,a)/\hint+last<n/\last<a) ?_ ?_ ⟨rfl,0,1,rfl,j,by decide⟩
 .rintro x c _ _ l ⟨rfl,last,a,rfl,d,e⟩;dsimp only
  by_cases f:a≥n-hint
  .rw[aR f];exact bM<|h last a d e
  .rw[aK f];obtain⟨b,i⟩:=ha (hint+a) (by lia);refine bC<|i _ ?_;cases b
   .exact bM<|h last a d e
   .exact bM ⟨rfl,_,_,rfl,by lia,by lia⟩
 .rintro c _ ⟨rfl,last,a,rfl,d,e⟩;exact h last a d e
def Ht{Q:(Option (Option Nat)×Nat×Nat)->SortSt->Prop}(ha:GB M A E s act n st)(l:hint<n)(h:∀last a,last<=hint->last<a->Q (none,last,a) st):
  wpS M A E s (forIn [:n] ((none:Option (Option Nat)),0,1) λ_ c=>
   if c.2.2≥hint+1 then pure (ForInStep.done (none,c.2.1,c.2.2)) else act (hint-c.2.2) >>= λr=>match r with
    | some found=>if found=true then pure (ForInStep.done (none,c.2.1,c.2.2)) else pure (ForInStep.yield (none,c.2.2,2*c.2.2+1))
    | _=>pure<|ForInStep.done (some none,c.2.1,c.2.2)) Q st:=by
 refine hW (I:=λx c a1=>a1=st/\∃last a,c=(none,last,a)/\last<=hint/\last<a) ?_ ?_ ⟨rfl,0,1,rfl,bO _,by decide⟩
 .rintro x c _ _ j ⟨rfl,last,a,rfl,d,e⟩;dsimp only
  by_cases f:a≥hint+1
  .rw[aR f];exact bM<|h last a d e
  .rw[aK f];obtain⟨b,i⟩:=ha (hint-a) (by lia);refine bC<|i _ ?_;cases b
   .exact bM ⟨rfl,_,_,rfl,by lia,by lia⟩
   .exact bM<|h last a d e
 .rintro c _ ⟨rfl,last,a,rfl,d,e⟩;exact h last a d e
end
structure SameG(st st':SortSt):Prop where
 kd:kindOf st'=kindOf st
 ar:arrOf st'=arrOf st
 pe:pendingOf st'=pendingOf st
 fa:failedOf st'=failedOf st
def SameG.refl{st:SortSt}:SameG st st:=⟨rfl,rfl,rfl,rfl⟩
def kS(M:Model)(A:Around)(E:Vp)(s:Shared)(kd:SortKind)(U:Keyed->Prop)(LT:Keyed->Keyed->Bool):Prop:=
 ∀{x y:Keyed}{st:SortSt}{Q:Option Bool->SortSt->Prop},U x->U y->kindOf st=kd->Q (some<|LT x y) st->wpS M A E s (lt' x y) Q st
section
variable{kd:SortKind}{U:Keyed->Prop}{LT:Keyed->Keyed->Bool}{st:SortSt}
def fW{Q:Keyed->SortSt->Prop}(a:arr.toList[i]?=some x)(h:Q x st):wpS M A E s (elem' arr i) Q st:=by
 rw[elem'_eq];have e:arr[i]?=some x:=by simpa using a
 rw[e];exact bM h
def wT(C:kS (model prog w) A E s kd U LT){left:Bool}{a:Keyed}{d:Array Keyed}{base n a1:Nat}{Q:Option Nat->SortSt->Prop}(m:kindOf st=kd)(j:a1<n)(G:base+n<=↑d.toList)(v:∀x∈d.toList,U x)(o:U a)(h:∀k,k<=n->Q (some k) st):
  wpS (model prog w) A E s (hY left a d base n a1) Q st:=by
 have ha:GB (model prog w) A E s (pD left a d base) n st:=λi hi=>by
  have f:=bH (show base+i<↑d.toList by lia);have p:=v _<|cX f;cases left
  .refine⟨!LT a d.toList[base+i],λQ q=>?_⟩;unfold pD;refine bC<|fW f ?_;rw[aK cA];exact bC<|C o p m<|bM q
  .refine⟨LT d.toList[base+i] a,λQ q=>?_⟩;unfold pD;refine bC<|fW f ?_;rw[aR rfl];exact C p o m q
 unfold hY wpS
 wp_delta
 wp_delta
 show wpS (model prog w) A E s (pD left a d base a1 >>= _) Q st;obtain⟨b,u⟩:=ha a1 j;refine bC<|u _ ?_;cases b
 .refine bC<|Ht (act:=pD left a d base) ha j λlast z r B=>?_;dsimp only;exact bC<|RX (act:=pD left a d base) ha (by lia) (by lia) λl k e=>bM<|h k e
 .refine bC<|XC (act:=pD left a d base) ha j λlast z r B=>?_;dsimp only;exact bC<|RX (act:=pD left a d base) ha (by lia) (by lia) λl k e=>bM<|h k e
end
def rA:Array Keyed->Array Keyed->StateT SortSt Sem (Array Keyed):=sortPriv% PySem.Builtin.mergeLo
def jK:Nat->StateT SortSt Sem Unit:=sortPriv% PySem.Builtin.setMinGallop
def cP{m n:Nat}(h:¬(m == n)=true):m≠n:=λz=>h<|beq_iff_eq.mpr z
def pB(a:Array Keyed):(a.extract p n).toList=(a.toList.take n).drop p:=by
 rw[Array.toList_extract];simp only[List.extract];rw[List.drop_take]
def FM(a:Array Keyed)(i:Nat):(a.extract i a.size).toList=a.toList.drop i:=by
 rw[pB,dD<|by rw[cF];exact aO _]
def MH(a:Array Keyed)(i k:Nat):(a.extract i<|i+k).toList=(a.toList.drop i).take k:=by
 rw[Array.toList_extract];simp[List.extract]
def NI{α:Type}(l:List α)(i k:Nat):l.drop i=(l.drop i).take k++l.drop (i+k):=by
 rw[<-List.drop_drop,uY]
def QZ{α:Type}{l:List α}{i:Nat}{x:α}(h:l[i]?=some x):l.drop i=x::l.drop (i+1):=by
 obtain⟨h1,rfl⟩:=vg4.mp h;exact DS h1
section
variable{a b out:Array Keyed}{i j:Nat}{x:Keyed}
def Gd(a b out:Array Keyed)(i j:Nat):Prop:=(out.toList++(a.toList.drop i++b.toList.drop j)).Perm<|a.toList++b.toList
def Gd.a1(g:Gd a b out i j)(h:a.toList[i]?=some x):Gd a b (out.push x) (i+1) j:=by
 unfold Gd at *;rw[QZ h]at g;rw[pG,dR];exact g
def Gd.b1(g:Gd a b out i j)(h:b.toList[j]?=some x):Gd a b (out.push x) i (j+1):=by
 unfold Gd at *;rw[QZ h]at g;rw[pG,dR];exact(wM _ (List.perm_middle (l₁:=a.toList.drop i)).symm).trans g
def Gd.ak(g:Gd a b out i j)(k:Nat):Gd a b (out++a.extract i (i+k)) (i+k) j:=by
 unfold Gd at *;rw[NI _ i k,dR]at g;rw[jO,MH,dR];exact g
def Gd.bk(g:Gd a b out i j)(k:Nat):Gd a b (out++b.extract j (j+k)) i (j+k):=by
 unfold Gd at *;rw[NI b.toList j k]at g;rw[jO,MH,dR];refine(wM _ ?_).trans g;rw[<-dR,<-dR];exact vv2.append_right _
def Gd.done(g:Gd a b out i j):(out++a.extract i a.size++b.extract j b.size).toList.Perm (a.toList++b.toList):=by
 rw[jO,jO,FM,FM,dR];exact g
def Gd.last(g:Gd a b out i j):(out++b.extract j b.size++a.extract i a.size).toList.Perm (a.toList++b.toList):=by
 rw[jO,jO,FM,FM,dR];exact(vv2.append_left _).trans g
structure Mi(a b out:Array Keyed)(i j t:Nat):Prop where
 g:Gd a b out i j
 ha:i+1<a.size
 hb:j<b.size
 ht:t<=i+j
end
section
variable{kd:SortKind}{U:Keyed->Prop}{LT:Keyed->Keyed->Bool}{st:SortSt}
def FK{st0:SortSt}{Q:Unit->SortSt->Prop}(a:SameG st0 st)(h:∀st',SameG st0 st'->Q () st'):wpS (model prog w) A E s (jK g) Q st:=by
 unfold jK wpS
 wp_delta
 wp_delta
 exact aD ⟨rfl,h _ ⟨a.kd,a.ar,a.pe,a.fa⟩⟩
def cK{α:Type}[Decidable c]{b a:StateT SortSt Sem α}{Q:α->SortSt->Prop}(h1:c->wpS (model prog w) A E s b Q st)(h2:¬c->wpS (model prog w) A E s a Q st):wpS (model prog w) A E s (if c then b else a) Q st:=by
 split
 .exact h1 ‹_›
 .exact h2 ‹_›
def vG(C:kS (model prog w) A E s kd U LT){a b:Array Keyed}{Q:Array Keyed->SortSt->Prop}(hk:kindOf st=kd)(ua:∀x∈a.toList,U x)(ub:∀x∈b.toList,U x)(na:0<a.size)(nb:0<b.size)
  (h:∀r n,r.toList.Perm (a.toList++b.toList)->SameG st n->Q r n):wpS (model prog w) A E s (rA a b) Q st:=by
 have la:↑a.toList=a.size:=cF;have lb:↑b.toList=b.size:=cF;have ga:∀i,i<a.size->∃x,a.toList[i]?=some x/\U x:=λi hi=>⟨_,bH (by lia),ua _<|fT _⟩
 have Z:∀i,i<b.size->∃x,b.toList[i]?=some x/\U x:=λi hi=>⟨_,bH (by lia),ub _<|fT _⟩
 unfold rA wpS
 wp_delta
 wp_delta
 show wpS (model prog w) A E s (_ >>= _) Q st;refine bC<|wpS_lift<|fN ⟨rfl,?_⟩;obtain⟨x0,a8,_⟩:=Z 0 nb;refine bC (m:=elem' b 0)<|fW a8 ?_;have W:Gd a b #[x0] 0 1:=Gd.b1 (out:=#[]) (kK _) a8;refine cK (c:=(1 == b.size)=true) (λ_=>bM<|h _ _ W.done SameG.refl) λc1=>?_;refine cK (c:=(0+1 == a.size)=true) (λ_=>bM<|h _ _ W.last SameG.refl) λc2=>?_;have c1:=cP c1;have c2:=cP c2;refine bC<|kB ?_;refine bC<|jL (hW (I:=λx c n=>SameG st n/\∃out l j mg,c=(none,out,l,j,mg)/\Mi a b out l j (x+1)) (Q:=λc n=>SameG st n/\∃r rest,c=(some r,rest)/\r.toList.Perm (a.toList++b.toList)) ?step ?fin ⟨SameG.refl,_,_,_,_,rfl,W,by lia,by lia,by lia⟩) ?post
 case fin=>
  rintro c n ⟨_,out,l,j,mg,rfl,_,h1,h2,h3⟩;lia
 case post=>
  rintro c n ⟨o,r,rest,rfl,N⟩;exact bM<|h r n N o
 case step=>
  rintro x c n _ hx ⟨o,out,l,j,mg,rfl,m⟩;dsimp -zeta only;refine bC<|jL (hW (I:=λy c n=>SameG st n/\∃out l j v z,c=(none,out,l,j,v,z)/\Mi a b out l j (x+1+y)) (Q:=λc n=>SameG st n/\((∃r rest,c=(some r,rest)/\r.toList.Perm (a.toList++b.toList))\/∃out l j v z,c=(none,out,l,j,v,z)/\Mi a b out l j (x+2))) ?step1 ?fin1 ⟨o,_,_,_,_,_,rfl,m⟩) ?post1
  case fin1=>
   rintro c n ⟨_,out,l,j,v,z,rfl,_,h1,h2,h3⟩;lia
  case step1=>
   rintro y c n _ hy ⟨o,out,l,j,v,z,rfl,g,T,L,a6⟩;dsimp -zeta only;obtain⟨p,H,pa⟩:=ga l (by lia);obtain⟨q,K,pb⟩:=Z j L;refine bC (m:=elem' b j)<|fW K<|bC (m:=elem' a l)<|fW H<|bC<|C pb pa (o.kd.trans hk) ?_;refine cK (c:=LT q p=true) (λ_=>bC (m:=elem' b j)<|fW K ?_) λ_=>bC (m:=elem' a l)<|fW H ?_
   .have g':=g.b1 K;refine cK (c:=(j+1 == b.size)=true) (λ_=>bM ⟨o,.inl ⟨_,_,rfl,g'.done⟩⟩) λc=>?_;have c:=cP c;exact cK (λ_=>bM ⟨o,.inr ⟨_,_,_,_,_,rfl,g',T,by lia,by lia⟩⟩) λ_=>bM ⟨o,_,_,_,_,_,rfl,g',T,by lia,by lia⟩
   .have g':=g.a1 H;refine cK (c:=(l+1+1 == a.size)=true) (λ_=>bM ⟨o,.inl ⟨_,_,rfl,g'.last⟩⟩) λc=>?_;have c:=cP c;exact cK (λ_=>bM ⟨o,.inr ⟨_,_,_,_,_,rfl,g',by lia,L,by lia⟩⟩) λ_=>bM ⟨o,_,_,_,_,_,rfl,g',by lia,L,by lia⟩
  case post1=>
   rintro c n ⟨o,⟨r,rest,rfl,N⟩ | ⟨out,l,j,v,z,rfl,m⟩⟩
   .exact bM ⟨o,_,_,rfl,N⟩
   .dsimp -zeta only;refine bC<|wpS_lift<|fN ⟨rfl,?_⟩;refine bC<|jL (hW (I:=λy c n=>SameG st n/\∃out l j mg v z,c=(none,out,l,j,mg,v,z)/\Mi a b out l j (x+2+y)) (Q:=λc n=>SameG st n/\((∃r rest,c=(some r,rest)/\r.toList.Perm (a.toList++b.toList))\/∃out l j mg v z,c=(none,out,l,j,mg,v,z)/\Mi a b out l j (x+2))) ?step2 ?fin2 ⟨o,_,_,_,_,_,_,rfl,m⟩) ?post2
    case fin2=>
     rintro c n ⟨_,out,l,j,mg,v,z,rfl,_,h1,h2,h3⟩;lia
    case post2=>
     rintro c n ⟨o,⟨r,rest,rfl,N⟩ | ⟨out,l,j,mg,v,z,rfl,m⟩⟩
     .exact bM ⟨o,_,_,rfl,N⟩
     .exact bC (m:=jK _)<|FK o λO B=>bM ⟨B,_,_,_,_,rfl,m⟩
    case step2=>
     rintro y c n _ hy ⟨o,out,l,j,mg,v,z,rfl,g,T,L,a6⟩;dsimp -zeta only
     extract_lets -underBinder _ _ _ _ _ _ _ _ _ _ _ f
     suffices J:∀m,wpS (model prog w) A E s (f () m) _ n from cK (λ_=>J _) λ_=>J _
     intro m;dsimp -zeta +zetaDelta only;refine bC (m:=jK _)<|FK o λO B=>?_;have a7:kindOf O=kd:=B.kd.trans hk;obtain⟨q,K,pb⟩:=Z j L;refine bC (m:=elem' b j)<|fW K ?_;refine bC (m:=hY false q a l (a.size-l) 0)<|wT C a7 (by lia) (by lia) ua pb λk aa=>?_;dsimp -zeta only
     extract_lets -underBinder _ f
     suffices J:∀X G,Gd a b X G j->G+1<a.size->x+2+y<=G+j->wpS (model prog w) A E s (f () X G) _ O from cK (c:=k > 0) (λck=>cK (c:=(l+k+1 == a.size)=true) (λc=>bM ⟨B,.inl ⟨_,_,rfl,(g.ak k).last⟩⟩) λc=>cK (c:=(l+k == a.size)=true) (λc'=>bM ⟨B,.inl ⟨_,_,rfl,(g.ak k).done⟩⟩) λc'=>J _ (l+k) (g.ak k) (by have:=cP c;have:=cP c';lia)<|by lia) λck=>J _ l g T a6
     intro X G g1 h1 h2;dsimp -zeta +zetaDelta only;obtain⟨p,H,pa⟩:=ga G (by lia);refine bC (m:=elem' b j)<|fW K ?_;have P:=g1.b1 K;refine cK (c:=(j+1 == b.size)=true) (λc=>bM ⟨B,.inl ⟨_,_,rfl,P.done⟩⟩) λd=>?_;have d:=cP d;refine bC (m:=elem' a G)<|fW H ?_;refine bC (m:=hY true p b (j+1) (b.size-(j+1)) 0)<|wT C a7 (by lia) (by lia) ub pa λu a9=>?_;dsimp -zeta only
     extract_lets -underBinder _ f
     suffices J:∀Y M,Gd a b Y G M->j<M->M<b.size->wpS (model prog w) A E s (f () Y M) _ O from cK (c:=u > 0) (λcu=>cK (c:=(j+1+u == b.size)=true) (λc=>bM ⟨B,.inl ⟨_,_,rfl,(P.bk u).done⟩⟩) λe=>J _ (j+1+u) (P.bk u) (by lia) (by have:=cP e;lia)) λcu=>J _ (j+1) P (by lia) (by lia)
     intro Y M g3 h3 h4;dsimp -zeta +zetaDelta only;refine bC (m:=elem' a G)<|fW H ?_;have g4:=g3.a1 H;refine cK (c:=(G+1+1 == a.size)=true) (λc=>bM ⟨B,.inl ⟨_,_,rfl,g4.last⟩⟩) λc=>?_;have c:=cP c;exact cK (λ_=>bM ⟨B,.inr ⟨_,_,_,_,_,_,rfl,g4,by lia,by lia,by lia⟩⟩) λ_=>bM ⟨B,_,_,_,_,_,_,rfl,g4,by lia,by lia,by lia⟩
end
def uC:Array Keyed->Array Keyed->StateT SortSt Sem (Array Keyed):=sortPriv% PySem.Builtin.mergeHi
def MV{α:Type}(l:List α)(h:p<=n):l.take n=l.take p++(l.take n).drop p:=by
 have:=(uY p<|l.take n).symm;rwa [List.take_take,yW h]at this
def VG{α:Type}{l:List α}{n:Nat}{x:α}(a:1<=n)(h:l[n-1]?=some x):l.take n=l.take (n-1)++[x]:=by
 obtain⟨m,rfl⟩:∃m,n=m+1:=⟨n-1,by lia⟩;rw[Nat.add_sub_cancel]at h ⊢;rw[dG,h];rfl
section
variable{a b out:Array Keyed}{i j:Nat}{x:Keyed}
def Hd(a b out:Array Keyed)(i j:Nat):Prop:=(a.toList.take i++(b.toList.take j++out.toList.reverse)).Perm<|a.toList++b.toList
def Hd.a1(g:Hd a b out i j)(hi:1<=i)(h:a.toList[i-1]?=some x):Hd a b (out.push x) (i-1) j:=by
 unfold Hd at *;rw[VG hi h,dR]at g;rw[pG,FA];exact(wM _<|List.perm_middle (l₁:=b.toList.take j)).trans g
def Hd.b1(g:Hd a b out i j)(d:1<=j)(h:b.toList[j-1]?=some x):Hd a b (out.push x) i (j-1):=by
 unfold Hd at *;rw[VG d h,dR]at g;rw[pG,FA];exact g
def Hd.ak(g:Hd a b out i j)(d:p<=i):Hd a b (out++(a.extract p i).reverse) p j:=by
 unfold Hd at *;rw[MV _ d,dR]at g;rw[jO,FA,GK,List.reverse_reverse,pB];refine(wM _ ?_).trans g;rw[<-dR,<-dR];exact vv2.append_right _
def Hd.bk(g:Hd a b out i j)(d:p<=j):Hd a b (out++(b.extract p j).reverse) i p:=by
 unfold Hd at *;rw[MV b.toList d,dR]at g;rw[jO,FA,GK,List.reverse_reverse,pB];exact g
def Hd.done(g:Hd a b out i j):(a.extract 0 i++b.extract 0 j++out.reverse).toList.Perm (a.toList++b.toList):=by
 rw[jO,jO,pB,pB,GK,dR];exact g
def Hd.first(g:Hd a b out i j):(b.extract 0 j++a.extract 0 i++out.reverse).toList.Perm (a.toList++b.toList):=by
 rw[jO,jO,pB,pB,GK];refine(vv2.append_right _).trans ?_;rw[dR];exact g
structure Mh(a b out:Array Keyed)(i j t:Nat):Prop where
 g:Hd a b out i j
 ha:1<=i
 hb:2<=j
 la:i<=a.size
 lb:j<=b.size
 ht:i+j+t<=a.size+b.size
end
section
variable{kd:SortKind}{U:Keyed->Prop}{LT:Keyed->Keyed->Bool}{st:SortSt}
def sB(C:kS (model prog w) A E s kd U LT){Q:Array Keyed->SortSt->Prop}(hk:kindOf st=kd)(ua:∀x∈a.toList,U x)(ub:∀x∈b.toList,U x)(na:0<a.size)(nb:0<b.size)(h:∀r j,r.toList.Perm (a.toList++b.toList)->SameG st j->Q r j):wpS (model prog w) A E s (uC a b) Q st:=by
 have la:↑a.toList=a.size:=cF;have lb:↑b.toList=b.size:=cF;have ga:∀i,i<a.size->∃x,a.toList[i]?=some x/\U x:=λi hi=>⟨_,bH (by lia),ua _<|fT _⟩
 have gb:∀i,i<b.size->∃x,b.toList[i]?=some x/\U x:=λi hi=>⟨_,bH (by lia),ub _<|fT _⟩
 unfold uC wpS
 wp_delta
 wp_delta
 show wpS (model prog w) A E s (_ >>= _) Q st;refine bC<|wpS_lift<|fN ⟨rfl,?_⟩;obtain⟨x0,a8,_⟩:=ga (a.size-1) (by lia);refine bC (m:=elem' a<|a.size-1)<|fW a8 ?_;have X:Hd a b #[x0] (a.size-1) b.size:=Hd.a1 (out:=#[]) (by
  show(_++(_++[])).Perm _;rw[iA,dD (by lia),dD<|by lia]) na a8
 refine cK (c:=(a.size-1 == 0)=true) (λ_=>bM<|h _ _ X.done SameG.refl) λc1=>?_;refine cK (c:=(b.size == 1)=true) (λ_=>bM<|h _ _ X.first SameG.refl) λc2=>?_;have c1:=cP c1;have c2:=cP c2;refine bC<|kB ?_;refine bC<|jL (hW (I:=λx c j=>SameG st j/\∃m n out mg,c=(none,m,n,out,mg)/\Mh a b out m n (x+1)) (Q:=λc j=>SameG st j/\∃r rest,c=(some r,rest)/\r.toList.Perm (a.toList++b.toList)) ?step ?fin ⟨SameG.refl,_,_,_,_,rfl,X,by lia,by lia,by lia,by lia,by lia⟩) ?post
 case fin=>
  rintro c j ⟨_,m,n,out,mg,rfl,_,h1,h2,h3,O,h5⟩;lia
 case post=>
  rintro c j ⟨l,r,rest,rfl,M⟩;exact bM<|h r j M l
 case step=>
  rintro x c j _ hx ⟨l,m,n,out,mg,rfl,K⟩;dsimp -zeta only;refine bC<|jL (hW (I:=λy c j=>SameG st j/\∃m n out o v,c=(none,m,n,out,o,v)/\Mh a b out m n (x+1+y)) (Q:=λc j=>SameG st j/\((∃r rest,c=(some r,rest)/\r.toList.Perm (a.toList++b.toList))\/∃m n out o v,c=(none,m,n,out,o,v)/\Mh a b out m n (x+2))) ?step1 ?fin1 ⟨l,_,_,_,_,_,rfl,K⟩) ?post1
  case fin1=>
   rintro c j ⟨_,m,n,out,o,v,rfl,_,h1,h2,h3,O,h5⟩;lia
  case step1=>
   rintro y c j _ hy ⟨l,m,n,out,o,v,rfl,g,N,hn,P,a5,a6⟩;dsimp -zeta only;obtain⟨p,G,pa⟩:=ga (m-1) (by lia);obtain⟨q,H,pb⟩:=gb (n-1) (by lia);refine bC (m:=elem' b<|n-1)<|fW H<|bC (m:=elem' a<|m-1)<|fW G<|bC<|C pb pa (l.kd.trans hk) ?_;refine cK (c:=LT q p=true) (λ_=>bC (m:=elem' a<|m-1)<|fW G ?_) λ_=>bC (m:=elem' b<|n-1)<|fW H ?_
   .have g':=g.a1 N G;refine cK (c:=(m-1 == 0)=true) (λ_=>bM ⟨l,.inl ⟨_,_,rfl,g'.done⟩⟩) λc=>?_;have c:=cP c;exact cK (λ_=>bM ⟨l,.inr ⟨_,_,_,_,_,rfl,g',by lia,hn,by lia,a5,by lia⟩⟩) λ_=>bM ⟨l,_,_,_,_,_,rfl,g',by lia,hn,by lia,a5,by lia⟩
   .have g':=g.b1 (by lia) H;refine cK (c:=(n-1 == 1)=true) (λ_=>bM ⟨l,.inl ⟨_,_,rfl,g'.first⟩⟩) λc=>?_;have c:=cP c;exact cK (λ_=>bM ⟨l,.inr ⟨_,_,_,_,_,rfl,g',N,by lia,P,by lia,by lia⟩⟩) λ_=>bM ⟨l,_,_,_,_,_,rfl,g',N,by lia,P,by lia,by lia⟩
  case post1=>
   rintro c j ⟨l,⟨r,rest,rfl,M⟩ | ⟨m,n,out,o,v,rfl,K⟩⟩
   .exact bM ⟨l,_,_,rfl,M⟩
   .dsimp -zeta only;refine bC<|wpS_lift<|fN ⟨rfl,?_⟩;refine bC<|jL (hW (I:=λy c j=>SameG st j/\∃m n out mg o v,c=(none,m,n,out,mg,o,v)/\Mh a b out m n (x+2+y)) (Q:=λc j=>SameG st j/\((∃r rest,c=(some r,rest)/\r.toList.Perm (a.toList++b.toList))\/∃m n out mg o v,c=(none,m,n,out,mg,o,v)/\Mh a b out m n (x+2))) ?step2 ?fin2 ⟨l,_,_,_,_,_,_,rfl,K⟩) ?post2
    case fin2=>
     rintro c j ⟨_,m,n,out,mg,o,v,rfl,_,h1,h2,h3,O,h5⟩;lia
    case post2=>
     rintro c j ⟨l,⟨r,rest,rfl,M⟩ | ⟨m,n,out,mg,o,v,rfl,K⟩⟩
     .exact bM ⟨l,_,_,rfl,M⟩
     .exact bC (m:=jK _)<|FK l λW B=>bM ⟨B,_,_,_,_,rfl,K⟩
    case step2=>
     rintro y c j _ hy ⟨l,m,n,out,mg,o,v,rfl,g,N,hn,P,a5,a6⟩;dsimp -zeta only
     extract_lets -underBinder _ _ _ _ _ _ _ _ _ _ _ f
     suffices J:∀m,wpS (model prog w) A E s (f () m) _ j from cK (λ_=>J _) λ_=>J _
     intro mg;dsimp -zeta +zetaDelta only;refine bC (m:=jK _)<|FK l λW B=>?_;have a7:kindOf W=kd:=B.kd.trans hk;obtain⟨q,H,pb⟩:=gb (n-1) (by lia);refine bC (m:=elem' b<|n-1)<|fW H ?_;refine bC (m:=hY false q a 0 m<|m-1)<|wT C a7 (by lia) (by lia) ua pb λp a9=>?_;dsimp -zeta only
     extract_lets -underBinder _ _ f
     have T:=g.ak a9
     suffices J:∀p Y,Hd a b Y p n->1<=p->p<=a.size->p+n+(x+2+y)<=a.size+b.size->wpS (model prog w) A E s (f () p Y) _ W from cK (c:=m-p > 0) (λck=>cK (c:=(p == 0)=true) (λc=>bM ⟨B,.inl ⟨_,_,rfl,T.done⟩⟩) λc=>J p _ T (by have:=cP c;lia) (by lia)<|by lia) λck=>J m _ g N P a6
     intro p Y T h1 h2 h3;dsimp -zeta +zetaDelta only;obtain⟨z,G,pa⟩:=ga (p-1) (by lia);refine bC (m:=elem' b<|n-1)<|fW H ?_;have g2:=T.b1 (by lia) H;refine cK (c:=(n-1 == 1)=true) (λc=>bM ⟨B,.inl ⟨_,_,rfl,g2.first⟩⟩) λd=>?_;have d:=cP d;refine bC (m:=elem' a<|p-1)<|fW G ?_;refine bC (m:=hY true z b 0 (n-1)<|n-1-1)<|wT C a7 (by lia) (by lia) ub pa λu aa=>?_;dsimp -zeta only
     extract_lets -underBinder _ _ f
     have L:=g2.bk aa
     suffices J:∀u Z,Hd a b Z p u->2<=u->u<n->wpS (model prog w) A E s (f () u Z) _ W from cK (c:=n-1-u > 0) (λcu=>cK (c:=(u == 1)=true) (λc=>bM ⟨B,.inl ⟨_,_,rfl,L.first⟩⟩) λe=>cK (c:=(u == 0)=true) (λc'=>bM ⟨B,.inl ⟨_,_,rfl,L.done⟩⟩) λe'=>J u _ L (by have:=cP e;have:=cP e';lia)<|by lia) λcu=>J (n-1) _ g2 (by lia) (by lia)
     intro u Z L O h5;dsimp -zeta +zetaDelta only;refine bC (m:=elem' a<|p-1)<|fW G ?_;have g4:=L.a1 h1 G;refine cK (c:=(p-1 == 0)=true) (λc=>bM ⟨B,.inl ⟨_,_,rfl,g4.done⟩⟩) λc=>?_;have c:=cP c;exact cK (λ_=>bM ⟨B,.inr ⟨_,_,_,_,_,_,rfl,g4,by lia,O,by lia,by lia,by lia⟩⟩) λ_=>bM ⟨B,_,_,_,_,_,_,rfl,g4,by lia,O,by lia,by lia,by lia⟩
end
structure SB(kd:SortKind)(a₀:Array Keyed)(pe:Array (Nat×Nat×Nat))(st:SortSt):Prop where
 pm:(arrOf st).Perm a₀
 kd:kindOf st=kd
 fa:failedOf st=none
 pe:pendingOf st=pe
section
variable{kd:SortKind}{LT:Keyed->Keyed->Bool}{a₀:Array Keyed}{pe:Array (Nat×Nat×Nat)}{st:SortSt}{lo:Nat}
def SB.put(h:SB kd a₀ pe st)(a:xs.Perm (arrOf st)):SB kd a₀ pe (setArr st xs):=⟨a.trans h.pm,h.kd,h.fa,h.pe⟩
def SB.at(h:SB kd a₀ pe st)(hi:i<a₀.size):∃x,(arrOf st)[i]?=some x/\x∈a₀.toList:=by
 have a:i<(arrOf st).size:=by rw[h.pm.size_eq];exact hi
 refine⟨_,gJ a,(vz6.mp h.pm).mem_iff.mp ?_⟩;simp
def CH(C:kS (model prog w) A E s kd (·∈a₀.toList) LT){Q:Option Bool->SortSt->Prop}(h:SB kd a₀ pe st)(hi:i<a₀.size)(d:j<a₀.size)(q:∀b,Q (some b) st):wpS (model prog w) A E s (ltAt' i j) Q st:=by
 rw[ltAt'_eq];refine bC<|kB ?_;show wpS _ _ _ _ (do let x <-elem' (arrOf st) i;let y <-elem' (arrOf st) j;lt' x y) Q st;obtain⟨x,a,l⟩:=h.at hi;obtain⟨y,e,f⟩:=h.at d;rw[elem'_eq,elem'_eq,a,e];exact bC<|bM<|bC<|bM<|C l f h.kd<|q _
def qU(C:kS (model prog w) A E s kd (·∈a₀.toList) LT){Q:Bool->SortSt->Prop}(q:lo+n<=a₀.size)(e:SB kd a₀ pe st)(h:∀a,SB kd a₀ pe a->Q true a):wpS (model prog w) A E s (binarySort' lo n ok) Q st:=by
 rw[binarySort'_eq];refine bC<|jL (hW (I:=λk c a=>c=(none,())/\SB kd a₀ pe a) (Q:=λc a=>c=(none,())/\SB kd a₀ pe a) ?_ (λ_ _ h=>h) ⟨rfl,e⟩) ?_
 .rintro k c a i m ⟨rfl,d⟩;refine bC<|jL (hW (I:=λx c a1=>a1=a/\∃l r,c=(none,l,r)/\r<=k) (Q:=λc a1=>a1=a/\∃l r,c=(none,l,r)/\r<=k) ?_ (λ_ _ h=>h) ⟨rfl,0,k,rfl,aO _⟩) ?_
  .rintro x c _ _ j ⟨rfl,l,r,rfl,f⟩;dsimp only;refine cK (λ_=>bM ⟨rfl,l,r,rfl,f⟩) λo=>?_;refine bC<|CH C d (by lia) (by lia) λb=>?_;cases b <;> exact bM ⟨rfl,_,_,rfl,by lia⟩
  .rintro c _ ⟨rfl,l,r,rfl,p⟩;show wpS _ _ _ _ (do moveDown' (lo+k)<|lo+l;pure<|ForInStep.yield (none,())) _ _;rw[moveDown'_eq];exact bC<|sM<|bM ⟨rfl,d.put<|bubble_perm _ _ _⟩
 .rintro c a ⟨rfl,d⟩;exact bM<|h a d
def GT{Q:Unit->SortSt->Prop}(h:SB kd a₀ pe st)(q:∀st',SB kd a₀ pe st'->Q () st'):wpS (model prog w) A E s (reverseSlice' i j) Q st:=by
 rw[reverseSlice'_eq];exact sM<|q _<|h.put<|mirror_perm _ _ _ _
def UP(C:kS (model prog w) A E s kd (·∈a₀.toList) LT){Q:(Option (Option Nat)×Nat)->SortSt->Prop}(j:lo+nrem<=a₀.size)(h1:1<=n0)(h2:n0<=nrem)(f:SB kd a₀ pe st)(h:∀n,n0<=n->n<=nrem->Q (none,n) st):
  wpS (model prog w) A E s (forIn [n0:nrem] ((none:Option (Option Nat)),n0) λ_ c=>ltAt' (lo+c.2) (lo+c.2-1) >>= λr=>match r with
   | some smaller=>if smaller=true then pure (ForInStep.done (none,c.2)) else pure (ForInStep.yield (none,c.2+1))
   | _=>pure<|ForInStep.done (some none,c.2)) Q st:=by
 refine hW (I:=λx c e=>st=e/\c=(none,x)/\n0<=x/\x<=nrem) ?_ ?_ ⟨rfl,rfl,aO _,h2⟩
 .rintro x c _ _ i ⟨rfl,rfl,a,d⟩;refine bC<|CH C f (by dsimp only;lia) (by dsimp only;lia) λb=>?_;cases b
  .exact bM ⟨rfl,rfl,by lia,by lia⟩
  .exact bM<|h x a d
 .rintro c _ ⟨rfl,rfl,a,d⟩;exact h _ a d
def rP(C:kS (model prog w) A E s kd (·∈a₀.toList) LT){Q:Option Nat->SortSt->Prop}(r:lo+nrem<=a₀.size)(h1:1<=nrem)(d:SB kd a₀ pe st)(h:∀m a1,SB kd a₀ pe a1->1<=m->m<=nrem->Q (some m) a1):wpS (model prog w) A E s (countRun' lo nrem) Q st:=by
 rw[countRun'_eq];refine bC<|UP C r (aO 1) h1 d λn j p=>?_;dsimp only;refine cK (λ_=>bM<|h n st d j p) λl=>?_;have l:=cP l;refine cK (λz=>bC<|CH C d (by lia) (by lia) λb=>cK (c:=b=true) (λ_=>bM<|h n st d j p) λ_=>bC<|GT d λG v=>?_) λz=>?_
 all_goals
  first
   | have d:=v
   | skip
  refine bC<|wpS_lift<|fN ⟨rfl,?_⟩;refine bC<|jL (hW (I:=λx c a1=>∃q,c=(none,x,q)/\n+1<=x/\x<=nrem/\SB kd a₀ pe a1) (Q:=λc a1=>∃m q,c=(none,m,q)/\n+1<=m/\m<=nrem/\SB kd a₀ pe a1) ?_ ?_ ⟨0,rfl,aO _,by lia,d⟩) ?_
  .rintro x c a1 _ H ⟨q,rfl,f,e,a⟩;dsimp only;exact bC<|CH C a (by lia) (by lia) λb=>cK (c:=b=true) (λ_=>cK (λ_=>bC<|GT a λu i=>bM ⟨_,rfl,by lia,by lia,i⟩) λ_=>bM ⟨_,rfl,by lia,by lia,a⟩) λ_=>bC<|CH C a (by lia) (by lia) λb=>cK (c:=b=true) (λ_=>bM ⟨_,_,rfl,f,e,a⟩) λ_=>bM ⟨_,rfl,by lia,by lia,a⟩
  .rintro c a1 ⟨q,rfl,f,e,a⟩;exact⟨_,q,rfl,f,e,a⟩
  .rintro c a1 ⟨m,q,rfl,f,e,a⟩;dsimp only;refine cK (λ_=>bC<|GT a λu i=>?_) λ_=>?_
   all_goals
    first
     | have a:=i
     | skip
    exact bC<|GT a λJ o=>bC<|UP C r (by lia) e o λk K B=>bM<|h k _ o (by lia) B
end
theorem UJ{α:Type}:∀(d:List α)(i o:Nat)(b:Array α),o+i+↑d<=b.size->
  ((d.zipIdx i).foldl (λa x=>a.setIfInBounds (o+x.2) x.1) b).toList=b.toList.take (o+i)++d++b.toList.drop (o+i+↑d)
 | [],i,o,b,_=>by simp
 | x::d,i,o,b,h=>by
  have hl:o+i<b.size:=by rw[cY]at h;lia
  rw[List.zipIdx_cons,List.foldl_cons];have:=UJ d (i+1) o (b.setIfInBounds (o+i) x) (by rw[Array.size_setIfInBounds];rw[cY]at h;lia);rw[this,Array.toList_setIfInBounds,cY];have a1:o+i<↑b.toList:=by rw[cF];exact hl
  rw[List.take_set,List.drop_set_of_lt<|by lia];have f:(b.toList.take<|o+(i+1)).set (o+i) x=b.toList.take (o+i)++[x]:=by
   rw[show o+(i+1)=o+i+1 by lia,dG,bH a1];rw[List.set_append_right _ _<|by rw[dI];lia];have e:o+i-↑(b.toList.take<|o+i)=0:=by rw[dI];lia
   rw[e];rfl
  rw[f,show o+(i+1)+↑d=o+i+(↑d+1) by lia,dR,dR];simp
def Dk(h:2<=n)(h2:n<128):∃m,minRun' n n 0=m/\1<=m/\m<=n/\n<=2*m:=by
 exists _,rfl;obtain⟨f,rfl⟩:∃f,n=f+1+1:=⟨n-2,by lia⟩;rw[minRun'_succ]
 by_cases c:f+1+1<64
 .rw[aR c];lia
 .rw[aK c,minRun'_succ,aR<|by lia];have:max 0 ((f+1+1) % 2)=(f+1+1) % 2:=by lia
  rw[this];lia
section
variable{kd:SortKind}{LT:Keyed->Keyed->Bool}{a₀:Array Keyed}{st:SortSt}
def Ah{σ:Type}{M:Model}{st a:σ}{Q:PUnit->σ->Prop}(h:Q ⟨⟩ a):wpS M A E s (set a:StateT σ Sem PUnit) Q st:=by
 unfold wpS;exact aD ⟨rfl,h⟩
def rR(C:kS (model prog w) A E s kd (·∈a₀.toList) LT){m r o:Nat}{Q:Bool->SortSt->Prop}(hB:SB kd a₀ #[(0,m,o),(m,r,0)] st)(hm:1<=m)(hr:1<=r)(hz:m+r=a₀.size)
  (h:∀st',(arrOf st').Perm a₀->failedOf st'=none->(pendingOf st').size=1->Q true st'):wpS (model prog w) A E s (mergeAt' 0) Q st:=by
 obtain⟨p,q,u,Z⟩:=id hB;have hsz:(arrOf st).size=m+r:=by rw[p.size_eq];exact hz.symm
 have J:=vz6.mp p;have n:∀x∈(arrOf st).toList,x∈a₀.toList:=λx j=>J.mem_iff.mp j;have N:(arrOf st).toList.length=m+r:=by rw[cF];exact hsz
 have M:∀i,i<m+r->∃x,(arrOf st).toList[i]?=some x/\x∈a₀.toList:=λi hi=>⟨_,bH (by lia),n _<|fT _⟩
 unfold mergeAt' wpS
 wp_delta
 wp_delta
 show wpS (model prog w) A E s (get >>= _) Q st;refine bC<|kB ?_;have B:(((#[(0,m,o),(m,r,0)]:Array (Nat×Nat×Nat)).setIfInBounds 0 (0,m+r,o)).eraseIdxIfInBounds<|0+1).size=1:=by simp[Array.eraseIdxIfInBounds]
 have a1:=Z;unfold pendingOf at a1;rw[a1];refine bC<|Ah ?_;obtain⟨x,j,ux⟩:=M m (by lia);refine bC (m:=elem' (arrOf st) m)<|fW j ?_;refine bC (m:=hY false x (arrOf st) 0 m 0)<|wT C q (by lia) (by lia) n ux λk a7=>?_;refine cK (c:=(m-k == 0)=true) (λc=>bM<|h _ p u B) λc=>?_;have c:=cP c;obtain⟨y,X,Y⟩:=M (0+k+(m-k)-1) (by lia);refine bC (m:=elem' (arrOf st)<|0+k+(m-k)-1)<|fW X ?_;refine bC (m:=hY true y (arrOf st) m r<|r-1)<|wT C q (by lia) (by lia) n Y λb a6=>?_;refine cK (c:=(b == 0)=true) (λc=>bM<|h _ p u B) λd=>?_;have d:=cP d;have I:((arrOf st).extract (0+k) m).toList=((arrOf st).toList.take m).drop k:=by rw[pB,mL]
 have v:((arrOf st).extract m<|m+b).toList=((arrOf st).toList.drop m).take b:=MH _ _ _;have H:((arrOf st).extract (0+k) m).size=m-k:=by rw[<-cF,I,mD,dI,N];lia
 have G:((arrOf st).extract m<|m+b).size=b:=by rw[<-cF,v,dI,mD,N];lia
 have O:∀x∈((arrOf st).extract (0+k) m).toList,x∈a₀.toList:=λx j=>n x (by rw[I]at j;exact BH<|List.mem_of_mem_drop j)
 have T:∀x∈((arrOf st).extract m<|m+b).toList,x∈a₀.toList:=λx j=>n x (by rw[v]at j;exact List.mem_of_mem_drop<|BH j)
 have last:∀(mg:Array Keyed)(f:SortSt),mg.toList.Perm (((arrOf st).extract (0+k) m).toList++((arrOf st).extract m<|m+b).toList)->SameG (setPending st<|((#[(0,m,o),(m,r,0)]:Array (Nat×Nat×Nat)).setIfInBounds 0 (0,m+r,o)).eraseIdxIfInBounds<|0+1) f->
   Q (failedOf f).isNone (setArr f<|(mg.toList.zipIdx).foldl (λa x=>a.setIfInBounds (0+k+x.2) x.1)<|arrOf f):=λmg f L l=>by
  have K:failedOf f=none:=l.fa.trans u;rw[K];refine h _ ?_ K ?_
  .show((mg.toList.zipIdx).foldl (λa x=>a.setIfInBounds (0+k+x.2) x.1)<|arrOf f).Perm a₀;rw[show arrOf f=arrOf st from l.ar];have P:↑mg.toList=m-k+b:=by rw[L.length_eq,bL,cF,cF,H,G]
   have e:=UJ mg.toList 0 (0+k) (arrOf st) (by rw[P];lia);rw[Nat.add_zero,mL,P,show k+(m-k+b)=m+b by lia]at e;rw[mL];have W:(arrOf st).toList=(arrOf st).toList.take k++(((arrOf st).toList.take m).drop k++((arrOf st).toList.drop m).take b)++(arrOf st).toList.drop (m+b):=by
    rw[dR,dR,<-NI,<-dR,<-MV _ (by lia:k<=m),uY]
   rw[vz6,e];refine List.Perm.trans ?_ J
   conv=>rhs;rw[W]
   refine List.Perm.append_right _<|wM _ ?_;rw[<-I,<-v];exact L
  .show(pendingOf f).size=1;rw[l.pe];exact B
 refine cK (λ_=>?_) λ_=>?_
 .exact bC (m:=rA ((arrOf st).extract (0+k) m)<|(arrOf st).extract m<|m+b)<|vG C q O T (by rw[H];lia) (by rw[G];lia) λmg f z l=>bC<|sM<|bC<|kB<|bM<|last mg f z l
 .exact bC (m:=uC ((arrOf st).extract (0+k) m)<|(arrOf st).extract m<|m+b)<|sB C q O T (by rw[H];lia) (by rw[G];lia) λmg f z l=>bC<|sM<|bC<|kB<|bM<|last mg f z l
inductive Rn(n mr lo:Nat)(st:SortSt):Prop
 | zero:lo=0->pendingOf st=#[]->Rn n mr lo st
 | one (p:Nat):1<=lo->lo<=n->(lo=n\/mr<=lo)->pendingOf st=#[(0,lo,p)]->Rn n mr lo st
 | two (m r p:Nat):lo=n->m+r=n->1<=m->1<=r->pendingOf st=#[(0,m,p),(m,r,0)]->Rn n mr lo st
def Bg(C:kS (model prog w) A E s kd (·∈a₀.toList) LT){Q:Unit->SortSt->Prop}(u:SB kd a₀ #[] st)(h2:2<=a₀.size)(K:a₀.size<128)
  (h:∀a1,(arrOf a1).Perm a₀->failedOf a1=none->Q () a1):wpS (model prog w) A E s sortRuns' Q st:=by
 rw[sortRuns'_eq];refine bC<|kB ?_;obtain⟨b,L,X,W,Y⟩:=Dk h2 K;dsimp only;rw[u.pm.size_eq,L];refine bC<|jL (hW (I:=λx c a1=>∃lo,c=(none,lo)/\x<=lo/\lo<=a₀.size/\SB kd a₀ (pendingOf a1) a1/\Rn a₀.size b lo a1) (Q:=λc a1=>c=(none,a₀.size)/\SB kd a₀ (pendingOf a1) a1/\Rn a₀.size b a₀.size a1) ?step ?fin ?init) ?post
 case init=>exact⟨0,rfl,aO _,bO _,⟨u.pm,u.kd,u.fa,rfl⟩,.zero rfl u.pe⟩
 case fin=>
  rintro c a1 ⟨lo,rfl,P,M,N,q⟩;have e:lo=a₀.size:=by lia
  subst e;exact⟨rfl,N,q⟩
 case step=>
  rintro x c a1 _ v ⟨lo,rfl,P,M,o,q⟩;dsimp only
  by_cases G:lo≥a₀.size
  .rw[aR G];have e:lo=a₀.size:=by lia
   subst e;exact bM ⟨rfl,o,q⟩
  rw[aK G];refine bC<|rP C (nrem:=a₀.size-lo) (by lia) (by lia) o λn d f j i=>?_;dsimp only;refine cK (λJ=>bC<|wpS_lift<|fN ⟨rfl,bC<|qU C (n:=min (a₀.size-lo) b) (by lia) f λd f=>?_⟩) λJ=>?_
  all_goals first
   | (rw[aK<|by decide];(have l:1<=min (a₀.size-lo) b/\min (a₀.size-lo) b<=a₀.size-lo/\(min (a₀.size-lo) b=a₀.size-lo\/b<=min (a₀.size-lo) b):=by lia);clear j i J;generalize min (a₀.size-lo) b=n at l)
   | ((have l:1<=n/\n<=a₀.size-lo/\(n=a₀.size-lo\/b<=n):=by lia))
  all_goals
   refine bC<|kB ?_;have ep:=f.pe;cases q with
   | zero el el2=>
    subst el;rw[el2]at ep;rw[ep];refine bC<|sM<|bM ⟨0+n,rfl,by lia,by lia,⟨f.pm,f.kd,f.fa,rfl⟩,(.one 0 (by lia) (by lia) (by lia) ?_)⟩;show(pendingOf d).push (0,n,0)=_;rw[ep,mL];rfl
   | one p q1 q2 q3 q4=>
    rw[q4]at ep;rw[ep];have O:(#[(0,lo,p)]:Array (Nat×Nat×Nat)).back?=some (0,lo,p):=rfl;rw[O];refine bC<|jL (hW (I:=λx c a=>d=a/\c=(none,())) (Q:=λc a=>d=a/\c=(none,())) ?_ (λ_ _ h=>h) ⟨rfl,rfl⟩) ?_
    .rintro x c _ _ v ⟨rfl,rfl⟩;refine bC<|kB ?_;rw[ep];exact bM ⟨rfl,rfl⟩
    rintro c _ ⟨rfl,rfl⟩;dsimp only;refine bC<|sM<|bC<|sM<|bM ⟨lo+n,rfl,by lia,by lia,⟨f.pm,f.kd,f.fa,rfl⟩,(.two lo n (power' a₀.size (2*0+lo) (2*0+lo+lo+n) a₀.size) (by lia) (by lia) (by lia) (by lia) ?_)⟩;show((pendingOf d).modify ((pendingOf d).size-1) _).push (lo,n,0)=_;rw[ep];simp[Array.modify,Array.modifyM,Id.run];rfl
   | two m' r p q1=>lia
 case post=>
  rintro c B ⟨rfl,o,q⟩;dsimp only;cases q with
  | zero e=>lia
  | one p q1 q2 q3 q4=>
   refine bC<|jL (hW (I:=λx c a=>B=a/\c=(none,())) (Q:=λc a=>B=a/\c=(none,())) ?_ (λ_ _ h=>h) ⟨rfl,rfl⟩) ?_
   .rintro x c _ _ v ⟨rfl,rfl⟩;refine bC<|kB ?_;rw[q4];exact bM ⟨rfl,rfl⟩
   rintro c _ ⟨rfl,rfl⟩;exact bM<|h _ o.pm o.fa
  | two m r p q0 q1 q2 q3 q4=>
   rw[q4]at o;refine bC<|jL (hW (I:=λx c a=>c=(none,())/\(x=0->B=a)/\(x≠0->(arrOf a).Perm a₀/\failedOf a=none/\(pendingOf a).size=1)) (Q:=λc a=>c=(none,())/\(arrOf a).Perm a₀/\failedOf a=none) ?_ ?_ ⟨rfl,λ_=>rfl,λz=>absurd rfl z⟩) ?_
   .rintro x c d _ v ⟨rfl,H,t2⟩;refine bC<|kB ?_
    by_cases ex:x=0
    .cases H ex;rw[q4];refine cK (λz=>absurd z (show ¬2<=1 by decide)) λ_=>?_;refine bC (m:=mergeAt' 0)<|rR C o q2 q3 q1 λT j i l=>?_;rw[aK<|by decide];exact bM ⟨rfl,λz=>by lia,λ_=>⟨j,i,l⟩⟩
    .obtain⟨j,i,l⟩:=t2 ex;refine cK (λ_=>bM ⟨rfl,j,i⟩) λz=>absurd (by rw[l];exact aO _) z
   .rintro c d ⟨rfl,H,t2⟩;obtain⟨j,i,l⟩:=t2 (by lia);exact⟨rfl,j,i⟩
   rintro c d ⟨rfl,j,i⟩;exact bM<|h _ j i
end
section
variable{kd:SortKind}{LT:Keyed->Keyed->Bool}
def nK(h:Heap)(a:Addr)(vs:List Value):Heap:=((h.update a<|Obj.mapSeq λ_=>#[]).push<|seqObj "tuple" vs.toArray 0).push<|seqObj "list" #[] 0
def XM{P:PySem.Fin->Shared->Prop}(f:s.heap.get? a=some (seqObj "list" vs.toArray n))(hl:↑vs<128)(q:2<=↑vs->∀Q:SortKind->Shared->Prop,Q kd {s with heap:=nK s.heap a vs}->wpAny (model prog w) A (keyKind' vs.toArray) Q E {s with heap:=nK s.heap a vs})(C:kS (model prog w) A E {s with heap:=nK s.heap a vs} kd (·∈(pairsOf vs).toList) LT)(h:∀out:Array Keyed,out.Perm (pairsOf vs)->P (.done<|.ret .none) {s with heap:=sortedHeap s.heap a vs<|out.map (·.2)}):
  wpAny (model prog w) A (Builtin.«list.sort» {pos:=[.ref a]}) P E s:=by
 rw[list_sort_plain];have ha:=bA f;have u:vs.toArray.size<=sizeLine:=by rw[kR,cL];lia
 refine aB<|listItems_at f rfl<|aB<|listUpdate_at f rfl ?_ u<|bO _;obtain⟨j,p⟩:∃e,(s.heap.update a<|Obj.mapSeq λ_=>#[]).get? a=some (seqObj "list" #[] e):=⟨_,get?_update_seq f λ_=>#[]⟩;refine aB<|seqEpoch_at p rfl<|aB<|wpAny_newTuple<|aB<|wpAny_newList<|dP ?_;have m:(nK s.heap a vs).get? a=some (seqObj "list" #[] j):=by
  unfold nK;rw[Heap.get?_push_ne _ _ _ (by rw[size_push',Heap.size_update];exact bI<|jY ha),Heap.get?_push_ne _ _ _<|by rw[Heap.size_update];exact bI ha];exact p
 have a1:∀(o:Sem PySem.Fin)(st:SortSt),failedOf st=none->(arrOf st).Perm (pairsOf vs)->
   wpAny (model prog w) A (seqEpoch a >>= λl=>Builtin.List.listUpdate (.ref a) (λ_=>(arrOf st).map (·.2)) >>= λ_=>if (l != j)=true then o else ret Value.none) P E {s with heap:=nK s.heap a vs}:=λo st h1 h2=>by
  refine aB<|seqEpoch_at m rfl<|aB<|listUpdate_at m rfl ?_ (bO _) ?_
  .simp only[bne_self_eq_false,lB,gI];exact aD<|h _ h2
  .rw[Array.size_map,h2.size_eq,pairsOf_size,kR];lia
 dsimp only
 by_cases h2:vs.toArray.size<2
 .rw[aR h2,aR h2];refine aB<|aD ?_;rw[StateT.run_pure];refine aB<|aD ?_;exact a1 _ (SortSt.mk' general' (pairsOf vs) #[] 7 none) rfl<|Array.Perm.refl _
 .rw[aK h2,aK h2];have r:2<=↑vs:=by simpa using h2
  refine aB<|q r _ ?_;refine aB ?_;have hz:(pairsOf vs).size=↑vs:=pairsOf_size vs;have:=Bg (Q:=λ_ b=>failedOf b=none/\(arrOf b).Perm (pairsOf vs)) (st:=SortSt.mk' kd (pairsOf vs) #[] 7 none) C ⟨Array.Perm.refl _,rfl,rfl,rfl⟩ (by lia) (by lia) λb i d=>⟨d,i⟩
  unfold wpS at this;refine fM this ?_ λ_ _ z=>z;rintro⟨⟨⟩,b⟩ s' ⟨rfl,d,i⟩;dsimp only at i d ⊢;rw[d];exact a1 _ b d i
end
def MC(a b:Str):Bool:=decide<|a.cps.toList<b.cps.toList
abbrev Pr:=Str×Str
def MY(x y:Pr):Bool:=if x.1=y.1 then MC x.2 y.2 else MC x.1 y.1
def YC(a:Str):MC a a=false:=strKind.irrefl _
def IsP(h:Heap)(v:Value)(p:Pr):Prop:=∃a o n t u,v=.ref a/\h.get? a=some o/\o.cls=.type "tuple"/\o.data=.seq #[.str p.1 t,.str p.2 u] n
def IsP.keep(x:IsP h v p)(k:∀b o,h.get? b=some o->h'.get? b=some o):IsP h' v p:=by
 obtain⟨a,o,n,t,u,e,g,c,d⟩:=x;exact⟨a,o,n,t,u,e,k _ _ g,c,d⟩
def WS{dec:Value->Pr}{b:List Value}{Q:SortKind->Shared->Prop}(f:∀v∈b,IsP s.heap v<|dec v)(h1:b≠[])(h:Q (tuples' true) s):wpAny (model prog w) A (keyKind' b.toArray) Q E s:=by
 have i:∀b:List Value,(∀v∈b,IsP s.heap v<|dec v)->∃fs:List Value,↑fs=↑b/\PySem.W.KatTups s.heap b fs/\∀v∈fs,∃x t,v=.str x t:=by
  intro b
  induction b with
  | nil=>intro _;exact⟨[],rfl,.nil,λ_ h=>nomatch h⟩
  | cons v b ih=>
   intro f;obtain⟨fs,l,k,c⟩:=ih λv h=>f v<|.tail _ h;obtain⟨a,o,n,t,u,rfl,g,m,d⟩:=f v<|.head _;refine⟨.str (dec<|.ref a).1 t::fs,cR (·+1) l,.cons g m d rfl k,λv f=>?_⟩;rcases vh3.mp f with e | f
   .exact⟨_,_,e⟩
   .exact c v f
 obtain⟨fs,l,k,c⟩:=i b f;have p:0<↑fs:=by rw[l];exact uh7.mpr h1
 refine PySem.W.kat_kind (T:=.type "str") k p (λv f=>?_) (by decide) h;obtain⟨x,t,rfl⟩:=c v f;intro A Q E s _ j;exact aD j
def Fp{dec:Value->Pr}{f:List Value}(m:∀v∈f,IsP s.heap v<|dec v):kS (model prog w) A E s (tuples' true) (·∈(pairsOf f).toList) (λx y=>MY (dec x.1)<|dec y.1):=by
  intro x y st Q q B C h;have mem:∀z:Keyed,z∈(pairsOf f).toList->z.1∈f:=λz hz=>by
   have:=ug7.mp hz;unfold pairsOf at this;rw[List.zip_toArray]at this;exact(xC<|by simpa using this).1
  obtain⟨a,o,n,t,u,j,g,c,d⟩:=m _<|mem x q;obtain⟨b,o',G,t',p,l,g',c',d'⟩:=m _<|mem y B;rw[lt'_eq];refine bC<|kB ?_;rw[C];have hl:wpAny (model prog w) A (keyLt' (tuples' true) x.1 y.1) (λb s'=>s'=s/\b=MY (dec x.1) (dec y.1)) (λ_ _=>False) s:=by
   rw[j,l];refine PySem.W.kat_lt g d g' d' ?_;rw[<-j,<-l];have z:decide ((#[Value.str (dec x.1).1 t,Value.str (dec x.1).2 u]:Array Value).size<(#[Value.str (dec y.1).1 t',Value.str (dec y.1).2 p]:Array Value).size)=false:=rfl;rw[z];show PySem.W.KatLex prog w A true false _ [(Value.str (dec x.1).1 t,Value.str (dec y.1).1 t'),(Value.str (dec x.1).2 u,Value.str (dec y.1).2 p)] 0 s;unfold MY;refine PySem.W.kat_cons<|BC ?_
   by_cases e:(dec x.1).1=(dec y.1).1
   .rw[cI e,aR e];refine PySem.W.kat_yes<|PySem.W.kat_cons<|BC ?_
    by_cases i:(dec x.1).2=(dec y.1).2
    .rw[cI i,i,YC];exact PySem.W.kat_yes<|PySem.W.kat_nil ⟨rfl,rfl⟩
    .rw[eR i];exact PySem.W.kat_no<|PySem.W.kat_one _ _<|lt_str ⟨rfl,rfl⟩
   .rw[eR e,aK e];exact PySem.W.kat_no<|oneLt_str ⟨rfl,rfl⟩
  refine bC<|wpS_lift<|kY<|fM hl ?_ ?_
  .rintro r s' ⟨rfl,rfl⟩;exact⟨rfl,bM h⟩
  .intro _ _ z;exact z.elim
section
variable{it d:Addr}{od:Obj}{es:Array DictEntry}{i ep:Nat}
def Aw(f:s.heap.IsKeyIter it d i es.size ep)(j:s.heap.get? d=some od)(h:od.data=.dict es ep)(o:es[i]?=some e)(q:∀h',h'.IsKeyIter it d (i+1) es.size ep->Heap.SameBut it s.heap h'->Q (some e.key) {s with heap:=h'}):wpAny (model prog w) A (pyNext<|.ref it) Q E s:=by
 obtain⟨⟨z,p,B,v⟩,b,l,hd⟩:=f;dsimp only at l hd;subst l hd;have hd:(Obj.mk (.type "dict_keyiterator") p (.fields #[.ref d,.int (i:Int) 0,.int (es.size:Int) 0,.int (ep:Int) 0]) v).data=.fields #[.ref d,.int (i:Int) 0,.int (es.size:Int) 0,.int (ep:Int) 0]:=rfl;have f:s.heap.IsKeyIter it d i es.size ep:=⟨_,b,rfl,rfl⟩;have a:=f.typeIs;unfold pyNext;refine aB<|kY<|jD a vv4<|fO vv4 a F.entry_dict_keyiterator_next ?_<|F.args_dict_keyiterator_next_1<|.ref it;refine aB<|aD<|aB<|aB<|aB<|GD a<|aD<|aB<|wpAny_fieldsOf b hd ?_;have m:Builtin.Dict_items.ownsTuple "dict_keyiterator"=false:=by decide
 simp only[m,lB,gI];show wpAny _ _ (if (Value.ref d == Value.none)=true then _ else _) _ _ s;rw[aK<|by exact cA];refine aB<|aD<|aB<|pY j h ?_;rw[aK<|by simp];refine aB<|aD<|aB<|CY j h ?_;rw[aK<|by simp];refine aD ?_;dsimp only;have hi:i<es.size:=(vt6.mp o).1;have r:(if (i:Int)<0 then none else es[(i:Int).toNat]?)=some e:=by rw[aK (by lia),lD];exact o
 rw[r];dsimp only;refine aB<|aB<|GD a<|aD ?_;simp only[m,lB,gI];refine aB<|wpAny_isOneOf_keyiter a ?_;have n:=iI (Obj.mapFields λx=>x.setIfInBounds (0+1)<|rawInt<|i+1) b rfl;refine aB<|wpAny_setField (x:=rawInt<|i+1) b hd (show 0+1<4 by decide) ?_;have a1:(s.heap.update it<|Obj.mapFields λx=>x.setIfInBounds (0+1)<|rawInt<|i+1).IsKeyIter it d (i+1) es.size ep:=⟨_,n,rfl,rfl⟩;have u:Shared.TypeIs {s with heap:=s.heap.update it<|Obj.mapFields λx=>x.setIfInBounds (0+1)<|rawInt<|i+1} (.ref it) "dict_keyiterator":=⟨_,n,rfl⟩;refine aB<|dP ?_;refine aB<|wpAny_isOneOf_keyiter u ?_;rw[aR<|by decide];exact aD<|aD ⟨_,rfl,aD<|q _ a1<|kT _ _ _⟩
def tP(r:A.handled=none)(a1:s.heap.IsKeyIter it d i es.size ep)(m:s.heap.get? d=some od)(h:od.data=.dict es ep)(u:es[i]?=none)(p:∀h',Heap.ExtBut it s.heap h'->Q none {s with heap:=h'}):wpAny (model prog w) A (pyNext<|.ref it) Q E s:=by
 obtain⟨⟨v,n,z,o⟩,f,j,hd⟩:=a1;dsimp only at j hd;subst j hd;have hd:(Obj.mk (.type "dict_keyiterator") n (.fields #[.ref d,.int (i:Int) 0,.int (es.size:Int) 0,.int (ep:Int) 0]) o).data=.fields #[.ref d,.int (i:Int) 0,.int (es.size:Int) 0,.int (ep:Int) 0]:=rfl;have a1:s.heap.IsKeyIter it d i es.size ep:=⟨_,f,rfl,rfl⟩;have e:=a1.typeIs;unfold pyNext;refine aB<|kY<|jD e vv4<|fO vv4 e F.entry_dict_keyiterator_next ?_<|F.args_dict_keyiterator_next_1<|.ref it;refine aB<|aD<|aB<|aB<|aB<|GD e<|aD<|aB<|wpAny_fieldsOf f hd ?_;have l:Builtin.Dict_items.ownsTuple "dict_keyiterator"=false:=by decide
 simp only[l,lB,gI];show wpAny _ _ (if (Value.ref d == Value.none)=true then _ else _) _ _ s;rw[aK<|by exact cA];refine aB<|aD<|aB<|pY m h ?_;rw[aK<|by simp];refine aB<|aD<|aB<|CY m h ?_;rw[aK<|by simp];refine aD ?_;dsimp only;have q:(if (i:Int)<0 then none else es[(i:Int).toNat]?)=none:=by rw[aK (by lia),lD];exact u
 rw[q];dsimp only;refine aB<|aB<|GD e<|aD ?_;simp only[l,lB,gI];refine aB<|wpAny_setField (x:=.none) f hd (show 0<4 by decide) ?_;refine NM (s:={s with heap:=_}) (s0:=s) r (Heap.SameBut.extBut<|kT _ _ _) λa h' k ty=>?_;refine aB<|gZ (T:="StopIteration") (b:=true) ty vN ?_;exact aD<|p h' k
def Gw(lo:(d == sysModules)=false)(a:s.heap.get? d=some od)(e:od.cls=.type "dict")(a1:od.data=.dict es ep)(f:Q (.ref s⁻¹) {s with heap:=s.heap.push {cls:=.type "dict_keyiterator",data:=.fields #[.ref d,.int 0 0,.int (es.size:Int) 0,.int (ep:Int) 0]}}):wpAny (model prog w) A (pyIter<|.ref d) Q E s:=by
 have b:s.TypeIs (.ref d) "dict":=⟨_,a,e⟩;refine EH b F.slot_dict_iter<|fO F.slot_dict_iter b F.entry_dict_iter ?_<|F.args_dict_iter_1 _;unfold Builtin.«dict.__iter__» Builtin.Dict.dictSlotNone;refine aB<|aB<|HP b ?_;refine aB<|aD<|aD<|aB<|aD ?_;refine aB (m:=Builtin.Dict.showsAll d) ?_;unfold Builtin.Dict.showsAll;rw[aK<|by rw[lo];exact cA];refine aD ?_;refine aB<|pY a a1<|aB<|CY a a1<|aB<|fY<|aD ⟨_,rfl,"dict_keyiterator",_,⟨_,bY _ rfl,rfl⟩,vv4.lookup,f⟩
def DE(h:Heap)(d:Addr)(es:Array DictEntry)(ep:Nat):Prop:=∃od,h.get? d=some od/\od.cls=.type "dict"/\od.data=.dict es ep
def DE.at(x:DE h d es ep)(k:∀o,h.get? d=some o->h'.get? d=some o):DE h' d es ep:=by
 obtain⟨od,a,b⟩:=x;exact⟨od,k _ a,b⟩
def DE.lt(x:DE h d es ep):d<h.objs.size:=by obtain⟨od,a,b⟩:=x;exact bA a
def XX(p:A.handled=none)(I:Addr)(n:d≠I):Walks prog w A I [I,d] [I] es.size (λi v=>∃e,es[i]?=some e/\v=e.key) (λi h=>h.IsKeyIter I d i es.size ep/\DE h d es ep) where
 sub:=λb f=>by simp at f;simp[f]
 frame:=λi h h' st l=>⟨st.1.at λo e=>l I (by simp) o e,st.2.at λo e=>l d (by simp) o e⟩
 item:=λi s Q E hi st j=>by
  obtain⟨od,a,b,c⟩:=st.2;refine Aw st.1 a c (gJ hi) λh' q m=>?_;exact j _ h' s.toks ⟨_,gJ hi,rfl⟩ ⟨q,st.2.at λo e=>m.extBut _ _ n e⟩ λb o f e=>m.extBut b o (λz=>f<|by simp[z]) e
 done:=λs Q E st j=>by
  obtain⟨od,a,b,c⟩:=st.2;exact tP p st.1 a c (ug4.mpr<|aO _) λh' k=>j h' s.toks λb o f e=>k b o (λz=>f<|by simp[z]) e
 self:=λ_ _ _ _ st j=>wpAny_pyIter_keyiter st.1 j
def YU(lo:(d == sysModules)=false):PySem.W.KdlSrc prog w "dict" d d es.size (λi v=>∃e,es[i]?=some e/\v=e.key) (λh=>DE h d es ep) where
 type:=λs x=>by obtain⟨od,a,b,c⟩:=x;exact⟨od,a,b⟩
 there:=λh x=>⟨x.lt,x.lt⟩
 keep:=λh h' x k=>x.at λo e=>k d (.inl rfl) o e
 notList:=by decide
 notTuple:=by decide
 hint:=λA E s Q x f=>by
  obtain⟨od,a,b,c⟩:=x;exact PySem.W.kdl_hint_dict ⟨od,a,b⟩ f
 iter:=λA s j x=>by
  obtain⟨od,a,b,c⟩:=x;refine⟨{cls:=.type "dict_keyiterator",data:=.fields #[.ref d,.int 0 0,.int (es.size:Int) 0,.int (ep:Int) 0]},λi h=>h.IsKeyIter s⁻¹ d i es.size ep/\DE h d es ep,λE Q f=>Gw lo a b c f,XX j _<|bI<|bA a,⟨_,bY _ rfl,rfl,rfl⟩,od,aZ _ a,b,c⟩
end
section
variable{T:String}{r d:Addr}{n:Nat}{P:Nat->Value->Prop}{OK:Heap->Prop}
def UH(S:PySem.W.KdlSrc prog w T r d n P OK)(m:A.handled=none)(ok:OK s.heap)(q:n<=sizeLine)(h:∀h' tk (acc:Array Value),(∀b o,s.heap.get? b=some o->h'.get? b=some o)->ItemsOf P acc n->s⁻¹<h'.objs.size->Q acc.toList {s with heap:=h',toks:=tk}):wpAny (model prog w) A (collect<|.ref r) Q E s:=by
 unfold collect;refine aB<|wpAny_runValue<|jP F.entry_proto_collect ?_;rw[kI F.plain_proto_collect _];show wpAny _ A.in1 (newList [] >>= λl=>again<|.builtin "list.__iadd__" ⟨[l,.ref r],[]⟩) _ _ s;refine aB<|fY ?_;refine aD ⟨lX GX _,jP F.entry_list_iadd ?_⟩;rw[kI GX _];have th:=S.there _ ok;have a1:(s.heap.push {cls:=.type "list",data:=.seq ([]:List Value).toArray}).get? s⁻¹=some {cls:=.type "list",data:=.seq ([]:List Value).toArray}:=bY _ rfl;have j:OK (s.heap.push {cls:=.type "list",data:=.seq ([]:List Value).toArray}):=S.keep _ _ ok λb u o e=>aZ _ e;show wpAny _ A.in1 (Builtin.List.listExtendWith (.ref s⁻¹) (.ref r)<|.ref s⁻¹) _ _ _;refine PySem.W.kdl_extend (R:=λr s'=>match r with
    | .ok (.ret v)=>wpAny (model prog w) A (match v with
      | .ref a=>do
       match (<-load a).data with
        | .seq xs _=>pure xs.toList
        | _=>unsupported "internal:collect"
      | _=>unsupported "internal:collect") Q E s'
    | .ok _=>False
    | .error e=>E e s') (s:={s with heap:=s.heap.push {cls:=.type "list",data:=.seq ([]:List Value).toArray}}) S m j s⁻¹ (cQ th.1) (cQ th.2) _ 0 a1 (λh' tk acc c' p f i=>?_) q
 show wpAny _ A (load s⁻¹ >>= _) _ _ _;refine aB<|wpAny_load (s:={s with heap:=h',toks:=tk}) f ?_;exact aD<|h h' tk acc (λb o e=>p b o (bI<|bA e)<|aZ _ e) i<|bA f
end
def YS(hz:z∈(pairsOf vs).toList):z.1∈vs/\z.2=z.1:=by
 have:=ug7.mp hz;unfold pairsOf at this;rw[List.zip_toArray]at this;have h:z∈List.zip vs vs:=by simpa using this
 exists (xC h).1;obtain⟨i,hi,e⟩:=mP h;rw[<-e,List.getElem_zip]
def XO(a:List Value):(pairsOf a).toList=a.map λv=>(v,v):=by
 unfold pairsOf;rw[List.zip_toArray];show List.zip a a=_
 induction a with
 | nil=>rfl
 | cons v a ih=>rw[GM,ih];rfl
def Dh{x:Value}{dec:Value->Pr}{Q:Vp}
  (u:wpAny (model prog w) A.in1 (collect x) (λa d=>↑a<128/\(∀v∈a,IsP d.heap v<|dec v)/\
   ∀h' e (j:List Value),j.Perm a->(∀b o,d.heap.get? b=some o->h'.get? b=some o)->h'.get? d⁻¹=some (seqObj "list" j.toArray e)->Q (.ref d⁻¹) {d with heap:=h'}) E s):
  wpAny (model prog w) A (call (.builtin "sorted") [x]) Q E s:=by
 refine GI kind_sorted plain_sorted entry_sorted (args_sorted1 x) ?_;unfold Builtin.«sorted»;refine aB (m:=checkCount "sorted" 1 1 _)<|aD ?_;refine aB<|fM u ?_ λ_ _ z=>z;rintro a d ⟨hz,C,r⟩;have i:↑a<=sizeLine:=by rw[kR];lia
 refine aB<|wpAny_newList ?_ i;have h:(d.heap.push<|seqObj "list" a.toArray 0).get? d⁻¹=some (seqObj "list" a.toArray 0):=bY _ rfl;have H:∀b o,d.heap.get? b=some o->(nK (d.heap.push<|seqObj "list" a.toArray 0) d⁻¹ a).get? b=some o:=λb o e=>by
  have f:=bA e;unfold nK;refine aZ _<|aZ _ ?_;rw[kM _ _<|cQ f];exact aZ _ e
 have p:∀v∈a,IsP (nK (d.heap.push<|seqObj "list" a.toArray 0) d⁻¹ a) v (dec v):=λv i=>(C v i).keep H;refine aB<|dP<|fO slot_list_sort (s:={d with heap:=d.heap.push<|seqObj "list" a.toArray 0}) ⟨_,h,rfl⟩ entry_list_sort (XM (kd:=tuples' true) (s:={d with heap:=d.heap.push<|seqObj "list" a.toArray 0}) h hz (λh2 K q=>WS (dec:=dec) p (λz=>by rw[z]at h2;simp at h2) q) (Fp p) λout a1=>⟨_,rfl,?_⟩)<|args_list_sort _;obtain⟨e,I⟩:=sortedHeap_at (out:=out.map (·.2)) h;have l:=vz6.mp a1;have J:out.toList.map (·.2)=out.toList.map (·.1):=rT λz hz=>(YS<|l.mem_iff.mp hz).2;have p2:(out.toList.map (·.1)).Perm a:=by
  have:=l.map (·.1);rw[XO,kO]at this;have G:a.map ((λx:Keyed=>x.1)∘λv=>(v,v))=a:=by
   show a.map (λv=>v)=a;exact List.map_id' a
  rwa [G]at this
 refine aD ⟨_,rfl,r _ e (out.toList.map (·.1)) p2 (λb o n=>?_) ?_⟩
 .have f:=bA n;rw[sortedHeap_old (bI f)<|by rw[size_push'];exact jY f];exact aZ _ n
 .rw[<-J];have B:(out.toList.map (·.2)).toArray=out.map (·.2):=by rw[<-Array.toList_map,Array.toArray_toList]
  rw[B];exact I
def MM(J:It)(g:TG)(tt:TT)(tk te:TE)(D:Addr)(σ0:St)(H0:Hp)(Q:Hp->Prop):Prop:=
 ∃W:Nat->Nat->St->Hp->Prop,(∃m,W 0 m σ0 H0)/\∀i m σ H,W i m σ H->
 (J.stop i H/\Q H)\/(J.go i H/\∃N:St->Hp->Prop,(∀σ' H',N σ' H'->∃m',m'<m/\W (i+1) m' σ' H')/\∀x H',J.yld i H x H'->g x σ H' λσ2 H2=>tt σ2 H2 λb H3=>
  if b=true then tk σ2 H3 λkx H4=>te σ2 H4 λv H5=>∃kvs k b,kx=.ref b/\H5 b=some (.tup<|k.map kV)/\H5 D=some (.dT kvs)/\↑kvs<sizeLine/\N σ2 (aA H5 D<|.dT<|aU kvs k v) else N σ2 H3)
section
variable{scope:Scope}{N':List Str}{src:List (Option Nat)}{pins:List (Addr×Obj)}{σ:St}{H2:Hp}{s2:Shared}
def Br{kx vx tg a6:Expr}{ac:List Expr}{pos:Pos}{it:Addr}{fp:List Addr}{M:Nat->Heap->Prop}{J:It}{g:TG}{tt:TT}{ai te:TE}{Q:Addr->Hp->Prop}
  {RR:Value->Addr->Result->Shared->Prop} {E:Vp} (hc:X.calm=true) (hu:(tupleKind<|cE X.prog X.w).room X.A)
  (B:BlkN X scope N' src) (ar:∀x k,(x,k)∈scope.names->k=.free->∀k',(x,k')∈scope.names->k'=.free) (T:eX X.prog X.w X.K tg J fp it M) (I:Inv X pins σ H2 s2) (h0:M 0 s2.heap) (l:∀b∈fp,dH X pins H2 b)
  (hg:∀s3 H3 C,PG (bZ X scope N' s3 H3 C fp) tg g) (ht:∀s3 H3 C,lT (bZ X scope N' s3 H3 C fp) ac tt) (hk:∀s3 H3 C,PE (bZ X scope N' s3 H3 C fp) kx ai) (he:∀s3 H3 C,PE (bZ X scope N' s3 H3 C fp) vx te)
  (hw:∀D,H2 D=none->MM J g tt ai te D (sub src σ) (aA H2 D<|.dT []) (Q D))
  (hQ:∀D C H' s',C≠D->(∃m,s'.heap.Ns C m)->(∀ab ,Heap.SameBut C s'.heap ab->Inv X pins σ H' {s' with heap:=ab})->Inv X pins σ H' s'->H' C=none->C≠X.env.locals->(∀x c,X.env.cells.lookup x=some c->c≠C)->X.s₀⁻¹<=C->(∀p∈X.pn++pins,p.1≠C)->Q D H'->RR (.ref D) C (.ok .next) s'):
  wpAny (model X.prog X.w) X.A (newDict) (λacc O=>wpAny (model X.prog X.w) X.A (newFunctionEnv scope X.env.globals (bT X.env scope.names) [] X.env.qual none .none<|some X.env) (λa8 s₄=>
   codeAny (model X.prog X.w) X.A (.compStart (.DictComp kx vx [⟨tg,a6,ac,0⟩] scope pos) 0 (.ref it) acc {a8 with scope:=relabel scope X.env}) (RR acc a8.locals) s₄) E O) E s2:=by
 have a9:∀y∈scope.names,y.2≠.cell:=λy hy=>cC<|vm1.mp B.nocell y hy;refine fY<|wpAny_newFunctionEnv a9 (by intro y hy;simp at hy) (λP a5 a2=>?_) B.kind;dsimp only at a5 a2 ⊢;have b0:H2 s2⁻¹=none:=I.hok.fresh<|aO _;have G:Inv X pins σ (aA H2 s2⁻¹<|.dT []) {s2 with heap:=s2.heap.push {cls:=.type "dict",data:=.dict #[]}}:=
  I.laid (t':=s2.toks) (λb o e=>aZ _ e) (aO _) (TU s2.heap I.big)
 generalize hH3:(s2.heap.push {cls:=.type "dict",data:=.dict #[]})=f at a5 a2 G ⊢;have ae:f.objs.size=s2⁻¹+1:=by rw[<-hH3,jU]
 have a4:∀b o,s2.heap.get? b=some o->f.get? b=some o:=λb o e=>by rw[<-hH3];exact aZ _ e
 have a1:∀b o,f.get? b=some o->P.get? b=some o:=λb o e=>a2.extBut b o (bI<|bA e)<|aZ _ e;have a3:s2⁻¹<f.objs.size:=by rw[ae];exact oB _
 have aq:∀b∈fp,dH X pins (aA H2 s2⁻¹<|.dT []) b:=λb j=>by
  obtain⟨o,e,_⟩:=T.obj _ _ h0 b j;refine⟨?_,(l b j).2⟩;rw[aI<|bI<|bA e];exact(l b j).1
 have a7:∀b∈fp,b<f.objs.size:=λb j=>by
  obtain⟨o,e,_⟩:=T.obj _ _ h0 b j;exact fP (bA e) a3
 have as:=IZ (fp:=fp) (C:=f.objs.size) (s4:={s2 with heap:=P,toks:=s2.toks+↑([]:List (Str×Value))}) B G aq a7 ar rfl a5 a1 rfl rfl;have aj:M 0 P:=T.keep _ _ _ h0 λb j o e=>a1 b o<|a4 b o e;obtain⟨W,⟨m0,w0⟩,turn⟩:=hw s2⁻¹ b0;have ag:∀{H':Hp},(∀b∈fp,H' b=none)->∀b∈fp,dH (bZ X scope N' {s2 with heap:=f} (aA H2 s2⁻¹<|.dT []) f.objs.size fp) [] H' b:=λhn b j=>by
  refine⟨hn b j,bI<|a7 b j,?_,.inl j,λx c h=>(l b j).2.2.2.2.1 x c (B.back I.ok h).1,λp hp=>absurd (show p∈([]:List (Addr×Obj)) from hp)<|by simp⟩;intro z;rcases vh3.mp (G.stkSub b z)with y | y
  .exact(l b j).2.1 y
  .exact(l b j).2.2.1 y
 have ay:∀(s':Shared)(σ':St)(H':Hp),Inv (bZ X scope N' {s2 with heap:=f} (aA H2 s2⁻¹<|.dT []) f.objs.size fp) [] σ' H' s'->Q s2⁻¹ H'->RR (.ref s2⁻¹) f.objs.size (.ok .next) s':=λs' σ' H' L q=>by
  obtain⟨hh,gg,dd,af,aw⟩:=s';have b6:aw=s2.os:=L.os;subst b6;have IX:Inv X pins σ H' {({s2 with heap:=f}:Shared)with heap:=hh,gens:=gg,drawn:=dd,toks:=af}:=Inv.call (s:={s2 with heap:=f}) G (h':=hh) (g':=gg) (d':=dd) (t':=af) (ch:=fp) L.base L.hok L.bare λb j=>⟨(l b j).2.2.2.1,(l b j).2.1,(l b j).2.2.2.2.1,(l b j).2.2.2.2.2⟩;have bb:s2⁻¹<=f.objs.size:=cM a3;have al:f.objs.size≠X.env.locals:=cQ G.lt;have ah:∀x c,X.env.cells.lookup x=some c->c≠f.objs.size:=λx c e z=>by
   obtain⟨v,q⟩:=G.cell x c e;exact absurd (show c<f.objs.size from q.lt) (by rw[z];exact iB _)
  have ap:∀p∈X.pn++pins,p.1≠f.objs.size:=λp hp z=>by
   have:=bA (G.pin p hp).1;exact absurd (show p.1<f.objs.size from this) (by rw[z];exact iB _)
  have an:H' f.objs.size=none:=L.free;obtain⟨m,hm,_⟩:=L.loc;refine hQ _ _ H' _ (cQ a3) ⟨m,hm⟩ (λab sb=>?_) IX an al ah (fI G.sz<|aO _) ap q;exact IX.turned (t':=af) (λb o j e=>(sb.2 b j).trans e) an al (.inr<|fI G.sz<|aO _) ah ap
 have H:∀O:Shared,O={s2 with heap:=P,toks:=s2.toks+↑([]:List (Str×Value))}->
   codeAny (model X.prog X.w) X.A (.compLoop (.DictComp kx vx [⟨tg,a6,ac,0⟩] scope pos) 0 (.ref it) (.ref s2⁻¹)<|compEnvC scope (bT X.env scope.names) f.objs.size X.env)
    (RR (.ref s2⁻¹) f.objs.size) O:=by
  rintro O rfl;refine VQ (λn s'=>∃i σ' H',Inv (bZ X scope N' {s2 with heap:=f} (aA H2 s2⁻¹<|.dT []) f.objs.size fp) [] σ' H' s'/\M i s'.heap/\(∀b∈fp,H' b=none)/\W i n σ' H') ?_ m0 ⟨0,_,_,as,aj,λb j=>(aq b j).1,w0⟩;rintro n s5 ⟨i,σ5,Y,I5,ao,ak,w5⟩;rcases turn i n σ5 Y w5 with ⟨stop,qn⟩ | ⟨go,Nx,hN,step⟩
  .refine aS (T.done (bZ X scope N' {s2 with heap:=f} (aA H2 s2⁻¹<|.dT []) f.objs.size fp) rfl rfl rfl hc i [] s5 σ5 Y _ I5 (ag ak) ao stop) ?_;rintro r s6 ⟨hr,I6⟩;subst hr;exact ay s6 σ5 Y I6 qn
  .refine aS (T.item (bZ X scope N' {s2 with heap:=f} (aA H2 s2⁻¹<|.dT []) f.objs.size fp) rfl rfl rfl hc i [] s5 σ5 Y _ I5 (ag ak) ao go) ?_;rintro r s6 ⟨u,hr,h6⟩;subst hr;refine aS h6 ?_;rintro _ s7 ⟨x,H7,I7,r7,y7,ad,ba⟩;have b9:=I7.pinned (ag ba)<|T.obj _ _ ad;refine aS (hg _ _ _ _ s7 σ5 H7 x u _ b9 r7<|step x H7 y7) ?_;rintro _ s8 ⟨σ8,H8,I8,q8⟩;refine aS (ht _ _ _ _ s8 σ8 H8 _ I8 q8) ?_;rintro ok s9 ⟨H9,I9,q9⟩;have again:∀{σa:St}{N:Hp}{Z:Shared},Inv (bZ X scope N' {s2 with heap:=f} (aA H2 s2⁻¹<|.dT []) f.objs.size fp) ([]++tQ fp s7.heap) σa N Z->Nx σa N->
     ∃m,m<n/\∃i σ' H',Inv (bZ X scope N' {s2 with heap:=f} (aA H2 s2⁻¹<|.dT []) f.objs.size fp) [] σ' H' Z/\M i Z.heap/\(∀b∈fp,H' b=none)/\W i m σ' H':=λ{σa N Z} Ia na=>by
    obtain⟨m',hm,wa⟩:=hN σa N na;refine⟨m',hm,i+1,σa,N,Ia.unpinned,T.keep _ _ _ ad λb j o e=>(Ia.pin (b,o)<|fR _<|fR _<|pN j e).1,λb j=>?_,wa⟩;obtain⟨o,e,d⟩:=T.obj _ _ ad b j;exact(Ia.pin (b,o)<|fR _<|fR _<|pN j e).2.1
   cases ok with
   | false=>exact again I9 q9
   | true=>
    refine aS (hk _ _ _ _ s9 σ8 H9 _ I9 q9) ?_;rintro kv b8 ⟨kk,az,b1,rk,au⟩;refine aS (he _ _ _ _ b8 σ8 az _ b1 au) ?_;rintro y b4 ⟨v,b7,aa,b3,kvs,k,b,ek,eb,hx,hl,av⟩;subst ek;cases (show kv=Value.ref b from rk);obtain⟨z,hd,xs,am,dd⟩:=IH aa.hok hx;have hz:↑xs<=sizeLine:=by rw[<-DW am];exact z
    have b2:↑(aU kvs k v)<=sizeLine:=by have:=nM kvs k v;lia
    refine wpAny_dictSet_heap (hsz:=hz) hu (xF aa.hok eb) dd λh' b5 hs=>?_;obtain⟨q,es,ep,hq,h2,h3,h4,_,h5⟩:=b5;have ax:=nI (t':=b4.toks+(tupleKind<|cE X.prog X.w).draws k) aa (by rw[hx];exact jG) hs ⟨q,hq⟩ (show ObjOk X.prog X.w (aA b7 s2⁻¹<|.dT<|aU kvs k v) h' s2⁻¹ (.dT<|aU kvs k v) from ⟨b2,hd,_,(am.put k eb b3).keeps λc ys ec=>by
     rw[aI<|KS ec hx λz=>nomatch z];exact ec,q,es,ep,hq,h2,h3,h4,h5⟩)
    exact again ax av
 exact codeAny_compStart_dict (H _ rfl)<|T.self _ 0 _ _ _ aj<|H _ rfl
def tM(wi:TI)(src:List (Option Nat))(g:TG)(tt:TT)(tkx te:TE):TE:=λσ H Q=>wi σ H λJ H2=>∀D,H2 D=none->MM J g tt tkx te D (sub src σ) (aA H2 D<|.dT []) λH'=>Q (.ref D) H'
def Bk(E:X.calm=true)(O:(tupleKind<|cE X.prog X.w).room X.A)(B:BlkN X scope N' src)(hi:PI X tg iter wi)(o:∀s3 H3 C fp,PG (bZ X scope N' s3 H3 C fp) tg g)(P:∀s3 H3 C fp,lT (bZ X scope N' s3 H3 C fp) ifs tt)(j:∀s3 H3 C fp,PE (bZ X scope N' s3 H3 C fp) kx tkx)(Z:∀s3 H3 C fp,PE (bZ X scope N' s3 H3 C fp) vx te)(l:(scope.names.all λy=>decide (y.2=.free->∀z∈scope.names,z.1=y.1->z.2=.free))=true:=by rfl')(L:∀x,foldedSetIterable iter X.env x=pure x:=by intro _;rfl):
  PE X (.DictComp kx vx [⟨tg,iter,ifs,0⟩] scope pos) (tM wi src g tt tkx te):=by
 intro a1 s σ H Q I h;have M:∀x k,(x,k)∈scope.names->k=.free->∀e,(x,e)∈scope.names->e=.free:=λx k d j e p=>cC (vm1.mp l (x,k) d) j (x,e) p rfl;have v:closureFor scope X.env=pure (bT X.env scope.names):=xZ λy i f=>I.ok.has y.1<|cC (vm1.mp B.frees y i) f;have K:∀y∈scope.names,y.2=.local->scope.names.lookup y.1=some .local:=λy i=>cC<|vm1.mp B.locs y i;rw[arm_eval_DictComp];refine xS (use:=none) rfl L v B.kind K<|aS (hi a1 s σ H _ I h) λxv s₁ r=>aS r λab s2 h2=>?_;obtain⟨it,fp,tn,J,H2,rfl,W,T,N,f,n⟩:=h2;refine Br (RR:=λacc C=>compPost (model X.prog X.w) X.A X.xe none (EP X a1 σ Q) acc C) (Q:=λD H'=>Q (.ref D) H') E O B M T W N f (λa b c=>o a b c fp) (λa b c=>P a b c fp) (λa b c=>j a b c fp) (λa b c=>Z a b c fp) n ?_;intro D C H' s' aa d Y IX ac a9 a8 ae ad q;obtain⟨m,d⟩:=d;exact⟨m,d,λG u=>⟨.ref D,H',Y G u,rfl,q⟩⟩
end
section
variable{KK:Type}[DecidableEq KK]{knd:HeapKind prog w KK}
def XV(z:knd.room A)(u:knd.is s.heap k a)(hd:s.heap.DictOfH knd d xs)(hsz:↑xs<=sizeLine)(r:∀h',h'.DictOfH knd d (storedH xs k a v)->Heap.SameBut d s.heap h'->Q () {s with heap:=h'}):wpAny (model prog w) A (dictSetHashed d (.ref a) (knd.hash k) v) Q E s:=by
 obtain⟨o,es,ep,h1,h2,b,m,q,h⟩:=hd;unfold dictSetHashed;refine dP<|aB<|wpAny_dictFind_heap z u h1 b m q h (λn=>?_) λj p l=>?_
 .refine aB<|fN ?_;refine wpAny_updateDictKeys h1 b ?_ (by rw[zX m];exact hsz) (by simp);have i:Heap.SameBut d s.heap (s.heap.update d<|Obj.mapDictKeys λx=>x.push ⟨knd.hash k,.ref a,v⟩):=kT _ _ _;have g:=iI (Obj.mapDictKeys λx=>x.push ⟨knd.hash k,.ref a,v⟩) h1<|Obj.isFreed_of_dict<|Obj.data_mapDictKeys b _;refine r _ ⟨_,_,_,g,h2.mapDictKeys _,Obj.data_mapDictKeys b _,?_,λx f=>?_,?_⟩ i
  .rw[storedH_new<|atKey_none_of_get n,pG,m,bP];rfl
  .rw[storedH_new<|atKey_none_of_get n]at f;rcases vj5.mp f with f | f
   .exact knd.keeps (q x f) h1 b i
   .cases vh7.mp f;exact knd.keeps u h1 b i
  .rw[storedH_new<|atKey_none_of_get n,bP];exact zT h<|not_mem_keys_of_get n
 .refine aB (fN<|aB<|wpAny_updateDict h1 b (wpAny_point ?_)<|by simp);have i:Heap.SameBut d s.heap (s.heap.update d<|Obj.mapDict λx=>x.modify j λe=>⟨e.hash,e.key,v⟩):=kT _ _ _;have g:=iI (Obj.mapDict λx=>x.modify j λe=>⟨e.hash,e.key,v⟩) h1<|Obj.isFreed_of_dict<|Obj.data_mapDict b _;refine r _ ⟨_,_,_,g,h2.mapDict _,Obj.data_mapDict b _,?_,λx f=>?_,?_⟩ i
  .rw[storedH_old<|atKey_of_get h l,Array.toList_modify,m];exact modify_map_putAt (entryOfKey knd) (λe=>⟨e.hash,e.key,v⟩) k v (λa C=>rfl) h l
  .rw[storedH_old<|atKey_of_get h l]at f;obtain⟨y,B,rfl⟩:=vh6.mp f;have:=knd.keeps (q y B) h1 b i;unfold putAt
   split
   .exact this
   .exact this
  .rw[storedH_old<|atKey_of_get h l,keys_map_putAt];exact h
def kC(xs more:List (KK×Addr×Value)):List (KK×Addr×Value):=more.foldl (λa x=>storedH a x.1 x.2.1 x.2.2) xs
def Cn(xs:List (KK×Addr×Value))(k:KK)(a:Addr)(v:Value):↑(storedH xs k a v)<=↑xs+1:=by
 unfold storedH
 split
 .rw[aG];lia
 .rw[bL];exact aO _
def XS(hr:knd.room A)(r:d≠o)(T:(o == sysModules)=false)(hd:s.heap.DictOfH knd d xs)(ho:s.heap.DictOfH knd o more)(X:xs≠[])(hsz:↑xs+↑more<=sizeLine)(L:∀h',h'.DictOfH knd d (kC xs more)->Heap.SameBut d s.heap h'->Q () {s with heap:=h'}):wpAny (model prog w) A (Builtin.Dict.mergeDict nm d o) Q E s:=by
 obtain⟨od,C,a7,G,d2,B,K,d5,d6⟩:=id hd;obtain⟨M,q,a8,f,o2,n,J,Y,o6⟩:=id ho;unfold Builtin.Dict.mergeDict;rw[aK<|by rw[beq_iff_eq];exact r];refine aB (m:=Builtin.Dict.showsAll o) ?_;unfold Builtin.Dict.showsAll;rw[aK<|by rw[T];exact cA];refine aD<|aB<|pY f n ?_;have I:wpAny (model prog w) A (dictEpoch o >>= λP=>dictEntries o >>= λl=>(forIn [:l.size] PUnit.unit λi _=>dictEntries o >>= λl2=>match l2[i]? with
   | some e=>holding [e.key,e.val] (dictSetHashed d e.key e.hash e.val) >>= λ_=>dictEpoch o >>= λl3=>if (l3 != P)=true then unsupported (toString nm++toString ":source-changed-during-callback") >>= λ(_:Unit)=>pure (ForInStep.yield PUnit.unit) else pure (ForInStep.yield PUnit.unit)
   | _=>unsupported "internal:dict-merge" >>= λ(_:Unit)=>pure<|ForInStep.yield PUnit.unit) >>= λ_=>pure ()) Q E s:=by
  refine aB<|CY f n<|aB<|pY f n<|aB ?_;have W:q.size=↑more:=zX J;rw[Std.Legacy.Range.forIn_eq_forIn_range'];refine wV _ (λrest _ u=>∃j h1,rest=List.range' j (↑more-j)/\j<=↑more/\u={s with heap:=h1}/\h1.DictOfH knd d (kC xs<|more.take j)/\Heap.SameBut d s.heap h1) _ ?_ ?_ _ _ ?_
  .rintro i rest b u ⟨j,h1,a,hj,rfl,p,h⟩;have a1:j<↑more:=by
    rcases iJ j ↑more with z | z
    .exact z
    .rw[Nat.sub_eq_zero_of_le z]at a;cases a
   rw[show ↑more-j=(↑more-(j+1))+1 by lia,List.range'_succ]at a;injection a with ei er;subst er;subst ei;obtain⟨j,rfl⟩:∃j,j=i:=⟨i,rfl⟩;have N:h1.get? o=some M:=h.extBut _ _ (cW r) f;refine aB<|pY (s:={s with heap:=h1}) N n ?_;have O:q[j]?=some (entryOfKey knd more[j]):=by
    rw[<-iF,J,bD,bH a1];rfl
   rw[O];have a9:↑(kC xs<|more.take j)<=↑xs+j:=by
    have v:∀(l ys:List (KK×Addr×Value)),↑(kC ys l)<=↑ys+↑l:=by
     intro l
     induction l with
     | nil=>intro ys;exact aO _
     | cons x l ih=>
      intro ys;have:=ih<|storedH ys x.1 x.2.1 x.2.2;have h2:=Cn ys x.1 x.2.1 x.2.2;show(kC (storedH ys x.1 x.2.1 x.2.2) l).length<=_;rw[cY];lia
    have:=v (more.take j) xs;rw[dI]at this;lia
   have hm:more[j]∈more:=fT a1;refine aB<|dP<|XV (s:={s with heap:=h1}) hr (knd.keeps (Y _ hm) G B h) p (by lia) λh2 q1 q2=>?_;have H:=h.trans q2;refine aB<|CY (s:={s with heap:=h2}) (H.extBut _ _ (cW r) f) n ?_;rw[aK<|by simp];refine aD ⟨j+1,h2,rfl,a1,rfl,?_,H⟩;have e2:kC xs (more.take<|j+1)=storedH (kC xs<|more.take j) more[j].1 more[j].2.1 more[j].2.2:=by
    unfold kC;rw[dG,bH a1,List.foldl_append];rfl
   rw[e2];exact q1
  .rintro b u ⟨j,h1,a,hj,rfl,p,h⟩;have Z:j=↑more:=by
    rcases iJ j ↑more with z | z
    .rw[show ↑more-j=(↑more-(j+1))+1 by lia,List.range'_succ]at a;cases a
    .lia
   subst Z;rw[List.take_length]at p;exact aD<|L h1 p h
  .refine⟨0,s.heap,?_,bO _,rfl,hd,vM _ _⟩;show List.range' 0 ((q.size-0+1-1) / 1)=List.range' 0 (↑more-0);rw[W,Nat.div_one];rfl
 have he:C.isEmpty=false:=by
  have:=zX K;cases e:C.isEmpty with
  | false=>rfl
  | true=>
   rw[Array.isEmpty_iff_size_eq_zero]at e;rw[e]at this;exact absurd (vt4.mp this.symm) X
 dsimp only;refine hC (λ_=>?_) λ_=>I;refine aB<|pY G B ?_;rw[aK<|by rw[he];exact cA];exact I
end
def bW(p:Pr):List aL:=[Sum.inr p.1,Sum.inr p.2]
def MB(h:bW p=bW q):p=q:=by
 unfold bW at h;injection h with h1 h2;injection h2 with h2 _;exact Prod.ext (pR h1)<|pR h2
abbrev bX(P:Program)(w:World):=tupleKind<|cE P w
def RO(P:Program)(w:World)(a:Addr)(qs:List (Pr×Addr))(h:Heap):Prop:=↑qs<=sizeLine/\(a == sysModules)=false/\∃xs:List (List aL×Addr×Value),xs.map (λx=>(x.1,x.2.1))=qs.map (λq=>(bW q.1,q.2))/\
 ∃o es ep,h.get? a=some o/\o.ExactDict/\o.data=.dict es ep/\es.toList=xs.map (entryOfKey<|bX P w)/\(xs.map (·.1)).Nodup
def gF(P:Program)(w:World)(a:Addr)(qs:List (Pr×Addr)):HO:=.ext<|RO P w a qs
def HW(x:RO P w a qs h):ObjOk P w H h a (gF P w a qs):=by
 refine⟨x,?_,λh1 h2 y k=>?_⟩
 .obtain⟨_,_,xs,_,o,_,_,e,_⟩:=x;exact⟨o,e⟩
 .obtain⟨z,hd,d,r,b,es,ep,e,c⟩:=y;exact⟨z,hd,d,r,b,es,ep,k _ e,c⟩
def fJ(K:Fg)(H:Hp)(qs:List (Pr×Addr)):Prop:=∀q∈qs,SqT K H q.2 [.str q.1.1,.str q.1.2]
section
variable{pins:List (Addr×Obj)}{σ:St}{H:Hp}{s:Shared}
def vB(I:Inv X pins σ H s)(h:SqT X.K H b [.str n.1,.str n.2]):(bX X.prog X.w).is s.heap (bW n) b:=by
 obtain⟨its,r,⟨o,h1,h2,m,a⟩,_⟩:=I.tuple h;exact⟨o,its.toArray,m,h1,h2,a,by simpa using JO (ks:=bW n) r⟩
def MS(I:Inv X pins σ H s)(f:H a=some (gF X.prog X.w a qs))(ok:fJ X.K H qs):↑qs<=sizeLine/\(a == sysModules)=false/\
  ∃xs:List (List aL×Addr×Value),xs.map (λx=>(x.1,x.2.1))=qs.map (λq=>(bW q.1,q.2))/\s.heap.DictOfH (bX X.prog X.w) a xs:=by
 obtain⟨z,hd,xs,r,o,es,ep,h1,h2,j,h,i⟩:=(I.hok a _ f).1;refine⟨z,hd,xs,r,o,es,ep,h1,h2,j,h,λx d=>?_,i⟩;have:(x.1,x.2.1)∈qs.map (λq=>(bW q.1,q.2)):=by rw[<-r];exact vh6.mpr ⟨x,d,rfl⟩
 obtain⟨q,b,e⟩:=vh6.mp this;injection e with e1 e2;rw[<-e1,<-e2];exact vB I<|ok q b
def qJ{xs:List (List aL×Addr×Value)}{b:List (Pr×Addr)}{n:Pr}(r:xs.map (λx=>(x.1,x.2.1))=b.map (λq=>(bW q.1,q.2))):(atKey xs<|bW n).isSome=decide (n∈b.map (·.1)):=by
 unfold atKey;rw[Option.isSome_map,mS,pX,List.find?_isSome]
 constructor
 .rintro⟨x,d,e⟩;have e:=cC e;have:(x.1,x.2.1)∈b.map (λq=>(bW q.1,q.2)):=by rw[<-r];exact vh6.mpr ⟨x,d,rfl⟩
  obtain⟨q,f,a⟩:=vh6.mp this;injection a with e1 a;rw[e]at e1;exact vh6.mpr ⟨q,f,MB e1⟩
 .intro h;obtain⟨q,f,e⟩:=vh6.mp h;have:(bW q.1,q.2)∈xs.map (λx=>(x.1,x.2.1)):=by rw[r];exact vh6.mpr ⟨q,f,rfl⟩
  obtain⟨x,d,a⟩:=vh6.mp this;injection a with e1 a;exact⟨x,d,cI<|by rw[e1,e]⟩
end
section
variable{i o:Expr}{ty td:TE}
def KH(P:Program)(w:World)(K:Fg)(ty td:TE):TE:=λσ H Q=>ty σ H λy H1=>td σ H1 λx H2=>∃a b qs n,x=.ref a/\y=.ref b/\H2 a=some (gF P w a qs)/\fJ K H2 qs/\SqT K H2 b [.str n.1,.str n.2]/\Q (.bl<|decide<|n∈qs.map (·.1)) H2
def uS(l:X.A.units+1<cLine)(hi:PE X i ty)(m:PE X o td):PC X .In i o (KH X.prog X.w X.K ty td):=by
 intro e s σ H Q I h;refine aS (hi e s σ H _ I h) λC J ⟨y,H1,E,p,B⟩=>aS (m e J σ H1 _ E B) ?_;rintro u s2 ⟨x,H2,d,G,a,b,L,n,ex,f,g,ok,j,q⟩;subst ex f;obtain rfl:u=Value.ref a:=G;obtain rfl:C=Value.ref b:=p;obtain⟨z,hd,xs,r,v⟩:=MS d g ok;refine wpAny_in_heap (rB l) (vB d j) hd v ?_;rw[qJ r];exact⟨.bl _,H2,d.tok _,rfl,q⟩
def Co(e:(d == sysModules)=false)(h1:s.heap.get? d=some od)(h2:od.cls=.type "dict")(f:od.data=.dict es ep)(hz:es.size<=sizeLine)(h:∀t t',Q (.int (es.size:Int) t) {s with toks:=t'}):wpAny (model prog w) A (call (.builtin "len") [.ref d]) Q E s:=by
 have a:s.TypeIs (.ref d) "dict":=⟨_,h1,h2⟩;rw[kR]at hz;refine GI kind_len plain_len entry_len (args_len1<|.ref d) ?_;unfold Builtin.len;refine aB (m:=oneArg _ _)<|aD ?_;refine aB<|jD a F.slot_dict_len<|fO F.slot_dict_len a F.entry_dict_len ?_<|F.args_dict_len_1<|.ref d;unfold Builtin.«dict.__len__» Builtin.Dict.dictSlotNone;refine aB<|aB<|HP a ?_;refine aB<|aD<|aD<|aB<|aD ?_;unfold dictSize Builtin.Dict.pendingCount;refine aB<|aB<|pY h1 f<|aD<|aB ?_;rw[aK<|by rw[e];exact cA];refine aD ?_;unfold retInt;refine aB<|wpAny_mkInt<|aD ⟨_,rfl,?_⟩;dsimp only;have b:((es.size:Int)+((0:Nat):Int))=(es.size:Int):=by simp
 rw[b];refine aB<|dP<|aD<|aB<|wpAny_letGo ?_;rw[aK (by lia),aK<|by lia];exact aB<|wpAny_mkInt<|aD ⟨_,rfl,h _ _⟩
def QB:CallR X (.builtin "len") (λxs H Q=>∃a b,xs=[V.ref a]/\H a=some (gF X.prog X.w a b)/\Q (.int ↑b) H):=by
 intro j s σ H xs i Q I r h;obtain⟨a,b,rfl,ha,q⟩:=h;obtain⟨u,rfl,f⟩:=gY r;cases f;obtain⟨z,hd,xs,r,o,es,ep,h1,h2,e,d,l⟩:=(I.hok a _ ha).1;have hl:es.size=↑b:=by
  have:=cR List.length r;rw[aG,aG]at this;rw[zX d,this]
 refine Co hd h1 h2.1 e (by rw[hl];exact z) λt t'=>?_
 rw[hl];exact⟨.int ↑b,H,I.tok _,⟨t,rfl⟩,q⟩
def AY(P:Program)(w:World)(K:Fg)(tk tv:TE):TE:=λσ H Q=>∀p,H p=none->tk σ (aA H p<|gF P w p []) λx H1=>tv σ H1 λy H2=>∃b n,x=.ref b/\H2 p=some (gF P w p [])/\SqT K H2 b [.str n.1,.str n.2]/\Q (.ref p) (aA H2 p<|gF P w p [(n,b)])
def sJ(M:X.A.units<cLine)(N:PE X k tk)(Z:PE X v tv):PE X (.Dict [some k] [v] pos) (AY X.prog X.w X.K tk tv):=by
 intro a1 s σ H Q I q;have u:(s⁻¹ == sysModules)=false:=uh3.mpr<|cW<|bI I.big;have C:=I.hok.fresh<|aO s⁻¹;have Y:=I.laid (a:=s⁻¹) (o:=gF X.prog X.w s⁻¹ []) (h':=s.heap.push {cls:=.type "dict",data:=.dict #[]}) (t':=s.toks) (λ_ _ q=>aZ _ q) (aO _)<|HW ⟨bO _,u,[],rfl,_,_,_,bY _ rfl,⟨rfl,rfl,rfl⟩,rfl,rfl,kD⟩;have E:wY X pos [some k] [v] [(tk,tv)]:=OH N Z WE;rw[arm_eval_Dict,zip_pairTrees [some k] [v] X.env pos rfl rfl,dictDisplay_pairs _ (by intro z;cases z) (by show 1<17;decide)];refine aB<|pV<|aB ?_;unfold subDict;refine aB<|wpAny_alloc<|aB<|dP ?_;rw[aR (by show 1<=15;decide)];refine aB<|aS (E a1 _ σ _ (λps H2=>match ps with | [(x,y)]=>∃b n,x=.ref b/\H2 s⁻¹=some (gF X.prog X.w s⁻¹ [])/\SqT X.K H2 b [.str n.1,.str n.2]/\Q (.ref s⁻¹) (aA H2 s⁻¹<|gF X.prog X.w s⁻¹ [(n,b)]) | _=>False) Y<|q _ C) ?_;rintro ws s2 ⟨ps,H2,f,i,d⟩;rcases ps with _ | ⟨⟨x,y⟩,_ | ⟨_,_⟩⟩
 .exact d.elim
 rotate_left
 .exact d.elim
 obtain⟨b,n,rfl,e,L,d⟩:=d;cases i with
 | @cons p c ps bs hr ht=>
  cases ht;obtain⟨b1,j⟩:=c;obtain⟨W,r2⟩:=hr;have J:b1=Value.ref b:=W;subst J;refine dP<|aB ?_;obtain⟨z,hd,xs,r,O⟩:=MS f e λq m=>nomatch m;have ex:xs=[]:=List.map_eq_nil_iff.mp r;subst ex;show wpAny _ _ (forIn [(Value.ref b,j)] PUnit.unit _) _ _ _;rw[wR];refine aB<|aB<|wpAny_dictSet_heap (knd:=bX X.prog X.w) M (vB f L) O (λh' B l=>aD ?_)<|bO _;refine aD<|aD<|aD<|aD ⟨.ref s⁻¹,_,?_,rfl,d⟩;obtain⟨o,es,ep,h,g2,P,G,g5,T⟩:=B;exact nI f (by rw[e];exact jG) l ⟨o,h⟩<|HW ⟨by show 1<=sizeLine;exact cM (bN<|by lia),hd,_,rfl,o,es,ep,h,g2,P,G,T⟩
def jM(qs:List (Pr×Addr))(q:Pr×Addr):List (Pr×Addr):=if q.1∈qs.map (·.1) then qs else qs++[q]
def lP(qs more:List (Pr×Addr)):List (Pr×Addr):=more.foldl jM qs
def Ef(r:xs.map (λx=>(x.1,x.2.1))=qs.map (λq=>(bW q.1,q.2)))(q:Pr×Addr)(v:Value):
  (storedH xs (bW q.1) q.2 v).map (λx=>(x.1,x.2.1))=(jM qs q).map (λq=>(bW q.1,q.2)):=by
 have h:=qJ (n:=q.1) r;unfold storedH jM
 by_cases c:q.1∈qs.map (·.1)
 .rw[aR c,aR (by rw[h];exact cI c),kO,<-r];refine rT λx _=>?_;show((putAt (bW q.1) v x).1,(putAt (bW q.1) v x).2.1)=_;unfold putAt
  split <;> rfl
 .rw[aK c,aK (by rw[h];simpa using c),bP,bP,r];rfl
def YN:∀{more:List (Pr×Addr)}{xs:List (List aL×Addr×Value)}{b:List (Pr×Addr)},xs.map (λx=>(x.1,x.2.1))=b.map (λq=>(bW q.1,q.2))->ys.map (λx=>(x.1,x.2.1))=more.map (λq=>(bW q.1,q.2))->
  (kC xs ys).map (λx=>(x.1,x.2.1))=(lP b more).map (λq=>(bW q.1,q.2)):=by
 induction ys with
 | nil=>intro more xs b r a;cases more with
  | nil=>exact r
  | cons=>cases a
 | cons y ys ih=>
  intro more xs b r a;cases more with
  | nil=>cases a
  | cons m more=>
   rw[eM,eM]at a;injection a with e a;injection e with e1 e2;show(kC (storedH xs y.1 y.2.1 y.2.2) ys).map _=(lP (jM b m) more).map _;refine ih ?_ a;rw[e1,e2];exact Ef r m _
def Ec(a:List (Pr×Addr))(q:Pr×Addr):↑(jM a q)<=↑a+1:=by
 unfold jM
 split
 .lia
 .rw[bL];exact aO _
theorem UT:∀(more a:List (Pr×Addr)),↑(lP a more)<=↑a+↑more
 | [],a=>aO _
 | q::more,a=>by
  have:=UT more<|jM a q;have h:=Ec a q;show(lP (jM a q) more).length<=_;rw[cY];lia
def ZS{prog:Program}{w:World}{A:Around}{E:Vp}{s:Shared}{d o:Addr}{xs more:List (List aL×Addr×Value)}{Q:Vp}(f:A.units+1<cLine)(a1:d≠o)(j:(o == sysModules)=false)(hd:s.heap.DictOfH (bX prog w) d xs)(a:s.heap.DictOfH (bX prog w) o more)(l:xs≠[])(hsz:↑xs+↑more<=sizeLine)
  (e:∀h',h'.DictOfH (bX prog w) d (kC xs more)->Heap.SameBut d s.heap h'->Q .none {s with heap:=h'}):wpAny (model prog w) A (call (.builtin "dict.update") [.ref d,.ref o]) Q E s:=by
 refine fO F.slot_dict_update hd.typeIs F.entry_dict_update ?_<|F.args_dict_update_2 _ _;unfold Builtin.«dict.update»;refine aB (m:=Builtin.Dict.selfAndRest _ _) ?_;unfold Builtin.Dict.selfAndRest;refine aB<|HP hd.typeIs ?_;refine aB (m:=Builtin.Dict.addrOf _)<|aD<|aD ?_;show wpAny _ _ (Builtin.Dict.updateFrom "dict.update" d (.ref o) [] .none) _ _ s;unfold Builtin.Dict.updateFrom;refine aB<|nB a.typeIs ?_;rw[aK<|by decide];refine aB ?_;have b:∀h',h'.DictOfH (bX prog w) d (kC xs more)->Heap.SameBut d s.heap h'->wpAny (model prog w) A.in1 (Builtin.Dict.addKeywords d [] >>= λ_=>ret Value.none) (λb s'=>∃v,b=Fin.done (Flow.ret v)/\Q v s') E {s with heap:=h'}:=λh' i h=>aB (m:=Builtin.Dict.addKeywords d [])<|aD<|aD ⟨_,rfl,e h' i h⟩;unfold Builtin.Dict.merge Builtin.Dict.readDirectly;refine aB<|aB<|gZ a.typeIs isSubtype_dict_dict ?_;simp only[Bool.not_true,lB,gI];refine aB<|kE a.typeIs F.slot_dict_iter.lookup<|aD ?_;simp only[beq_self_eq_true,if_true];refine aB (m:=Builtin.Dict.addrOf _)<|aD ?_;exact XS (rB f) a1 j hd a l hsz b
def oP(P:Program)(w:World)(K:Fg):V->List V->Hp->VK->Prop:=λx vs H Q=>∃a b qs more,x=.ref a/\vs=[.ref b]/\H a=some (gF P w a qs)/\qs≠[]/\fJ K H qs/\H b=some (.dT<|more.map λn=>(bW n,V.bl true))/\↑qs+↑more<=sizeLine/\
 ∀bs:List Addr,A2 (λq n=>H q=some (.tup [.str n.1,.str n.2])) bs more->Q .non (aA H a<|gF P w a<|lP qs<|more.zip bs)
def Ax(N:X.A.units+1<cLine):LR X "dict.update" (oP X.prog X.w X.K):=by
 intro a2 s σ H x vs v us Q I E B h;obtain⟨a,b,f,more,rfl,rfl,ha,G,ok,j,hz,q⟩:=h;cases E;obtain⟨u,rfl,ru⟩:=B.one;cases ru;obtain⟨z,hd,xs,r,O⟩:=MS I ha ok;obtain⟨z2,l,ys,i,C⟩:=IH I.hok j;have d:∀{more:List Pr}{ys:List (List aL×Addr×Value)},KT H (more.map λn=>(bW n,V.bl true)) ys->∃bs:List Addr,A2 (λq (n:Pr)=>H q=some (.tup [.str n.1,.str n.2])) bs more/\ys.map (λx=>(x.1,x.2.1))=(more.zip bs).map (λq=>(bW q.1,q.2)):=by
  intro more
  induction more with
  | nil=>intro ys k;cases k;exact⟨[],.nil,rfl⟩
  | cons n more ih=>
   intro ys k;cases k with
   | @cons p y ps ys hq t=>
    obtain⟨bs,h1,h2⟩:=ih t;exists y.2.1::bs,.cons hq.2.1 h1;rw[eM,h2,GM,eM,<-hq.1]
 obtain⟨bs,M,m⟩:=d i;have Z:↑xs=↑f:=by have:=cR List.length r;rwa [aG,aG]at this
 have ly:↑ys=↑more:=by have:=DW i;rw[aG]at this;exact this.symm
 have a1:a≠b:=KS ha j λz=>nomatch z;refine ZS N a1 l O C (λz=>G<|vt4.mp<|by rw[<-Z,z];rfl) (by lia) λh' Y P=>?_
 obtain⟨o,es,ep,e,g2,T,J,g5,W⟩:=Y;have L:=YN r m;have lb:↑(more.zip bs)<=↑more:=by rw[wW];exact Nat.min_le_left _ _
 have lm:=UT (more.zip bs) f;exact⟨.non,_,nI (t':=s.toks) I (by rw[ha];exact jG) P ⟨o,e⟩<|HW ⟨by lia,hd,_,L,o,es,ep,e,g2,T,J,W⟩,rfl,q bs M⟩
end
def DC:V->List V->Hp->VK->Prop:=λx vs H Q=>∃a b kvs more,x=.ref a/\vs=[.ref b]/\a≠b/\H a=some (.dK kvs)/\H b=some (.dK more)/\↑kvs+↑more<=sizeLine/\Q .non (aA H a<|.dK<|dX kvs more)
def ZI:LR X "dict.update" DC:=by
 intro E s σ H x G v B Q I m l h;obtain⟨a,b,kvs,more,rfl,rfl,j,ha,n,hz,q⟩:=h;cases m;obtain⟨u,rfl,r⟩:=l.one;cases r;obtain⟨z,hd,xs,a1,e⟩:=mX I.hok ha;obtain⟨J,o,ys,d,f⟩:=mX I.hok n;have A:=↑a1;have K:=↑d;refine mV F.slot_dict_update e.typeIs F.entry_dict_update (F.args_dict_update_2 _ _) (meets_dict_update (cE X.prog X.w) a b j o) ⟨xs,ys,e,f,by lia,λh' d' _ i=>?_⟩;have p:∃q,h'.get? a=some q:=let ⟨q,_,_,hq,_⟩:=d';⟨q,hq⟩
 have C:=wG more kvs;exact⟨.non,_,nI (t':=s.toks) I (by rw[ha];exact jG) i p<|yR (by lia) hd (d.merge a1) d',rfl,q⟩
def Dy(hc:X.calm=true):CallR X (.builtin "sorted") (λxs H Q=>∃(p:Addr)(ss:List Str)(kvs:List (aL×V)),xs=[.ref p]/\H p=some (.dK kvs)/\kvs.map (·.1)=ss.map Sum.inr/\↑ss<64/\∀(l:Addr)(f:List Str),H l=none->f.Perm ss->sortedS f=true->Q (.ref l) (aA H l<|.lst<|f.map V.str)):=by
 intro a8 s σ H xs us Q I r h;obtain⟨p,ss,kvs,rfl,hp,G,a7,q⟩:=h;obtain⟨u,rfl,ru⟩:=gY r;cases ru;obtain⟨z,hd,J,j,O⟩:=mX I.hok hp;obtain⟨o,P⟩:∃o,s.heap.get? p=some o:=by obtain⟨o,_,_,e,_⟩:=id O;exact⟨o,e⟩
 obtain⟨J,ep,j,Z⟩:=FR P ⟨J,j,O⟩;have a9:=↑j;have ad:↑kvs=↑ss:=by have:=cR List.length G;rwa [aG,aG]at this
 refine GI kind_sorted plain_sorted entry_sorted (args_sorted1 _) ?_;unfold Builtin.«sorted»;refine aB (m:=checkCount "sorted" 1 1 _)<|aD ?_;refine aB<|UH (PySem.W.kdl_dict (knd:=cE X.prog X.w) (kvs:=J) (ep:=ep) (d:=p) hd) (I.ok.hd hc) (Z _ P) (by lia) λh1 tk acc k A hsz=>?_;have E:StrsAre acc.toList ss:=by
  have hi:∀(i:Nat)(v:Value),acc.toList[i]?=some v->∃x t,ss[i]?=some x/\v=.str x t:=λi v L=>by
   obtain⟨k,y,C,ab⟩:=A.2 i v (by rw[<-iF];exact L);obtain⟨v',aa,_⟩:=j.get C;have:(kvs.map (·.1))[i]?=some k:=by rw[bD,aa];rfl
   rw[G,bD,vg8]at this;obtain⟨x,hx,e⟩:=this;rcases iZ ab with ⟨n,t,rfl,rfl⟩ | ⟨n,t,rfl,rfl⟩
   .cases e
   .cases e;exact⟨_,t,hx,rfl⟩
  have hl:↑acc.toList=↑ss:=by rw[cF,A.1];lia
  clear A k q G
  revert hi hl
  generalize acc.toList=as;intro hi hl;clear a7 ad
  induction as generalizing ss with
  | nil=>cases ss with
   | nil=>exact .nil
   | cons=>cases hl
  | cons a as ih=>
   cases ss with
   | nil=>cases hl
   | cons x ss=>
    obtain⟨y,t,C,rfl⟩:=hi 0 a rfl;cases C;exact .cons _ _ (ih (ss:=ss) (λi v L=>hi (i+1) v L)<|by simpa using hl)
 have ae:↑acc.toList=↑ss:=by rw[cF,A.1];lia
 refine aB (wpAny_newList ?_<|by rw[kR];lia);have B:(h1.push<|seqObj "list" acc.toList.toArray 0).get? h1.objs.size=some (seqObj "list" acc.toList.toArray 0):=bY _ rfl;refine aB<|dP<|fO slot_list_sort (s:={s with heap:=h1.push<|seqObj "list" acc.toList.toArray 0,toks:=tk}) ⟨_,B,rfl⟩ entry_list_sort (list_sort_treeK strKind_oneLt B E.keysOf (λv₁ v₂ rest e=>keyKind_strs<|by rw[<-e];exact E) (by lia) λK a1 a2=>⟨_,rfl,?_⟩)<|args_list_sort _;obtain⟨f,q1,T,Y⟩:=sorted_out_str E a1 a2;obtain⟨e,he⟩:=sortedHeap_at (out:=(arrOf K).map (·.2)) B;have kk:∀b o,s.heap.get? b=some o->(sortedHeap (h1.push<|seqObj "list" acc.toList.toArray 0) h1.objs.size acc.toList<|(arrOf K).map (·.2)).get? b=some o:=λb o M=>by
  have N:b<h1.objs.size:=bA<|k b o M;rw[sortedHeap_old (bI N)<|by rw[size_push'];exact jY N];exact aZ _<|k b o M
 have I2:=I.laid (t':=tk) (a:=h1.objs.size) (o:=.lst<|f.map V.str) kk (cM hsz) (show ObjOk X.prog X.w _ _ _ (.lst<|f.map V.str) from ⟨?_,((arrOf K).map (·.2)).toList,e,JY q1,by rw[Array.toArray_toList];exact he⟩)
 .exact aD ⟨_,rfl,.ref h1.objs.size,_,I2,rfl,q _ _ (I.hok.fresh<|cM hsz) T Y⟩
 .rw[aG,T.length_eq,kR];lia
def Gg(I:Inv X pins σ H s)(ok:fJ X.K H qs)(M:↑qs<128)(C:∀Q1:List Value->Shared->Prop,(∀h1 tk,(∀b o,s.heap.get? b=some o->h1.get? b=some o)->s⁻¹<h1.objs.size->Q1 (qs.map λq=>Value.ref q.2) {s with heap:=h1,toks:=tk})->wpAny (model X.prog X.w) X.A.in1 (collect x) Q1 X.xe s)(q:∀(l:Addr)(j:List (Pr×Addr)),H l=none->j.Perm qs->Q (.ref l) (aA H l<|.lst<|j.map λq=>V.ref q.2)):wpAny (model X.prog X.w) X.A (call (.builtin "sorted") [x]) (EP X pins σ Q) X.xe s:=by
 have inj:∀q∈qs,∀f∈qs,q.2=f.2->q=f:=λq d f B e=>by
  have h1:=ok q d;rw[e]at h1;have:=I.tuple_inj h1<|ok f B;injection this with a b;injection b with b _;exact Prod.ext (Prod.ext (V.str.inj a)<|V.str.inj b) e
 let dec:Value->Pr:=λv=>((qs.find? λq=>match v with | .ref a=>decide (q.2=a) | _=>false).map (·.1)).getD (("",""):Pr)
 have a1:∀q∈qs,dec (.ref q.2)=q.1:=λq d=>by
  show((qs.find? λf=>decide<|f.2=q.2).map (·.1)).getD (("",""):Pr)=q.1;cases e:qs.find? λf=>decide (f.2=q.2)with
  | none=>exact absurd (cI rfl)<|uk0.mp e q d
  | some f=>
   have h1:=List.find?_some e;have h2:=zF e;rw[inj f h2 q d<|cC h1];rfl
 have u:∀q∈qs,IsP s.heap (.ref q.2) (dec<|.ref q.2):=λq d=>by
  rw[a1 q d];obtain⟨its,r,⟨o,h1,h2,m,E⟩,_⟩:=I.tuple<|ok q d;cases r with
  | cons a t=>cases t with
   | cons b t=>cases t;obtain⟨L,rfl⟩:=a;obtain⟨t2,rfl⟩:=b;exact⟨q.2,o,m,L,t2,rfl,h1,h2,E⟩
 refine Dh (dec:=dec)<|C _ λh1 tk k hsz=>?_;refine⟨by rw[aG];exact M,λv i=>?_,λh' e h n O T=>?_⟩
 .obtain⟨q,d,rfl⟩:=vh6.mp i;exact(u q d).keep k
 let back:Value->Pr×Addr:=λv=>(dec v,match v with | .ref a=>a | _=>0)
 have z:∀q∈qs,back (.ref q.2)=q:=λq d=>Prod.ext (a1 q d) rfl;have p2:(h.map back).Perm qs:=by
  have:=n.map back;rw[kO]at this;have P:qs.map (back∘λq=>Value.ref q.2)=qs:=by
   conv=>rhs;rw[<-List.map_id qs]
   exact rT λq d=>z q d
  rwa [P]at this
 have N:(h.map back).map (λq=>Value.ref q.2)=h:=by
  rw[kO]
  conv=>rhs;rw[<-List.map_id h]
  refine rT λv i=>?_;obtain⟨q,d,rfl⟩:=vh6.mp<|n.mem_iff.mp i;rfl
 have p:Vals ((h.map back).map λq=>V.ref q.2) h:=by
  conv=>rhs;rw[<-N]
  generalize h.map back=l
  induction l with
  | nil=>exact .nil
  | cons x l ih=>exact .cons rfl ih
 have J:=I.laid (t':=tk) (a:=h1.objs.size) (o:=.lst<|(h.map back).map λq=>V.ref q.2) (λb o G=>O b o<|k b o G) (cM hsz) (show ObjOk X.prog X.w _ _ _ (.lst _) from ⟨?_,h,e,p,T⟩)
 .exact⟨.ref h1.objs.size,_,J,rfl,q _ _ (I.hok.fresh<|cM hsz) p2⟩
 .rw[aG,p2.length_eq,kR];lia
def Fd(M:X.calm=true):CallR X (.builtin "sorted") (λxs H Q=>∃(p:Addr)(a:List (Pr×Addr)),xs=[.ref p]/\H p=some (gF X.prog X.w p a)/\fJ X.K H a/\↑a<128/\ ∀(l:Addr)(m:List (Pr×Addr)),H l=none->m.Perm a->Q (.ref l) (aA H l<|.lst<|m.map λq=>V.ref q.2)):=by
 intro Z s σ H xs us Q I r h;obtain⟨p,a,rfl,O,ok,E,q⟩:=h;obtain⟨u,rfl,Y⟩:=gY r;cases Y;obtain⟨z,hd,xs,n,o,es,ep,C,P,T,A,g5⟩:=(I.hok p _ O).1;have j:es.size=↑a:=by
  have:=cR List.length n;rw[aG,aG]at this;rw[zX A,this]
 have J:∀(i:Nat)(e:DictEntry),es[i]?=some e->∃q,a[i]?=some q/\e.key=.ref q.2:=λi e b=>by
  rw[<-iF,A,bD,vg8]at b;obtain⟨x,L,rfl⟩:=b;have:=cR (λl=>l[i]?) n;rw[bD,bD,L]at this;obtain⟨q,G,e⟩:=vg8.mp this.symm;exists q,G;injection e with _ e2;show Value.ref x.2.1=.ref q.2;rw[e2]
 refine Gg I ok E (λQ1 h=>UH (YU (es:=es) (ep:=ep) (d:=p) hd) (I.ok.hd M) ⟨o,C,P.1,T⟩ (by rw[j];exact z) λh1 tk acc k f hsz=>?_) q;have a1:acc.toList=a.map λq=>Value.ref q.2:=by
  refine wE λi=>?_;rw[bD];rcases iJ i ↑a with hi | hi
  .have v:i<↑acc.toList:=by rw[cF,f.1,j];exact hi
   obtain⟨e,b,B⟩:=f.2 i acc.toList[i] (by rw[<-iF,bH v]);obtain⟨q',W,N⟩:=J i e b;rw[bH v,W,B,N];rfl
  .rw[nE (by rw[cF,f.1,j];exact hi),nE hi];rfl
 rw[a1];exact h h1 tk k hsz
inductive DR(K:Fg)(neg:Bool)(x y:V)(H:Hp)(Q:VK):Prop
 | mk(a p:Addr)(n:Pr)(qs:List (Pr×Addr))(h1:x=.ref a)(h2:y=.ref p)(h3:SqT K H a [.str n.1,.str n.2])(h4:SqL K H p (qs.map λq=>V.ref q.2)\/SqT K H p (qs.map λq=>V.ref q.2))(h5:fJ K H qs)(q:Q (.bl<|neg ^^ decide (n∈qs.map (·.1))) H):DR K neg x y H Q
def DJ(K:Fg)(neg:Bool):R2:=λx y H Q=>DR K neg x y H Q
open Classical in
def VD(j:X.A.units+1<cLine)(I:Inv X pins σ H s)(ha:SqT X.K H a [.str n.1,.str n.2])(r:Vals (qs.map λq=>V.ref q.2) its)(ok:fJ X.K H qs):
  (∀y,y∈its.toArray->SeqAt.EqAt X.A.in1 s y (.ref a) ((λv=>match v with | .ref q=>decide (SqT X.K H q [.str n.1,.str n.2]) | _=>false) y))/\
  its.toArray.any (λv=>match v with | .ref q=>decide (SqT X.K H q [.str n.1,.str n.2]) | _=>false)=decide (n∈qs.map (·.1)):=by
 have f:∀q∈qs,decide (SqT X.K H q.2 [.str n.1,.str n.2])=decide (q.1=n):=λq d=>by
  by_cases e:q.1=n
  .subst e;rw[cI rfl,cI<|ok q d]
  .rw[eR e,eR λh2=>e ?_];have:=I.tuple_inj (ok q d) h2;injection this with a b;injection b with b _;exact Prod.ext (V.str.inj a)<|V.str.inj b
 have l:its=qs.map λq=>Value.ref q.2:=by
  clear f ok
  induction qs generalizing its with
  | nil=>cases r;rfl
  | cons q qs ih=>
   cases r with
   | cons h t=>
    have e:_=Value.ref q.2:=h;rw[ih t,e];rfl
 subst l;exists λv i=>?_
 .obtain⟨q,d,rfl⟩:=vh6.mp (by simpa using i:v∈qs.map λq=>Value.ref q.2);show SeqAt.EqAt _ _ _ _<|decide<|SqT X.K H q.2 [.str n.1,.str n.2]
  by_cases e:q.2=a
  .rw[e,cI ha];exact SeqAt.EqAt.same _
  .have:=SeqAt.EqAt.of_refs e<|WH (A:=X.A.in1) (ss:=[q.1.1,q.1.2]) (tt:=[n.1,n.2]) I j (ok q d) ha;rw[f q d];have m:decide (q.1=n)=decide ([q.1.1,q.1.2]=[n.1,n.2]):=by
    by_cases c:q.1=n
    .rw[cI c,c,cI rfl]
    .rw[eR c,eR λh=>c ?_];injection h with h1 h2;injection h2 with h2 _;exact Prod.ext h1 h2
   rw[m];exact this
 .rw[mS,pX];rw[show(qs.map λq=>Value.ref q.2).toArray.any (λv=>match v with | .ref q=>decide (SqT X.K H q [.str n.1,.str n.2]) | _=>false)=(qs.map λq=>Value.ref q.2).any (λv=>match v with | .ref q=>decide (SqT X.K H q [.str n.1,.str n.2]) | _=>false) by simp,ud0]
  constructor
  .rintro⟨v,i,e⟩;obtain⟨q,d,rfl⟩:=vh6.mp i;have e:decide (SqT X.K H q.2 [.str n.1,.str n.2])=true:=e;rw[f q d]at e;exact vh6.mpr ⟨q,d,cC e⟩
  .intro h;obtain⟨q,d,e⟩:=vh6.mp h;exists .ref q.2,vh6.mpr ⟨q,d,rfl⟩;show decide (SqT X.K H q.2 [.str n.1,.str n.2])=true;rw[f q d];exact cI e
open Classical in
def uB(i:X.A.units+1<cLine):cN X (compareOp .In) (DJ X.K false):=by
 intro o s σ H x y v u Q I l j h;obtain⟨a,p,n,m,rfl,rfl,ha,b,ok,q⟩:=h;cases l;cases j;rw[Bool.false_xor]at q;rcases b with b | b
 .obtain⟨its,r,d,hz⟩:=I.list b;obtain⟨e,f⟩:=VD i I ha r ok;exact SeqAt.in_listAt _ d.isList e (by rw[f];exact⟨.bl _,H,I,rfl,q⟩)
 .obtain⟨its,r,d,hz⟩:=I.tuple b;obtain⟨e,f⟩:=VD i I ha r ok;exact SeqAt.in_tupleAt _ d e (by rw[f];exact⟨.bl _,H,I,rfl,q⟩)
open Classical in
def SJ:Manifest.owners.lookup (String.ofList ['d','e','s','r','e','v','e','r'].reverse)=some Manifest.sig_reversed:=by kernel_rfl
def Ey:Slot "reversed" "__init__" "object.__init__":=.of (owner:="object") (n:="__init__") (by(rw[lU,mO];kernel_rfl)) (by rfl') (by rfl') (by rfl') (by first | exact .inl (by rfl') | exact .inr (by rfl')) (by(rw[gK];kernel_rfl))
def zs8:Slot "reversed" "__next__" "reversed.__next__":=.of (owner:="reversed") (n:="__next__") (by(rw[lU,mO];kernel_rfl)) (by rfl') (by rfl') (by rfl') (by first | exact .inl (by rfl') | exact .inr (by rfl')) (by(rw[gK];kernel_rfl))
def VA:Slot "reversed" "__iter__" "reversed.__iter__":=.of (owner:="reversed") (n:="__iter__") (by(rw[lU,mO];kernel_rfl)) (by rfl') (by rfl') (by rfl') (by first | exact .inl (by rfl') | exact .inr (by rfl')) (by(rw[gK];kernel_rfl))
def PK:entryFor table "reversed.__next__"=some Builtin.«reversed.__next__»:=entryFor_of_tree (by kernel_rfl)
def XY:entryFor table "reversed.__new__"=some Builtin.«reversed.__new__»:=entryFor_of_tree (by kernel_rfl)
def Go:entryFor table "reversed.__iter__"=some Builtin.«dict_keyiterator.__iter__»:=
 xK (id':="dict_keyiterator.__iter__") (by kernel_rfl) (by first | rfl | rfl' | (unfold String.splitOn;(simp +decide [String.splitOnAux]))) (by rfl') (by kernel_rfl)
def SY(a:Value):argsOk "reversed.__next__" ⟨[a],[]⟩:=by
 unfold argsOk;(rw[BG (id:="reversed.__next__") (n:=['_','_','t','x','e','n','_','_']) (o:=['d','e','s','r','e','v','e','r']) (by kernel_rfl) SJ];kernel_rfl)
def Di(a:Value):argsOk "reversed.__iter__" ⟨[a],[]⟩:=by
 unfold argsOk;(rw[BG (id:="reversed.__iter__") (n:=['_','_','r','e','t','i','_','_']) (o:=['d','e','s','r','e','v','e','r']) (by kernel_rfl) SJ];kernel_rfl)
def SH:mroOf (.type "reversed")=pure [.type "reversed",.type "object"]:=by(rw[mroOf_type];kernel_rfl)
def Dc:typeLookup (.type "reversed") "__new__"=pure (some<|.builtin "reversed.__new__"):=by(rw[lU,mO];kernel_rfl)
def Ga:TypeCalled "reversed" "reversed.__new__" "object.__init__":=
 ⟨by rfl',by rfl',⟨_,_,SH⟩,madeBy_type SH Dc (by rfl'),by rfl',by(rw[gK];kernel_rfl),Ey⟩
def AQ(a:Value):checkTypeCall "reversed" ⟨[a],[]⟩=pure ():=by kernel_rfl
def zC(a:Value):checkBuiltinCall "reversed.__new__" ⟨[.type "reversed",a],[]⟩=pure ():=by kernel_rfl
def vF:isSubtype (.type "reversed") (.type "reversed")=pure true:=by(rw[gK];kernel_rfl)
def PU:typeLookup (.type "tuple") "__reversed__"=pure none:=by(rw[lU,mO];kernel_rfl)
abbrev mT(h:Heap)(it a:Addr)(j:Int):Prop:=h.get? it=some {cls:=.type "reversed",dict:=none,data:=.fields #[.ref a,.int j 0],slots:=#[]}
def Ac(a:Addr)(xs:Array Value)(n:xs.size<=sizeLine):
  Meets (Builtin.«reversed.__new__» ⟨[.type "reversed",.ref a],[]⟩) (λ_ R s=>s.heap.IsTuple a xs/\∀tk,R (.ok<|.ret<|.ref s⁻¹) {s with heap:=s.heap.push {cls:=.type "reversed",data:=.fields #[.ref a,.int ((xs.size:Int)-1) 0]},toks:=tk}):=
 .of_wp λprog w A R s h=>by
  obtain⟨e,h⟩:=h;have a1:=vF;have ty:s.TypeIs (.ref a) "tuple":=e.typeIs;obtain⟨b,g,d,tk,os⟩:=s;have i:isSubtype (.type "tuple") (.type "dict")=pure false:=by(rw[gK];kernel_rfl)
  have m:=ug5.lookup;have l:=PU;have o:=oO;have hl:IsTup (Shared.heap ⟨b,g,d,tk,os⟩) a xs:=e;have f:(xs.size:Int)<2 ^ 63:=by lia
  have j:∀{Q:Vp}{A:Around}{E:Vp},Q (.int xs.size<|tk+1) ⟨b,g,d,tk+1+1,os⟩->wpAny (model prog w) A (call (.builtin "len") [.ref a]) Q E ⟨b,g,d,tk,os⟩:=λh=>len_tuple (s:=⟨b,g,d,tk,os⟩) hl f h
  wp_walk using kE ty PU,gZ ty i,kE ty ug5.lookup,j
  exact⟨_,rfl,h _⟩
def XH(b:xs.size<=sizeLine)(d:s.heap.IsTuple a xs)(h:∀tk,mT (s.heap.push {cls:=.type "reversed",data:=.fields #[.ref a,.int ((xs.size:Int)-1) 0]}) s⁻¹ a ((xs.size:Int)-1)->Q (.ref s⁻¹) {s with heap:=s.heap.push {cls:=.type "reversed",data:=.fields #[.ref a,.int ((xs.size:Int)-1) 0]},toks:=tk}):
  wpAny (model prog w) A (call (.type "reversed") [.ref a]) Q E s:=by
 refine callType_new Ga (by decide) (AQ _) (zC _) (λobj=>F.args_object_init_2 obj _) XY (Ac a xs b) ⟨d,λtk=>?_⟩;have g:(s.heap.push {cls:=.type "reversed",data:=.fields #[.ref a,.int ((xs.size:Int)-1) 0]}).get? s⁻¹=some _:=bY _ rfl;exact⟨⟨_,g,rfl⟩,h tk g⟩
def WJ(b:mT s.heap it a j)(h:Q (.ref it) s):wpAny (model prog w) A (pyIter<|.ref it) Q E s:=by
 have ty:s.TypeIs (.ref it) "reversed":=⟨_,b,rfl⟩;refine EH ty VA<|fO VA ty Go ?_<|Di _;refine aD ⟨_,rfl,"reversed",_,ty,zs8.lookup,h⟩
def ZN{it a:Addr}{j:Nat}{xs:Array Value}{x:Value}{Q:Option Value->Shared->Prop}(b:mT s.heap it a (j:Int))(e:IsTup s.heap a xs)(m:a≠it)(o:xs.size<=sizeLine)(d:xs[j]?=some x)
  (f:∀h' tk,mT h' it a ((j:Int)-1)->Heap.SameBut it s.heap h'->Q (some x) {s with heap:=h',toks:=tk}):wpAny (model prog w) A (pyNext<|.ref it) Q E s:=by
 have ty:s.TypeIs (.ref it) "reversed":=⟨_,b,rfl⟩;unfold pyNext;refine aB<|kY<|jD (name:=Str.ofString "__next__") ty zs8<|fO zs8 ty PK ?_<|SY _;show wpAny _ _ (field (.ref it) 0 >>= _) _ _ s;refine aB<|eZ b rfl (x:=.ref a) rfl ?_;show wpAny _ _ (field (.ref it) 1 >>= _) _ _ s;refine aB<|eZ b rfl (x:=.int (j:Int) 0) rfl ?_;show wpAny _ _ (if (j:Int)<0 then _ else _) _ _ s;rw[aK<|by lia];refine aB<|kE e.typeIs ug5.lookup ?_;show wpAny _ _ (mkInt (j:Int) >>= _) _ _ s;refine aB<|wpAny_mkInt ?_;have p:j<xs.size:=by
  rcases iJ j xs.size with h | h
  .exact h
  .rw[DQ h]at d;cases d
 have n:=oO;have l:IsTup (Shared.heap {s with toks:=s.toks+1}) a xs:=e;refine aB<|kY<|getItem_tuple (s:={s with toks:=s.toks+1}) (j:=j) l (by lia) (by lia) (by unfold seqIndex?;(simp only[show ¬((j:Int)<0) by lia,gI];rw[aR<|by simp;lia];simp)) d ?_;show wpAny _ _ (field (.ref it) 1 >>= _) _ _ _;refine aB<|eZ b rfl (x:=.int (j:Int) 0) rfl ?_;refine aB<|iM b (by simp) λh' a1 i=>?_;refine aD ⟨_,rfl,?_⟩;exact aD<|f h' _ a1 i
def rG(f:A.handled=none)(d:mT s.heap it a j)(l:j<0)(i:∀h' tk,Heap.ExtBut it s.heap h'->Q none {s with heap:=h',toks:=tk}):wpAny (model prog w) A (pyNext<|.ref it) Q E s:=by
 have ty:s.TypeIs (.ref it) "reversed":=⟨_,d,rfl⟩;unfold pyNext;refine aB<|kY<|jD (name:=Str.ofString "__next__") ty zs8<|fO zs8 ty PK ?_<|SY _;show wpAny _ _ (field (.ref it) 0 >>= _) _ _ s;refine aB<|eZ d rfl (x:=.ref a) rfl ?_;show wpAny _ _ (field (.ref it) 1 >>= _) _ _ s;refine aB<|eZ d rfl (x:=.int j 0) rfl ?_;show wpAny _ _ (if j<0 then _ else _) _ _ s;rw[aR l];refine aB<|fN ?_;refine aB ?_;show wpAny _ _ (setField (.ref it) 1 (rawInt<|-1) >>= λ_=>setField (.ref it) 0 .none) _ _ s;refine aB<|iM d (by simp) λu a1 p=>?_;refine iM a1 (by simp) λr q n=>?_
 refine aB ?_;show wpAny _ _ (newExc (.type "StopIteration") [] >>= _) _ _ _;refine aB ?_;simp only[newExc,newTuple];refine aB (fY ?_<|by size_fits);refine aB (m:=firstArgMember _ _)<|sO (a:=Value.none) (by first | rfl | (simp only[firstArgMember];rfl)) ?_;refine fY ?_ (by size_fits);simp only[raiseNew];refine aB<|wpAny_handled ?_;first | rw[show A.in1.handled=none from f] | rw[f]
 refine aB<|aD<|wpAny_throw ?_;refine aB<|gZ (T:="StopIteration") (b:=true) ⟨_,bY _ rfl,rfl⟩ vN<|aD<|i _ _ ?_;exact λb o h e=>aZ _<|aZ _<|n.extBut _ _ h<|p.extBut _ _ h e
def lE(K:Fg)(a:Addr)(n:Nat):It:=
 ⟨λi H=>∃xs x,SqT K H a xs/\↑xs=n/\xs.reverse[i]?=some x,λi H x H'=>H'=H/\∀xs,SqT K H a xs->xs.reverse[i]?=some x,λi H=>∃xs,SqT K H a xs/\↑xs=n/\n<=i⟩
def WV{P:Program}{w:World}{K:Fg}{tg:Expr}(a it:Addr)(a5:a≠it)(n:Nat):eX P w K tg (lE K a n) [it] it (λi h=>mT h it a<|(n:Int)-1-(i:Nat)) where
 mem:=by simp
 obj:=λi h st b d=>by
  have e:b=it:=by simpa using d
  subst e;exact⟨_,st,λv z=>by cases z⟩
 keep:=λi h h' st k=>k it (by simp) _ st
 item:=by
  intro X B m r M i N s σ H E I f st l;subst B m r;obtain⟨xs,x,A,hn,j⟩:=l;obtain⟨its,O,p,hz⟩:=I.tuple A;have hi:i<↑xs:=by
   have:=(vg4.mp j).1;rwa [BP]at this
  have Y:xs[↑xs-1-i]?=some x:=by rw[<-List.getElem?_reverse hi];exact j
  obtain⟨u,hu,ru⟩:=O.get Y;obtain⟨G,L,Z,C,J,q⟩:=f it (by simp);have ej:((n:Int)-1-(i:Nat))=((↑xs-1-i:Nat):Int):=by lia
  have T:mT s.heap it a ((↑xs-1-i:Nat):Int):=by rw[<-ej];exact st
  have hl:=O.length;refine ZN T p a5 (by rw[cL,<-hl];exact hz) (x:=u) (by simpa using hu) λh' tk a3 W=>?_
  have I1:Inv X N σ H {s with heap:=h',toks:=tk}:=I.turned (t':=tk) (λb o d e=>(W.2 b d).trans e) G L C J q;have a1:mT h' it a ((n:Int)-1-((i+1:Nat):Int)):=by
   have e2:((n:Int)-1-((i+1:Nat):Int))=((↑xs-1-i:Nat):Int)-1:=by lia
   rw[e2];exact a3
  exact⟨u,rfl,sY (s:={s with heap:=h',toks:=tk}) a1 rfl rfl (by decide) ⟨x,H,I1,ru,⟨rfl,λys hy=>by rw[I.tuple_inj hy A];exact j⟩,a1,λb d=>(f b d).1⟩⟩
 done:=by
  intro X B m r M i N s σ H E I f st l;subst B m r;obtain⟨xs,A,hn,j⟩:=l;obtain⟨G,L,Z,C,J,q⟩:=f it (by simp);exact rG (I.ok.hd M) st (by lia) λh' tk eb=>⟨rfl,I.turned (t':=tk) (λb o d e=>eb b o d e) G L C J q⟩
 self:=λ_ _ _ _ _ st h=>WJ st h
section
variable{tg:Expr}
def IM(K:Fg)(ta:TA):TI:=λσ H R=>ta σ H λvs H1=>∃a xs,vs=[.ref a]/\SqT K H1 a xs/\R (lE K a ↑xs) H1
def XD:bootBuiltins "reversed"=some (.type "reversed"):=by rfl'
def sN(n:Gl X "reversed")(w:X.mg "reversed"=none)(ha:PA X [a] ta)(B:starEach [a] X.env=[(false,eval a X.env)]:=by rfl):PI X tg (.Call (.Name "reversed" p) [a] [] pos) (IM X.K ta):=by
 intro A s σ H R I h;refine Call_<|lS I n w XD<|oN (aS (ha pos A s σ H _ I h) λG d ⟨E,H1,f,x,z⟩=>?_) (by rw[B];rfl) rfl;obtain⟨l,xs,e,v,q⟩:=z;subst e;cases x with
 | cons r rr=>
  cases rr;cases r;obtain⟨its,C,i,hz⟩:=f.tuple v;have hl:=C.length;have a1:l<d⁻¹:=by obtain⟨o,e,_⟩:=i;exact bA e
  refine XH (xs:=its.toArray) (by rw[cL,<-hl];exact hz) i λtk j=>?_
  refine WJ (s:={d with heap:=_,toks:=tk}) j ?_;refine⟨d⁻¹,[d⁻¹],_,_,H1,rfl,f.kept (t':=tk) λb o e=>aZ _ e,WV l _ (bI a1) ↑xs,?_,λb u=>?_,q⟩
  .have m:(((↑xs:Nat):Int)-1-((0:Nat):Int))=((its.toArray.size:Nat):Int)-1:=by rw[cL,hl];lia
   show mT _ _ _ _;rw[m];exact j
  .have e:b=d⁻¹:=by simpa using u
   subst e;exact f.fpOk (aO _)<|f.hok.fresh<|aO _
end
section
variable{o e:Expr}{apos cpos:Pos}{td ty:TE}
def DA(P:Program)(w:World)(K:Fg)(td ty:TE):TE:=λσ H Q=>td σ H λx H1=>∃a qs,x=.ref a/\H1 a=some (gF P w a qs)/\ty σ H1 λy H2=>oP P w K x [y] H2 Q
def Ew(B:X.A.units+1<cLine)(C:PE X o td)(N:PE X e ty)(m:M1 X o "update" apos e cpos):PE X (.Call (.Attribute o "update" apos) [e] [] cpos) (DA X.prog X.w X.K td ty):=by
 intro f s σ H Q I h;refine sT m.base m.few m.line oI PySem.F.slot_dict_update PySem.F.type_dict_update<|aS (C f s σ H _ I h) ?_;rintro u v ⟨x,H1,l,p,a,O,ex,d,L⟩;subst ex;obtain rfl:u=Value.ref a:=p;obtain⟨z,hd,xs,r,j,es,ep,i,n,T,P,W⟩:=(l.hok a _ d).1;exists ⟨j,i,n.1⟩,?_
 .intro b q;cases q;exact⟨j,i,n.2.1⟩
 rw[m.trees];refine oM rfl<|sK<|kP<|aS (N f v σ H1 _ l L) λM s2 ⟨y,H2,J,E,G⟩=>pF ?_;exact Ax B f s2 σ H2 (.ref a) [y] (.ref a) [M] Q J rfl (.cons E .nil) G
end
def iC(xs:Array Nat):Prop:=∀(i k u v:Nat),xs[i]?=some u->xs[k]?=some v->i<k->u<v
def pT(xs:Array Nat)(j r:Nat):Prop:=∀(i u:Nat),xs[i]?=some u->(i<r->u<j)/\(r<=i->j<=u)
def Ff{xs:Array Nat}{j:Nat}(h:iC xs):∀(f lo hi:Nat),hi-lo<=f->hi<=xs.size->lo<=hi->(∀i u,xs[i]?=some u->(i<lo->u<j)/\(hi<=i->j<=u))->pT xs j (SetTable.below.go xs j f lo hi):=by
 intro f
 induction f with
 | zero=>
  intro lo hi h1 h2 n d;rw[DY];have e:lo=hi:=by lia
  subst e;exact d
 | succ f ih=>
  intro lo hi h1 h2 n d;rw[DY];dsimp only
  by_cases c:lo<hi
  .rw[aR c];have l:(lo+hi) / 2<xs.size:=by lia
   have g:=gJ l;have e:xs.getD ((lo+hi) / 2) j=xs[(lo+hi) / 2]:=by simp[Array.getD,l]
   rw[e]
   by_cases b:xs[(lo+hi) / 2]<j
   .rw[aR b];refine ih _ _ (by lia) h2 (by lia) λi u a=>⟨λm=>?_,(d i u a).2⟩
    rcases iJ i ((lo+hi) / 2)with z | z
    .exact fP (h _ _ _ _ a g z) b
    .have:i=(lo+hi) / 2:=by lia
     subst this;rw[g]at a;cases a;exact b
   .rw[aK b];refine ih _ _ (by lia) (by lia) (by lia) λi u a=>⟨(d i u a).1,λm=>?_⟩
    rcases iJ ((lo+hi) / 2) i with z | z
    .exact fI (Nat.le_of_not_lt b)<|cM<|h _ _ _ _ g a z
    .have:i=(lo+hi) / 2:=by lia
     subst this;rw[g]at a;cases a;exact Nat.le_of_not_lt b
  .rw[aK c];have e:lo=hi:=by lia
   subst e;exact d
def OJ{xs:Array Nat}(a:iC xs)(j:Nat):pT xs j (SetTable.below xs j):=Ff a _ _ _ (aO _) (aO _) (bO _) λi u b=>⟨λh=>absurd h<|Nat.not_lt_zero _,λh=>by have:=(vt6.mp b).1;lia⟩
def NQ{xs:Array Nat}{j:Nat}:∀(f lo hi:Nat),hi<=xs.size->lo<=hi->SetTable.below.go xs j f lo hi<=xs.size:=by
 intro f
 induction f with
 | zero=>intro lo hi h1 h2;rw[DY];exact fI h2 h1
 | succ f ih=>
  intro lo hi h1 h2;rw[DY];dsimp only
  split
  .split
   .exact ih _ _ h1 (by lia)
   .exact ih _ _ (by lia) (by lia)
  .exact fI h2 h1
def EV{t:SetTable}(a:iC t.place)(h:t.place[p]?=some j):t.slot j=.live p:=by
 have b:=OJ a j;unfold SetTable.slot;have e:SetTable.below t.place j=p:=by
  generalize SetTable.below t.place j=r at b;rcases Nat.lt_trichotomy r p with z | z | z
  .have d:r<t.place.size:=fP z (vt6.mp h).1;have g:=gJ d;have:=a _ _ _ _ g h z;have:=(b _ _ g).2<|aO _;lia
  .exact z
  .have:=(b _ _ h).1 z;lia
 dsimp only;rw[e,h,aR<|by simp]
def YZ{t:SetTable}(hd:t.dummies=#[])(h:∀p:Nat,t.place[p]?≠some j):t.slot j=.empty:=by
 unfold SetTable.slot;dsimp only;rw[aK (by intro z;exact h _<|by simpa using z),hd];rfl
def AZ{α:Type}(xs:Array α)(p:Nat)(x:α):(SetTable.insertAt xs p x).toList=xs.toList.take p++x::xs.toList.drop p:=by
 unfold SetTable.insertAt;simp[dD]
def KW{α:Type}{xs:Array α}{p:Nat}(a:p<=xs.size)(x:α)(q:Nat):(SetTable.insertAt xs p x)[q]?=if q<p then xs[q]? else if q=p then some x else xs[q-1]?:=by
 rw[<-iF,AZ,List.getElem?_append];have hl:↑(xs.toList.take p)=p:=by rw[dI,cF];lia
 rw[hl]
 split
 .rw[GZ (by assumption),iF]
 .split
  .rename_i h1 h2
   subst h2;rw[Nat.sub_self];rfl
  .rename_i h1 h2
   obtain⟨d,rfl⟩:∃d,q=p+1+d:=⟨q-p-1,by lia⟩;rw[show p+1+d-p=d+1 by lia,List.getElem?_cons_succ,List.getElem?_drop,iF,show p+1+d-1=p+d by lia]
def Cb{xs:Array Nat}(f:iC xs)(r:∀q:Nat,xs[q]?≠some j):iC (SetTable.insertAt xs (SetTable.below xs j) j):=by
 have b:=OJ f j;have n:SetTable.below xs j<=xs.size:=NQ _ _ _ (aO _)<|bO _;generalize SetTable.below xs j=p at b n;intro i k u v hi a a1;rw[KW n]at hi a;have le:∀{q w:Nat},xs[q]?=some w->p<=q->j<w:=λ{q w} h o=>by
  have h1:=(b _ _ h).2 o;have h2:w≠j:=λz=>r q (by rw[h,z])
  lia
 by_cases l:i<p
 .rw[aR l]at hi
  by_cases e:k<p
  .rw[aR e]at a;exact f _ _ _ _ hi a a1
  .rw[aK e]at a;have h1:=(b _ _ hi).1 l
   by_cases d:k=p
   .rw[aR d]at a;cases a;exact h1
   .rw[aK d]at a;exact fP h1 (le a<|by lia)
 .rw[aK l]at hi;have e:¬k<p:=by lia
  have d:k≠p:=by lia
  rw[aK e,aK d]at a
  by_cases m:i=p
  .rw[aR m]at hi;cases hi;exact le a (by lia)
  .rw[aK m]at hi;exact f _ _ _ _ hi a (by lia)
abbrev vI(m i per:Nat):SetTable.Probe:={j:=i,more:=SetTable.runEnd m i-i,i:=i,perturb:=per,dummy:=none}
def oD(m:Nat)(p:SetTable.Probe):SetTable.Probe:=if p.more > 0 then {p with j:=p.j+1,more:=p.more-1} else {vI m (SetTable.leap m p.i p.perturb).1 (SetTable.leap m p.i p.perturb).2 with dummy:=p.dummy}
inductive Rch(m:Nat)(occ:Nat->Prop):Nat->SetTable.Probe->Nat->Prop
 | here (p):Rch m occ 0 p p.j
 | step {p n j} (h:occ p.j) (r:Rch m occ n (oD m p) j):Rch m occ (n+1) p j
def Rch.mono(h:Rch m occ n p j)(g:∀x,occ x->occ' x):Rch m occ' n p j:=by
 induction h with
 | here p=>exact .here p
 | step h _ ih=>exact .step (g _ h) ih
def RK{m i per:Nat}{occ:Nat->Prop}:∀(k d:Nat),(∀e,e<k->occ (i+d+e))->∀more,k<=more->∀n j,Rch m occ n {j:=i+d+k,more:=more-k,i:=i,perturb:=per,dummy:=none} j->Rch m occ (n+k) {j:=i+d,more:=more,i:=i,perturb:=per,dummy:=none} j:=by
 intro k
 induction k with
 | zero=>intro d h more _ n j r;exact r
 | succ k ih=>
  intro d h more a n j r;refine .step (h 0<|tY _) ?_;have e:oD m {j:=i+d,more:=more,i:=i,perturb:=per,dummy:=none}={j:=i+(d+1),more:=more-1,i:=i,perturb:=per,dummy:=none}:=by
   unfold oD;rw[aR (by show more > 0;lia)];rfl
  rw[e];refine ih (d+1) (λe b=>?_) (more-1) (by lia) n j ?_
  .rw[show i+(d+1)+e=i+d+(e+1) by lia];exact h _ (by lia)
  .rw[show i+(d+1)+k=i+d+(k+1) by lia,show more-1-k=more-(k+1) by lia];exact r
def PX{m i per k:Nat}{occ:Nat->Prop}(b:i+k<=SetTable.runEnd m i)(h:∀e,e<k->occ (i+e)):Rch m occ k (vI m i per) (i+k):=by
 have:=RK (m:=m) (i:=i) (per:=per) k 0 (λe a=>h e a) (SetTable.runEnd m i-i) (by lia) 0 (i+k)<|.here _;rwa [mL]at this
def QV{m i per n j:Nat}{occ:Nat->Prop}(hi:i<=SetTable.runEnd m i)(h:∀e,i+e<=SetTable.runEnd m i->occ (i+e))(r:Rch m occ n (vI m (SetTable.leap m i per).1 (SetTable.leap m i per).2) j):Rch m occ (n+1+(SetTable.runEnd m i-i)) (vI m i per) j:=by
 refine RK (m:=m) (i:=i) (per:=per) (SetTable.runEnd m i-i) 0 (λe a=>h e<|by lia) (SetTable.runEnd m i-i) (aO _) (n+1) j<|.step (h _<|by lia) ?_;unfold oD;rw[aK (by show ¬SetTable.runEnd m i-i-(SetTable.runEnd m i-i) > 0;lia)];exact r
def pU(m i:Nat):i<=SetTable.runEnd m i/\SetTable.runEnd m i-i<=9/\(i<=m->SetTable.runEnd m i<=m):=by
 unfold SetTable.runEnd
 split <;> lia
def pO(m:Nat):Nat->Nat->Nat->Nat
 | 0,i,_=>i
 | k+1,i,per=>pO m k (SetTable.leap m i per).1 (SetTable.leap m i per).2
def NA(m i per:Nat):(SetTable.leap m i per).1<=m:=by
 unfold SetTable.leap;exact yB<|Nat.mod_lt _<|tY _
def DU{P:Nat->Prop}(h:∃n,P n):∃n,P n/\∀k,k<n->¬P k:=by
 obtain⟨n,d⟩:=h
 induction n using Nat.strongRecOn with
 | ind n ih=>
  by_cases c:∃k,k<n/\P k
  .obtain⟨k,a,b⟩:=c;exact ih k a b
  .exact⟨n,d,λk a b=>c ⟨k,a,b⟩⟩
open Classical in
def way{m:Nat}{occ:Nat->Prop}:∀(k i per:Nat),i<=m->¬occ (pO m k i per)->∃n j,n<10*(k+1)/\j<=m/\Rch m occ n (vI m i per) j/\¬occ j:=by
 intro k
 induction k with
 | zero=>intro i per hi h;exact⟨0,i,by lia,hi,.here _,h⟩
 | succ k ih=>
  intro i per hi h;obtain⟨b,v,r⟩:=pU m i
  by_cases c:∀e,i+e<=SetTable.runEnd m i->occ (i+e)
  .obtain⟨n,j,h1,h2,u,p⟩:=ih _ _ (NA m i per) h;exact⟨_,j,by lia,h2,QV b c u,p⟩
  .obtain⟨e,a⟩:=Classical.not_forall.mp c;have a1:∃e,i+e<=SetTable.runEnd m i/\¬occ (i+e):=⟨e,by
    by_cases z:i+e<=SetTable.runEnd m i
    .exact⟨z,λw=>a λ_=>w⟩
    .exact absurd (λo=>absurd o z) a⟩
   obtain⟨f,⟨q,l⟩,s⟩:=DU a1;refine⟨_,_,by lia,?_,PX q λe a=>?_,l⟩
   .have:=r hi;lia
   .have:=s e a;have d:i+e<=SetTable.runEnd m i:=by lia
    by_cases z:occ (i+e)
    .exact z
    .exact absurd ⟨d,z⟩ this
def gg(m:Nat):Nat->Nat->Nat
 | 0,i=>i
 | k+1,i=>gg m k<|(i*5+1) % (m+1)
theorem EQ(m:Nat):∀a b i,gg m (a+b) i=gg m b (gg m a i)
 | 0,b,i=>by rw[mL];rfl
 | a+1,b,i=>by rw[Nat.succ_add];exact EQ m a b _
def LC(m:Nat):Nat->Nat->List Nat
 | 0,_=>[]
 | k+1,i=>i::LC m k ((i*5+1) % (m+1))
theorem PJ(m:Nat):∀k i j,j∈LC m k i->∃a,a<k/\gg m a i=j
 | 0,i,j,h=>nomatch h
 | k+1,i,j,h=>by
  rcases vh3.mp h with rfl | h
  .exact⟨0,tY _,rfl⟩
  .obtain⟨a,h1,h2⟩:=PJ m k _ _ h;exact⟨a+1,by lia,h2⟩
def mZ(m:Nat):Prop:=m=7\/m=31\/m=127
def Ej(a:mZ m):gg m (m+1) 0=0/\((List.range<|m+1).all λj=>(LC m (m+1) 0).contains j)=true:=by
 rcases a with rfl | rfl | rfl <;> rfl'
def uM(d:mZ m)(hi:i<=m)(f:j<=m):∃k,k<=m/\gg m k i=j:=by
 obtain⟨e,h⟩:=Ej d;have mem:∀x,x<=m->∃a,a<m+1/\gg m a 0=x:=λx l=>PJ m _ _ _ (by
  have:=vm1.mp h x (vt7.mpr<|by lia);simpa using this)
 obtain⟨a,ha,rfl⟩:=mem i hi;obtain⟨b,n,rfl⟩:=mem j f;rcases iJ b a with c | c
 .refine⟨b+(m+1)-a,by lia,?_⟩;rw[<-EQ,show a+(b+(m+1)-a)=(m+1)+b by lia,EQ,e]
 .exact⟨b-a,by lia,by rw[<-EQ,show a+(b-a)=b by lia]⟩
theorem RZ(m:Nat):∀(k i per:Nat),∃a,(i<=m->a<=m)/\∀n,pO m (k+n) i per=pO m n a (per / 32 ^ k)
 | 0,i,per=>⟨i,id,λn=>by rw[mL,Nat.pow_zero,Nat.div_one]⟩
 | k+1,i,per=>by
  obtain⟨a,h1,h2⟩:=RZ m k (SetTable.leap m i per).1 (SetTable.leap m i per).2;refine⟨a,λ_=>h1<|NA m i per,λn=>?_⟩;rw[Nat.succ_add];show pO m (k+n) _ _=_;rw[h2]
  congr 1
  show per / 32 / 32 ^ k=_;rw[Nat.div_div_eq_div_mul,Nat.pow_succ,Nat.mul_comm]
theorem WN(m:Nat):∀k i,pO m k i 0=gg m k i
 | 0,i=>rfl
 | k+1,i=>WN m k _
def Gp(h:Int):SetTable.bits h<2 ^ 64:=by
 unfold SetTable.bits;lia
def RA(b:mZ m)(h:Int)(d:j<=m):∃k,k<=m+13/\pO m k (SetTable.bits h % (m+1)) (SetTable.bits h)=j:=by
 have a:=Gp h;generalize SetTable.bits h=per at a;have hi:per % (m+1)<=m:=yB<|Nat.mod_lt _<|tY _;obtain⟨i,h1,h2⟩:=RZ m 13 (per % (m+1)) per;obtain⟨k,f,e⟩:=uM b (h1 hi) d;refine⟨13+k,by lia,?_⟩;rw[h2,Nat.div_eq_of_lt (by lia),WN,e]
def eY(ow:Array (Option Nat))(j:Nat):Prop:=∃v,ow[j]?=some (some v)
abbrev st0(m:Nat)(h:Int):SetTable.Probe:=vI m (SetTable.bits h % (m+1))<|SetTable.bits h
def Fs{m:Nat}{a:Array (Option Nat)}(G:a.size=m+1):∀(k f i per:Nat),k<f->i<=m->¬eY a (pO m k i per)->∃n j,SetTable.layClean.free m a f i per=some j/\n<10*f/\j<=m/\Rch m (eY a) n (vI m i per) j/\¬eY a j:=by
 intro k f
 induction f generalizing k with
 | zero=>intro i per h;exact absurd h<|Nat.not_lt_zero _
 | succ f ih=>
  intro i per C hi s;obtain⟨o,E,w⟩:=pU m i;have B:=w hi;have b:∀e,i+e<=SetTable.runEnd m i->(((a.getD (i+e)<|some 0).isNone=true)↔¬eY a (i+e)):=λe r=>by
   have p:i+e<a.size:=by lia
   unfold eY;simp only[Array.getD,p,dif_pos,gJ p,AX];show(a[i+e]).isNone=true↔_;cases a[i+e] <;> simp
  rw[SetTable.layClean.free.eq_def];dsimp only;cases hf:List.find? (λk=>(a.getD (i+k)<|some 0).isNone) (List.range<|SetTable.runEnd m i+1-i)with
  | some e=>
   obtain⟨l,q,u⟩:=List.find?_range_eq_some.mp hf;have q:=vt7.mp q;refine⟨e,i+e,rfl,by lia,by lia,PX (by lia) λd hd=>?_,(b e<|by lia).mp l⟩;refine wL λz=>?_;have:=u d hd;rw[(b d<|by lia).mpr z]at this;cases this
  | none=>
   have l:=List.find?_range_eq_none.mp hf;have all:∀e,i+e<=SetTable.runEnd m i->eY a (i+e):=λe r=>wL λz=>by
    have:=l e (by lia);rw[(b e r).mpr z]at this;cases this
   cases k with
   | zero=>exact absurd (all 0 o) s
   | succ k=>
    obtain⟨n,j,h1,h2,A,v,x⟩:=ih k _ _ (by lia) (NA m i per) s;exact⟨_,j,h1,by lia,A,QV o all v,x⟩
theorem VJ:∀(l:List (Option Nat))(j k:Nat),l[j]?=some none->((l.set j<|some k).filterMap id).Perm (k::l.filterMap id)
 | [],j,k,h=>nomatch h
 | a::l,0,k,h=>by
  have:a=none:=by simpa using h
  subst this;exact kK _
 | a::l,j+1,k,h=>by
  have b:=VJ l j k (by simpa using h);cases a with
  | none=>exact b
  | some a=>exact(b.cons a).trans<|List.Perm.swap _ _ _
theorem RV:∀(l:List (Option Nat)),(∀j,j<↑l->∃v,l[j]?=some (some v))->↑(l.filterMap id)=↑l
 | [],_=>rfl
 | a::l,h=>by
  obtain⟨v,b⟩:=h 0<|tY _;have:a=some v:=by simpa using b
  subst this;show(l.filterMap id).length+1=_;rw[RV l λj d=>by simpa using h (j+1) (by simpa using d)];rfl
structure Laid(m:Nat)(hs:List Int)(ow:Array (Option Nat)):Prop where
 sz:ow.size=m+1
 pm:(ow.toList.filterMap id).Perm (List.range ↑hs)
 rc:∀(k:Nat)(h:Int),hs[k]?=some h->∃n j,n<10*(m+15)/\ow[j]?=some (some k)/\Rch m (eY ow) n (st0 m h) j
def Laid.next(u:mZ m)(L:Laid m hs ow)(J:↑hs<=m)(h:Int):∃j,SetTable.layClean.free m ow (SetTable.turns m) (SetTable.bits h % (m+1)) (SetTable.bits h)=some j/\Laid m (hs++[h]) (ow.setIfInBounds j<|some ↑hs):=by
 obtain⟨f,r,p⟩:∃f,f<=m/\¬eY ow f:=by
  refine wL λz=>?_;have:=RV ow.toList λj a=>by
   rw[cF,L.sz]at a;have:eY ow j:=wL λw=>z ⟨j,by lia,w⟩
   unfold eY at this;simpa using this
  have h2:=L.pm.length_eq;have H:↑ow.toList=m+1:=L.sz;rw[lR]at h2;lia
 obtain⟨k,I,rfl⟩:=RA u h r;obtain⟨n,j,h1,h2,H,A,C⟩:=Fs L.sz k (SetTable.turns m) _ _ (by show k<m+15;lia) (yB<|Nat.mod_lt _<|tY _) p;have a:j<ow.size:=by rw[L.sz];lia
 have l:ow[j]?=some none:=by
  rw[gJ a];cases e:ow[j]with
  | none=>rfl
  | some v=>exact absurd ⟨v,by rw[gJ a,e]⟩ C
 have g:∀x:Nat,(ow.setIfInBounds j<|some ↑hs)[x]?=if j=x then some (some ↑hs) else ow[x]?:=λx=>by
  rw[Array.getElem?_setIfInBounds]
  by_cases c:j=x
  .rw[aR c,aR c,aR a]
  .rw[aK c,aK c]
 have mono:∀x,eY ow x->eY (ow.setIfInBounds j<|some ↑hs) x:=by
  rintro x ⟨v,B⟩;unfold eY;rw[g]
  by_cases c:j=x
  .exact⟨_,aR c⟩
  .exact⟨v,by rw[aK c,B]⟩
 refine⟨j,h1,by rw[Array.size_setIfInBounds,L.sz],?_,λd h' b=>?_⟩
 .rw[Array.toList_setIfInBounds,bL,dY,List.range_succ];refine(VJ _ _ _<|by simpa using l).trans ?_;exact(L.pm.cons _).trans<|vv2 (l₁:=[↑hs])
 .rcases iJ d ↑hs with c | c
  .rw[nW c]at b;obtain⟨s,o,a1,i,G⟩:=L.rc d h' b;refine⟨s,o,a1,?_,G.mono mono⟩;rw[g,aK λz=>?_,i];rw[<-z,l]at i;cases i
  .have q:d<↑(hs++[h]):=(vg4.mp b).1;rw[bL,dY]at q;have E:d=↑hs:=by lia
   subst E;rw[oG c,Nat.sub_self]at b;cases b;exact⟨n,j,h2,by rw[g,aR rfl],A.mono mono⟩
def YD(s:mZ m)(f:Array Int)(u:f.size<=m):∃b,SetTable.layClean m f=some b/\Laid m f.toList b:=by
 have i:∀(r a:List Int)(b:Array (Option Nat)),↑a+↑r<=m->Laid m a b->∃d,List.foldl (λ(acc:Option (Array (Option Nat)×Nat)) h=>do
   let __x <-acc
   match __x with
    | (owner,k)=>do
     let j <-SetTable.layClean.free m owner (SetTable.turns m) (SetTable.bits h % (m+1)) (SetTable.bits h)
     pure (owner.setIfInBounds j<|some k,k+1)) (some (b,↑a)) r=some (d,↑a+↑r)/\Laid m (a++r) d:=by
  intro r
  induction r with
  | nil=>intro a b _ L;exact⟨b,rfl,by rw[iA];exact L⟩
  | cons h r ih=>
   intro a b hl L;rw[cY]at hl;obtain⟨j,e,q⟩:=L.next s (by lia) h;obtain⟨d,l,o⟩:=ih (a++[h]) _ (by rw[bL,dY];lia) q;refine⟨d,?_,by rw[dR]at o;exact o⟩;rw[List.foldl_cons];rw[bL,dY]at l;show List.foldl _ (SetTable.layClean.free m b (SetTable.turns m) (SetTable.bits h % (m+1)) (SetTable.bits h) >>= λj=>pure (b.setIfInBounds j<|some ↑a,↑a+1)) r=_;rw[e,cY,show ↑a+(↑r+1)=↑a+1+↑r by lia];exact l
 obtain⟨b,e,L⟩:=i f.toList [] (Array.replicate (m+1) none) (by simpa using u) ⟨by simp,by
  have:∀n,(List.replicate n (none:Option Nat)).filterMap id=[]:=λn=>by induction n with
   | zero=>rfl
   | succ n ih=>exact ih
  rw[Array.toList_replicate,this];exact kK _,λk h p=>nomatch p⟩
 refine⟨b,?_,L⟩;unfold SetTable.layClean;rw[<-Array.foldl_toList];exact cR (Option.map Prod.fst) e
structure TOk(t:SetTable)(hs:List Int):Prop where
 mo:mZ t.mask
 dm:t.dummies=#[]
 rs:iC t.place
 bd:∀q j:Nat,t.place[q]?=some j->j<=t.mask
 sz:t.place.size=↑hs
 rc:∀(q j:Nat)(h:Int),t.place[q]?=some j->hs[q]?=some h->∃n,n<10*(t.mask+15)/\Rch t.mask (λx=>∃p:Nat,t.place[p]?=some x) n (st0 t.mask h) j
def YV{l:List Nat}(h:l.Pairwise (· < ·)):iC l.toArray:=λi k u v hi b a=>by
 obtain⟨a1,d⟩:=vg4.mp (by simpa using hi:l[i]?=some u);obtain⟨f,e⟩:=vg4.mp (by simpa using b:l[k]?=some v);rw[<-d,<-e];exact List.pairwise_iff_getElem.mp h i k a1 f a
def Cq(P:mZ m)(o:Array Int)(hn:o.size<=m)(O T:Nat)(I H:Bool):∃t ord,SetTable.laid m O T I H o=some (t,ord)/\t.mask=m/\t.led=I/\t.plain=H/\ord.toList.Perm (List.range o.size)/\∀w:List Int,(∀(q k:Nat),ord[q]?=some k->w[q]?=o[k]?)->↑w=o.size->TOk t w:=by
 obtain⟨f,e,L⟩:=YD P o hn;unfold SetTable.laid;rw[e];obtain⟨d,s⟩:∃l,List.filterMap (λj=>Option.map (λx=>(j,x))<|f.getD j none) (List.range<|m+1)=l:=⟨_,rfl⟩;have m1:∀j k:Nat,(j,k)∈d->f[j]?=some (some k):=λj k h=>by
  rw[<-s]at h;obtain⟨x,G,e⟩:=uj1.mp h;obtain⟨v,B,J⟩:=vg8.mp e;cases J;have i:j<f.size:=by rw[L.sz];exact vt7.mp G
  rw[gJ i];simp only[Array.getD,i,dif_pos]at B;exact cR some B
 have M:∀j k:Nat,f[j]?=some (some k)->(j,k)∈d:=λj k h=>by
  obtain⟨i,e⟩:=vt6.mp h;rw[<-s];refine uj1.mpr ⟨j,vt7.mpr (by rw[<-L.sz];exact i),?_⟩;simp only[Array.getD,i,dif_pos];show Option.map _ f[j]=_;rw[e];rfl
 have E:(d.map (·.2)).Perm (List.range o.size):=by
  have X:d.map (·.2)=f.toList.filterMap id:=by
   have J:f.toList=(List.range<|m+1).map λj=>f.getD j none:=by
    refine wE λj=>?_;rw[bD,iF];rcases iJ j (m+1)with c | c
    .have i:j<f.size:=by rw[L.sz];exact c
     rw[List.getElem?_range c,gJ i];simp[Array.getD,i]
    .rw[DQ (by rw[L.sz];exact c),nE<|by rw[lR];exact c];rfl
   rw[J,<-s,List.map_filterMap,yX]
   congr 1
   funext j
   show Option.map _ (Option.map _<|f.getD j none)=f.getD j none;cases f.getD j none <;> rfl
  rw[X];exact L.pm
 have W:∀(q j:Nat),(d.map (·.1)).toArray[q]?=some j->∃k,d[q]?=some (j,k):=λq j h=>by
  have h:(d.map (·.1))[q]?=some j:=by simpa using h
  rw[bD]at h;obtain⟨⟨K,k⟩,h1,rfl⟩:=vg8.mp h;exact⟨k,h1⟩
 refine⟨{mask:=m,place:=(d.map (·.1)).toArray,dummies:=#[],finger:=O,led:=I,moves:=T,plain:=H},(d.map (·.2)).toArray,by rw[<-s];rfl,rfl,rfl,rfl,by simpa using E,λw h1 h2=>⟨P,rfl,YV ?_,λq j h=>?_,?_,λq j h Z N=>?_⟩⟩
 .rw[<-s,List.map_filterMap];refine List.Pairwise.filterMap _ ?_ List.pairwise_lt_range;intro a b a7 x G y hy;obtain⟨z,hz,rfl⟩:=vg8.mp G;obtain⟨z',Y,rfl⟩:=vg8.mp hy;obtain⟨u,_,rfl⟩:=vg8.mp hz;obtain⟨u',_,rfl⟩:=vg8.mp Y;exact a7
 .obtain⟨k,A⟩:=W q j h;have:=(vt6.mp<|m1 _ _<|cX A).1;rw[L.sz]at this;exact yB this
 .show(d.map (·.1)).toArray.size=_;have:=E.length_eq;rw[aG,lR]at this;rw[cL,aG,this,h2]
 .obtain⟨k,A⟩:=W q j Z;have p:(d.map (·.2))[q]?=some k:=by rw[bD,A];rfl
  rw[h1 q k<|by simpa using p]at N;obtain⟨n,K,a1,a2,a3⟩:=L.rc k h (by simpa using N);have ej:K=j:=by
   obtain⟨C,r⟩:=vm3.mp<|M _ _ a2;have a5:(d.map (·.2))[C]?=some k:=by rw[bD,r];rfl
   have nd:(d.map (·.2)).Nodup:=E.nodup_iff.mpr List.nodup_range;have:=(List.getElem?_inj (vg4.mp p).1 nd).mp<|p.trans a5.symm;subst this;rw[A]at r;cases r;rfl
  subst ej;refine⟨n,a1,a3.mono ?_⟩;rintro x ⟨v,B⟩;obtain⟨C,r⟩:=vm3.mp<|M _ _ B;exact⟨C,by show(d.map (·.1)).toArray[C]?=_;simp[r]⟩
def TOk.empty(T:TOk t hs)(e:↑hs<=t.mask):∃j,j<=t.mask/\∀p:Nat,t.place[p]?≠some j:=by
 refine wL λz=>?_;have h:=wS (List.nodup_range (n:=t.mask+1)) (l₂:=t.place.toList) λj a=>by
  have a:=vt7.mp a;refine wL λw=>z ⟨j,by lia,λp b=>w ?_⟩
  exact cX (by simpa using b)
 rw[lR]at h;have:=T.sz;have d:↑t.place.toList=t.place.size:=rfl;lia
theorem TOk.way(T:TOk t hs)(i:↑hs<=t.mask)(h:Int):∃n j,n<10*(t.mask+15)/\j<=t.mask/\Rch t.mask (λx=>∃p:Nat,t.place[p]?=some x) n (st0 t.mask h) j/\∀p:Nat,t.place[p]?≠some j:=by
 obtain⟨l,d,b⟩:=T.empty i;obtain⟨k,m,rfl⟩:=RA T.mo h d;obtain⟨n,j,h1,h2,f,e⟩:=L2.way (occ:=λx=>∃p:Nat,t.place[p]?=some x) k _ _ (yB<|Nat.mod_lt _<|tY _) <| by rintro⟨p,a⟩;exact b p a
 exact⟨n,j,by lia,h2,f,λp a=>e ⟨p,a⟩⟩
theorem TOk.put(T:TOk t hs)(o:j<=t.mask)(v:∀p:Nat,t.place[p]?≠some j)(z:n<10*(t.mask+15))(r:Rch t.mask (λx=>∃p:Nat,t.place[p]?=some x) n (st0 t.mask h) j)(l:Bool):TOk {(t.put j).1 with plain:=l} (SetTable.insertAt hs.toArray (t.put j).2 h).toList:=by
 have a1:SetTable.below t.place j<=t.place.size:=NQ _ _ _ (aO _)<|bO _;have s:SetTable.below t.place j<=hs.toArray.size:=by rw[cL,<-T.sz];exact a1
 have g:=KW a1 j;have w:=KW s h;have u:=Cb T.rs v;show TOk {t with place:=SetTable.insertAt t.place (SetTable.below t.place j) j,dummies:=if SetTable.has t.dummies j=true then _ else t.dummies,plain:=l} (SetTable.insertAt hs.toArray (SetTable.below t.place j) h).toList;have m:(if SetTable.has t.dummies j=true then SetTable.eraseAt t.dummies (SetTable.below t.dummies j) else t.dummies)=#[]:=by rw[T.dm];rfl
 generalize SetTable.below t.place j=p at *;have i:∀x,(∃q:Nat,t.place[q]?=some x)->∃q:Nat,(SetTable.insertAt t.place p j)[q]?=some x:=by
  rintro x ⟨q,d⟩;rcases iJ q p with c | c
  .exact⟨q,by rw[g,aR c];exact d⟩
  .exact⟨q+1,by rw[g,aK (by lia),aK<|by lia];exact d⟩
 refine⟨T.mo,m,u,λq x d=>?_,?_,λq x h' d e=>?_⟩
 .rw[g]at d
  split at d
  .exact T.bd _ _ d
  .split at d
   .cases d;exact o
   .exact T.bd _ _ d
 .have:=T.sz;show(SetTable.insertAt t.place p j).toList.length=_;rw[AZ,AZ];simp;lia
 .rw[iF,w]at e;rw[g]at d
  split at d
  .rename_i c
   rw[aR c]at e;obtain⟨f,a,b⟩:=T.rc _ _ _ d (by simpa using e);exact⟨f,a,b.mono i⟩
  .rename_i c
   rw[aK c]at e
   split at d
   .rename_i c2
    rw[aR c2]at e;cases d;cases e;exact⟨n,z,r.mono i⟩
   .rename_i c2
    rw[aK c2]at e;obtain⟨f,a,b⟩:=T.rc _ _ _ d (by simpa using e);exact⟨f,a,b.mono i⟩
abbrev lL(t:SetTable)(x:Nat):Prop:=∃q:Nat,t.place[q]?=some x
def rL{t:SetTable}{ha:Nat->Int}{h:Int}(d:iC t.place)(hd:t.dummies=#[])(r:Rch t.mask (lL t) n p j):∀f,p.dummy=none->n<f->
  (∃n' p' q,n'<=n/\Rch t.mask (lL t) n' p' j/\p'.dummy=none/\t.place[q]?=some p'.j/\ha q=h/\SetTable.probe.go t ha h f p=some (.candidate p'.j q<|t.advance p'))\/((∀q:Nat,t.place[q]?≠some j)/\SetTable.probe.go t ha h f p=some (.empty j none))\/∃q:Nat,t.place[q]?=some j/\ha q≠h:=by
 induction r with
 | here p=>
  intro f b e;obtain⟨f,rfl⟩:∃g,f=g+1:=⟨f-1,by lia⟩;rw[SetTable.probe.go.eq_def];dsimp only
  by_cases c:lL t p.j
  .obtain⟨q,a⟩:=c;rw[EV d a]
   by_cases c:ha q=h
   .exact .inl ⟨0,p,q,aO _,.here p,b,a,c,aR<|by simpa using c⟩
   .exact .inr<|.inr ⟨q,a,c⟩
  .have c':∀q:Nat,t.place[q]?≠some p.j:=λq a=>c ⟨q,a⟩;rw[YZ hd c'];exact .inr<|.inl ⟨c',by rw[b]⟩
 | @step p n j h1 r ih=>
  intro f b e;obtain⟨f,rfl⟩:∃g,f=g+1:=⟨f-1,by lia⟩;rw[SetTable.probe.go.eq_def];dsimp only;obtain⟨q,a⟩:=id h1;rw[EV d a]
  by_cases c:ha q=h
  .exact .inl ⟨n+1,p,q,aO _,.step h1 r,b,a,c,aR<|by simpa using c⟩
  .dsimp only;rw[aK<|by simpa using c];have i:(oD t.mask p).dummy=none:=by
    unfold oD
    split <;> exact b
   rcases ih f i (by lia)with ⟨n',p',q',a1,a2⟩ | h | h
   .exact .inl ⟨n',p',q',by lia,a2⟩
   .exact .inr<|.inl h
   .exact .inr<|.inr h
section
variable{P:Program}{w:World}{A:Around}{E:Vp}{s:Shared}
def SE{ks:List aL}{a:Addr}(h:(bX P w).is s.heap ks a):∃o its m,s.heap.get? a=some o/\o.cls=.type "tuple"/\o.data=.seq its m/\∀v∈its.toList,carriedByValue v=true:=by
 obtain⟨o,its,m,h1,h2,e,d⟩:=h;exists o,its,m,h1,h2,e;generalize its.toList=l at d;clear h1 h2 e
 induction d with
 | nil=>exact λ_ h=>nomatch h
 | cons h _ ih=>
  intro v b;rcases vh3.mp b with rfl | b
  .exact(cE P w).byValue _ _ h
  .exact ih v b
def QA{ks:List aL}{a:Addr}{Q:Bool->Shared->Prop}(h:(bX P w).is s.heap ks a)(q:Q false s):wpAny (model P w) A (ofAClassStatement 8<|.ref a) Q E s:=by
 obtain⟨o,its,m,h1,h2,f,d⟩:=SE h;rw[ofAClassStatement.eq_def];dsimp only;refine aB<|nB (T:="tuple") ⟨o,h1,h2⟩ ?_;refine aB<|aD ?_;rw[aK<|by decide];refine aB (m:=seqItems? _) ?_;unfold seqItems?;dsimp only;refine aB<|wpAny_load h1 ?_;rw[f];refine aD ?_;dsimp only;rw[<-EK];refine aB<|wV _ (λrest b s'=>b=(none,())/\s'=s/\∀v∈rest,carriedByValue v=true) _ ?_ ?_ _ _ ⟨rfl,rfl,d⟩
 .rintro v rest _ _ ⟨rfl,rfl,g⟩;have e:ofAClassStatement 7 v=pure false:=by
   have:=g v<|.head _;cases v <;> first | rfl | cases this
  refine aB ?_;show wpAny _ _ (ofAClassStatement 7 v) _ _ _;rw[e];exact aD<|aD ⟨rfl,rfl,λv d=>g v<|.tail _ d⟩
 .rintro _ _ ⟨rfl,rfl,_⟩;exact aD q
def Ho{b:Addr}{k:List aL}{Q:Bool->Shared->Prop}(d:(bX P w).is s.heap k b)(l:List Value)(hl:∀v∈l,∃y a,v=.ref y/\(bX P w).is s.heap a y)(q:Q false s):wpAny (model P w) A (searchCouldBeSeen (.ref b) l) Q E s:=by
 unfold searchCouldBeSeen;refine aB<|wV _ (λrest b s'=>b=(none,())/\s'=s/\∀v∈rest,∃y a,v=.ref y/\(bX P w).is s.heap a y) _ ?_ ?_ _ _ ⟨rfl,rfl,hl⟩
 .rintro v rest _ s ⟨rfl,rfl,h⟩;obtain⟨y,a,rfl,e⟩:=h _<|.head _;have h':∀v∈rest,∃y a,v=.ref y/\(bX P w).is s.heap a y:=λv f=>h v<|.tail _ f;refine hC (λ_=>aD ⟨rfl,rfl,h'⟩) λ_=>?_;refine aB<|(bX P w).quiet d ?_;rw[aK<|by decide];refine aB<|(bX P w).quiet e ?_;rw[aK<|by decide];refine aB<|QA d ?_;rw[aK<|by decide];refine aB<|QA e ?_;rw[aK<|by decide];exact aD ⟨rfl,rfl,h'⟩
 .rintro _ _ ⟨rfl,rfl,_⟩;exact aD q
def Ft{α:Type}{b:Addr}{k:List aL}{c:Bool}{a:Unit->Sem α}{W:String}{l:List Value}{Q:α->Shared->Prop}(d:(bX P w).is s.heap k b)(hl:∀v∈l,∃y ky,v=.ref y/\(bX P w).is s.heap ky y)(h:wpAny (model P w) A (a ()) Q E s):
  wpAny (model P w) A (if c=true then searchCouldBeSeen (.ref b) l >>= λx=>if x=true then unsupported W >>= a else a () else a ()) Q E s:=by
 refine hC (λ_=>?_) λ_=>h;refine aB<|Ho d _ hl ?_;rw[aK cA];exact h
def VB(a:Addr):isSame (.ref a) (.ref a)=pure true:=by unfold isSame;exact aR (by simp)
def QS(t:SetTable):t.sameMemory t.moves t.mask=some true:=by unfold SetTable.sameMemory;rw[aR<|by simp]
structure SPt(P:Program)(w:World)(h:Heap)(a:Addr)(qs:List (Pr×Addr))(es:Array (Int×Value))(ep:Nat)(t:SetTable):Prop where
 g:h.get? a=some {cls:=.type "set",data:=.set es ep t}
 e:es.toList=qs.map λq=>((bX P w).hash<|bW q.1,Value.ref q.2)
 nd:(qs.map (·.1)).Nodup
 ok:TOk t (es.toList.map (·.1))
 fl:↑qs*5<t.mask*3
 ld:t.led=!cV w
def SPt.len(S:SPt P w h a qs es ep t):es.size=↑qs:=by rw[<-cF,S.e,aG]
theorem SPt.fits(S:SPt P w h a qs es ep t):t.fits es.size=true:=by
 have h1:=S.ok.sz;have h2:=S.fl;rw[aG,cF]at h1;have b:=S.len;unfold SetTable.fits SetTable.fill;rw[S.ok.dm];simp;lia
def SPt.at(S:SPt P w h a qs es ep t)(i:Nat)(b:qs[i]?=some q):es[i]?=some ((bX P w).hash<|bW q.1,Value.ref q.2):=by
 rw[<-iF,S.e,bD,b];rfl
def SPt.odd(S:SPt P w h a qs es ep t):t.gaveWay=false:=by
 unfold SetTable.gaveWay;rcases S.ok.mo with e | e | e <;> rw[e] <;> rfl
def Ek{es:Array (Int×Value)}{q:Nat}(h:es[q]?=some (x,v)):(Option.map (λx=>x.fst) es[q]?).getD 0=x:=by rw[h];rfl
def SM{a b:Addr}{i:List (Pr×Addr)}{es:Array (Int×Value)}{ep:Nat}{t:SetTable}{k:Pr}{ad:Bool}{j:Nat}{Q:SetFound->Shared->Prop}(S:SPt P w s.heap a i es ep t)(N:(bX P w).room A)(B:∀q∈i,(bX P w).is s.heap (bW q.1) q.2)(H:(bX P w).is s.heap (bW k) b)
  (h1:(∀p:Nat,t.place[p]?≠some j)->k∉i.map (·.1)/\Q (.free j false) s) (h2:∀p:Nat,t.place[p]?=some j->∃x,i[p]?=some x/\x.1=k) (C:k∈i.map (·.1)->∀r:Option Nat,(ad=false->r.isSome=true)->Q (.there r) s):
  ∀(n:Nat)(p:SetTable.Probe)(f:Nat)(m:Option SetTable.Probe),Rch t.mask (lL t) n p j->p.dummy=none->n<f->n<10*(t.mask+15)->m.getD (t.probeStart<|(bX P w).hash<|bW k)=p->wpAny (model P w) A (setSearchFrom a (.ref b) ((bX P w).hash<|bW k) ad f m) Q E s:=by
 intro n
 induction n using Nat.strongRecOn with
 | ind n ih=>
 intro p f m r M W L J;obtain⟨f,rfl⟩:∃g,f=g+1:=⟨f-1,by lia⟩;rw[setSearchFrom.eq_def];dsimp only;refine aB<|dM S.g rfl S.fits ?_;dsimp only;rw[aK (by rw[S.odd];exact cA),J];have O:=λha=>rL (ha:=ha) (h:=(bX P w).hash<|bW k) S.ok.rs S.ok.dm r (10*SetTable.turns t.mask) M L;unfold SetTable.probe;rcases O _ with ⟨n',p',q,a1,a2,a3,a4,a5,e⟩ | ⟨a1,e⟩ | ⟨q,a1,a2⟩
 .rw[e];dsimp only;have u:q<↑i:=by
   have:=(vt6.mp a4).1;rw[S.ok.sz,aG,cF,S.len]at this;exact this
  have l:=bH u;have I:i[q]∈i:=fT u;refine Ft H (λv T=>?_) ?_
  .obtain⟨x,d,rfl⟩:=vh6.mp T;have d:=(Array.mem_filter.mp<|ug7.mp d).1;have d:=ug7.mpr d;rw[S.e]at d;obtain⟨q,K,rfl⟩:=vh6.mp d;exact⟨_,_,rfl,B q K⟩
  rw[S.at q l];dsimp only;refine aB<|dP<|(bX P w).eqBool N (B _ I) H ?_;refine aB<|dM S.g rfl S.fits ?_;dsimp only
  by_cases c:i[q].1=k
  .have G:k∈i.map (·.1):=vh6.mpr ⟨_,I,c⟩;rw[cI<|cR bW c];cases ad with
   | true=>exact aD<|C G _ λz=>nomatch z
   | false=>
    rw[aK (by decide),QS];dsimp only;rw[aR rfl,EV S.ok.rs a4];dsimp only;rw[S.at q l];dsimp only;rw[VB];exact aB<|aD<|aB<|aD<|aD<|C G _ λ_=>rfl
  .rw[eR λz=>c<|MB z,Bool.and_false,aK cA,QS];dsimp only;rw[aR rfl,EV S.ok.rs a4];dsimp only;rw[S.at q l];dsimp only;rw[VB];refine aB<|aD<|aB<|aD ?_;rw[aR rfl];dsimp only;rw[aK cA];cases a2 with
   | here=>
    obtain⟨x,d,e⟩:=h2 q a4;rw[l]at d;cases d;exact absurd e c
   | @step _ n'' _ o r'=>
    refine ih n'' (by lia) _ f _ r' ?_ (by lia) (by lia) rfl;show(oD t.mask p').dummy=none;unfold oD
    split <;> exact a3
 .rw[e];exact aD (h1 a1).2
 .exfalso;obtain⟨x,d,rfl⟩:=h2 q a1;exact a2<|Ek<|S.at q d
end
theorem VT{α β:Type}(f:α->Option β):∀(l:List α),(∀k∈l,(f k).isSome=true)->∀(q:Nat)(k:α),l[q]?=some k->(l.filterMap f)[q]?=f k
 | [],_,q,k,h=>nomatch h
 | a::l,h,q,k,hq=>by
  obtain⟨v,b⟩:=ub6.mp<|h a<|.head _;rw[List.filterMap_cons_some b];cases q with
  | zero=>cases hq;exact b.symm
  | succ q=>exact VT f l (λk d=>h k<|.tail _ d) q k hq
def ZD{α:Type}(l:List α):(List.range ↑l).filterMap (λk=>l[k]?)=l:=by
 have e:(List.range ↑l).filterMap (λk=>l[k]?)=((List.range ↑l).map λk=>l[k]?).filterMap id:=by rw[yX];rfl
 have a:((List.range ↑l).map λk=>l[k]?)=l.map some:=by
  refine wE λj=>?_;rw[bD,bD];rcases iJ j ↑l with c | c
  .rw[List.getElem?_range c];show some (l[j]?)=_;rw[bH c];rfl
  .rw[nE c,nE<|by rw[lR];exact c];rfl
 rw[e,a,yX];show l.filterMap (id∘some)=l;exact List.filterMap_some
section
variable{P:Program}{w:World}{A:Around}{E:Vp}{s:Shared}
def UI(b:Addr)(es:Array (Int×Value)):byScan (.ref b) es=false:=rfl
def PN{a b:Addr}{d:List (Pr×Addr)}{es:Array (Int×Value)}{ep:Nat}{t:SetTable}{k:Pr}{ad:Bool}{Q:SetFound->Shared->Prop}(S:SPt P w s.heap a d es ep t)(o:(bX P w).room A)(v:∀q∈d,(bX P w).is s.heap (bW q.1) q.2)(u:(bX P w).is s.heap (bW k) b)
  (h1:k∉d.map (·.1)->∀n j,n<10*(t.mask+15)->j<=t.mask->Rch t.mask (lL t) n (st0 t.mask<|(bX P w).hash<|bW k) j->(∀p:Nat,t.place[p]?≠some j)->Q (.free j false) s) (B:k∈d.map (·.1)->∀r:Option Nat,(ad=false->r.isSome=true)->Q (.there r) s):wpAny (model P w) A (setSearch a (.ref b) ((bX P w).hash<|bW k) ad) Q E s:=by
 have J:t.mask<=127:=by rcases S.ok.mo with e | e | e <;> lia
 by_cases c:k∈d.map (·.1)
 .obtain⟨x,C,rfl⟩:=vh6.mp c;obtain⟨i,hi⟩:=vm3.mp C;have H:i<t.place.size:=by
   rw[S.ok.sz,aG,cF,S.len];exact(vg4.mp hi).1
  have l:=gJ H;obtain⟨n,m,r⟩:=S.ok.rc i _ _ l (by rw[bD,iF,S.at i hi];rfl);refine SM (j:=t.place[i]) S o v u (λh=>absurd l<|h i) (λp f=>?_) B n _ 100000 none r rfl (by lia) m rfl;have:p=i:=by
   rcases Nat.lt_trichotomy p i with z | z | z
   .have:=S.ok.rs _ _ _ _ f l z;lia
   .exact z
   .have:=S.ok.rs _ _ _ _ l f z;lia
  subst this;exact⟨x,hi,rfl⟩
 .obtain⟨n,j,m,G,r,I⟩:=S.ok.way (h:=(bX P w).hash<|bW k) (by
   rw[aG,cF,S.len];have:=S.fl;lia)
  exact SM (j:=j) S o v u (λh=>⟨c,h1 c n j m G r h⟩) (λp f=>absurd f<|I p) B n _ 100000 none r rfl (by lia) m rfl
def ZV{a b:Addr}{d:List (Pr×Addr)}{es:Array (Int×Value)}{ep:Nat}{t:SetTable}{k:Pr}{Q:Option Nat->Shared->Prop}(S:SPt P w s.heap a d es ep t)(e:(bX P w).room A)(l:∀q∈d,(bX P w).is s.heap (bW q.1) q.2)(f:(bX P w).is s.heap (bW k) b)(i:k∈d.map (·.1))(h:∀r:Nat,Q (some r) s):
  wpAny (model P w) A (setFind a (.ref b)<|(bX P w).hash<|bW k) Q E s:=by
 unfold setFind;rw[setFindIn.eq_def];dsimp only;refine aB<|dM S.g rfl S.fits ?_;dsimp only;rw[UI,aK cA];refine aB<|PN (ad:=false) S e l f (λn=>absurd i n) λ_ r j=>?_;obtain⟨r,rfl⟩:=ub6.mp<|j rfl;exact aD<|h r
def ZR{ks:List aL}{a:Addr}{Q:Bool->Shared->Prop}(h:(bX P w).is s.heap ks a)(q:∀b,Q b s):wpAny (model P w) A (hashByValue 8<|.ref a) Q E s:=by
 obtain⟨o,its,m,h1,h2,i,d⟩:=SE h;rw[hashByValue.eq_def];dsimp only;refine aB<|kE (T:="tuple") ⟨o,h1,h2⟩ F.slot_tuple_hash.lookup ?_;show wpAny _ _ (seqItems? (.ref a) >>= _) _ _ _;unfold seqItems?;dsimp only;refine aB<|aB<|wpAny_load h1 ?_;rw[i];refine aD ?_;rw[Option.getD_some,<-EK];have f:wpAny (model P w) A (forIn its.toList ((none:Option Bool),()) λx j=>do
   let __do_lift <-hashByValue 7 x
   if (!__do_lift)=true then pure (ForInStep.done (some false,())) else pure (ForInStep.yield (none,()))) (λ_ s'=>s'=s) E s:=by
  refine wV _ (λrest b s'=>b=(none,())/\s'=s/\∀v∈rest,carriedByValue v=true) (λ_ s'=>s'=s) ?_ ?_ _ _ ⟨rfl,rfl,d⟩
  .rintro v rest _ s ⟨rfl,rfl,g⟩;obtain⟨c,e⟩:∃c,hashByValue 7 v=pure c:=by
    have:=g v<|.head _;cases v <;> first | exact⟨_,rfl⟩ | cases this
   rw[e];refine aB<|aD ?_;exact hC (λ_=>aD rfl) λ_=>aD ⟨rfl,rfl,λv d=>g v<|.tail _ d⟩
  .rintro _ _ ⟨rfl,rfl,_⟩;rfl
 refine aB<|aS f λr s' e=>?_;subst e
 split
 .exact aD<|q _
 .exact aD<|q _
abbrev gP(P:Program)(w:World)(q:Pr×Addr):Int×Value:=((bX P w).hash<|bW q.1,Value.ref q.2)
def SPt.next(m:Nat)(I:mZ m)(g:h.get? a=some {cls:=.type "set",data:=.set es ep t})(e:es.toList=qs.map (gP P w))(G:es.size<=m)(z:SetTable.sizeAbove n-1=m)(hsz:SetTable.sizeAbove n<=sizeLine)(nd:(qs.map (·.1)).Nodup)(r:↑qs*5<m*3)(p:t.fits es.size=true)(J:t.led=!cV w){s:Shared}(B:s.heap=h){Q:Unit->Shared->Prop}
  (u:∀(h':Heap) qs' es' ep' t',Heap.SameBut a h h'->SPt P w h' a qs' es' ep' t'->qs'.Perm qs->Q () {s with heap:=h'}):wpAny (model P w) A (setRelay a n) Q E s:=by
 subst B;have a1:es.size=↑qs:=by rw[<-cF,e,aG]
 unfold setRelay;refine aB<|dM g rfl p ?_;dsimp only;rw[aK<|by lia];obtain⟨t2,b,l,K,H,L,d,ok⟩:=Cq I (es.map (·.1)) (by rw[Array.size_map];exact G) t.finger (t.movedTo<|SetTable.sizeAbove n-1) t.led t.plain;have v:t.relaid (es.map (·.1)) n=some (t2,b):=by
  unfold SetTable.relaid;rw[z]at l ⊢;exact l
 rw[Array.size_map]at d;have C:∀k∈b.toList,k<↑qs:=λk j=>by rw[<-a1];exact vt7.mp<|d.mem_iff.mp j
 have o:(Array.filterMap (λx=>es[x]?) b).toList=(b.toList.filterMap λk=>qs[k]?).map (gP P w):=by
  rw[List.map_filterMap,Array.toList_filterMap]
  congr 1
  funext k
  rw[<-iF,e,bD]
 have p2:(b.toList.filterMap λk=>qs[k]?).Perm qs:=by
  have:=d.filterMap λk=>qs[k]?;rw[a1,ZD]at this;exact this
 have i:(Array.filterMap (λx=>es[x]?) b).size=es.size:=by rw[<-cF,o,aG,p2.length_eq,a1]
 rw[v];refine aB (m:=(if ((Array.filterMap (λx=>es[x]?) b).size != es.size)=true then _ else _:Sem _)) ?_;rw[aK<|by rw[i];simp];refine aD ?_;have hz:(Array.filterMap (λx=>es[x]?) b).size<=sizeLine:=by rw[i];lia
 refine CV g rfl ?_ hz;refine u _ _ _ _ _ (kT s.heap a _) ⟨iI _ g rfl,o,(p2.map _).nodup_iff.mpr nd,ok _ (λq k f=>?_) ?_,by rw[p2.length_eq,K];exact r,H.trans J⟩ p2
 .have f:b.toList[q]?=some k:=by simpa using f
  rw[bD,Array.toList_filterMap,VT _ _ (λk j=>?_) q k f,Array.getElem?_map];rw[gJ<|by rw[a1];exact C k j];rfl
 .rw[aG,cF,i,Array.size_map]
def vA{a b:Addr}{d:List (Pr×Addr)}{es:Array (Int×Value)}{ep:Nat}{t:SetTable}{k:Pr}{Q:Bool->Shared->Prop}(S:SPt P w s.heap a d es ep t)(hu:(bX P w).room A)(hq:∀q∈d,(bX P w).is s.heap (bW q.1) q.2)(hb:(bX P w).is s.heap (bW k) b)(hn:↑d<76)
  (K:∀(h':Heap) tk h l o t' c,Heap.SameBut a s.heap h'->SPt P w h' a h l o t'->(k∈d.map (·.1)->h=d)->(k∉d.map (·.1)->h.Perm ((k,b)::d))->Q c {s with heap:=h',toks:=tk}):wpAny (model P w) A (setAdd a<|.ref b) Q E s:=by
 unfold setAdd;refine dP<|aB<|(bX P w).pyHash hu hb ?_;unfold setAddHashed;refine dP ?_;generalize hs':({s with toks:=s.toks+(bX P w).draws (bW k)}:Shared)=s';have f:SPt P w s'.heap a d es ep t:=by rw[<-hs'];exact S
 have a9:∀q∈d,(bX P w).is s'.heap (bW q.1) q.2:=by rw[<-hs'];exact hq
 have X:(bX P w).is s'.heap (bW k) b:=by rw[<-hs'];exact hb
 rw[setAddHashedIn.eq_def];dsimp only;refine aB<|dM f.g rfl f.fits ?_;dsimp only;rw[UI,aK cA];refine aB<|PN (ad:=true) f hu a9 X (λx n j ac hj r he=>?_) λx r _=>?_
 rotate_left
 .refine aD ?_;subst hs';exact K s.heap _ d es ep t _ (vM _ _) S (λ_=>rfl) λz=>absurd x z
 dsimp only;refine aB<|dM f.g rfl f.fits ?_;dsimp only;have T1:=λv=>f.ok.put hj he ac r v;have G:∀v,TOk {(t.put j).1 with plain:=v} ((SetTable.insertAt es (t.put j).2 ((bX P w).hash<|bW k,Value.ref b)).toList.map (·.1)):=λv=>by
  have:=T1 v;rw[AZ]at this ⊢;rw[bP,eM,oF,tN];exact this
 obtain⟨i,C,u⟩:∃i:List (Pr×Addr),(SetTable.insertAt es (t.put j).2 ((bX P w).hash<|bW k,Value.ref b)).toList=i.map (gP P w)/\i.Perm ((k,b)::d):=by
  exists d.take (t.put j).2++(k,b)::d.drop (t.put j).2,?_
  .rw[AZ,f.e,bP,eM,oF,tN]
  .refine List.perm_middle.trans<|List.Perm.cons _ ?_;rw[uY]
 have M:(i.map (·.1)).Nodup:=(u.map _).nodup_iff.mpr<|vq2.mpr ⟨x,f.nd⟩;have L:(SetTable.insertAt es (t.put j).2 ((bX P w).hash<|bW k,Value.ref b)).size=↑d+1:=by rw[<-cF,C,aG,u.length_eq];rfl
 have zl:=f.len;have O:=f.fl;have J:∀t2:SetTable,TOk t2 ((SetTable.insertAt es (t.put j).2 ((bX P w).hash<|bW k,Value.ref b)).toList.map (·.1))->t2.mask=t.mask->t2.led=t.led->
   wpAny (model P w) A (storeSet a (SetTable.insertAt es (t.put j).2 ((bX P w).hash<|bW k,Value.ref b)) t2 >>= λ_=>if (!false && t2.tooFull)=true then setRelay a (SetTable.grown<|es.size+1) >>= λ_=>pure true else pure true) Q E s':=by
  intro t2 T Y Z;have out:∀(h':Heap) h l o t',Heap.SameBut a s.heap h'->SPt P w h' a h l o t'->h.Perm ((k,b)::d)->Q true {s' with heap:=h'}:=λh' h l o t' H I p=>by
   subst hs';exact K h' _ h l o t' true H I (λz=>absurd z x) λ_=>p
  have ab:s'.heap=s.heap:=by rw[<-hs']
  generalize hE:SetTable.insertAt es (t.put j).2 ((bX P w).hash<|bW k,Value.ref b)=a1 at *;have aa:a1.size<=sizeLine:=by rw[L];exact cM (bN<|by lia)
  refine aB<|CV f.g rfl ?_ aa;have N:(s'.heap.update a<|Obj.putSet a1 t2).get? a=some {cls:=.type "set",data:=.set a1 (ep+1) t2}:=iI _ f.g rfl;have W:Heap.SameBut a s.heap (s'.heap.update a<|Obj.putSet a1 t2):=by rw[ab];exact kT s.heap a _
  have B:t2.fill=↑d+1:=by
   unfold SetTable.fill;rw[T.dm,T.sz,aG,cF,L];rfl
  have ft:t2.fits a1.size=true:=by
   have h1:=T.sz;rw[aG,cF]at h1;unfold SetTable.fits;rw[B,h1,Y];simp;lia
  have hl:↑i=↑d+1:=u.length_eq;refine hC (λc=>?_) λc=>?_
  .have c:t2.fill*5≥t2.mask*3:=by simpa [SetTable.tooFull]using c
   rw[B,Y]at c;have go:∀m,mZ m->SetTable.sizeAbove (SetTable.grown<|es.size+1)-1=m->SetTable.sizeAbove (SetTable.grown<|es.size+1)<=sizeLine->a1.size<=m->↑i*5<m*3->wpAny (model P w) A (setRelay a (SetTable.grown<|es.size+1) >>= λ_=>pure true) Q E {s' with heap:=s'.heap.update a<|Obj.putSet a1 t2}:=λm hm hw h1 h2 h3=>
    aB (SPt.next m hm N C h2 hw h1 M h3 ft (Z.trans f.ld) rfl λh' h l o t' H I p=>aD<|out h' h l o t' (W.trans H) I<|p.trans u)
   rcases f.ok.mo with e | e | e
   .have:es.size=4:=by rw[e]at c O;lia
    exact go 31 (.inr<|.inl rfl) (by rw[this];decide) (by rw[this];decide) (by lia) (by lia)
   .have:es.size=18:=by rw[e]at c O;lia
    exact go 127 (.inr<|.inr rfl) (by rw[this];decide) (by rw[this];decide) (by lia) (by lia)
   .exfalso;rw[e]at c;lia
  .have c:¬t2.fill*5≥t2.mask*3:=by simpa [SetTable.tooFull]using c
   exact aD<|out _ i a1 _ t2 W ⟨N,C,M,T,by rw[hl,<-B];exact Nat.lt_of_not_ge c,Z.trans f.ld⟩ u
 refine hC (λ_=>aB<|ZR X λc=>?_) λ_=>aB<|aD ?_
 .cases c with
  | true=>exact J (t.put j).1 (G (t.put j).1.plain) rfl rfl
  | false=>exact J _ (G false) rfl rfl
 .exact J (t.put j).1 (G (t.put j).1.plain) rfl rfl
end
def EmS(h:Heap)(r:Addr):Prop:=∃ep t,h.get? r=some {cls:=.type "set",data:=.set #[] ep t}/\t.fits 0=true
def EmS.at(x:EmS h r)(k:∀o,h.get? r=some o->h'.get? r=some o):EmS h' r:=by
 obtain⟨ep,t,g,f⟩:=x;exact⟨ep,t,k _ g,f⟩
def nF(h:Heap)(v:Value):Prop:=carriedByValue v=true\/∃y ob,v=.ref y/\h.get? y=some ob/\ob.cls=.type "tuple"
section
variable{P:Program}{w:World}{A:Around}{E:Vp}{s:Shared}
def Ex{a:Addr}{es:Array (Int×Value)}{ep:Nat}{t:SetTable}{Q:Array (Int×Value)->Shared->Prop}(g:s.heap.get? a=some {cls:=.type "set",data:=.set es ep t})(f:t.fits es.size=true)(b:t.led=!cV w)(h:∀arr d,arr.toList.Perm es.toList->Q arr {s with drawn:=d}):wpAny (model P w) A (setWalk a) Q E s:=by
 unfold setWalk;refine aB<|dM g rfl f ?_;unfold setsByText;refine aB<|aB<|lZ<|aD ?_;refine hC (λ_=>aB<|lZ<|aD<|h _ s.drawn<|GO _ _) λc=>?_;refine hC (λ_=>?_) λ_=>?_
 .refine aB<|WQ _ _ _ _ (cF) λys d p=>aD<|h _ d ?_;rw[List.toList_toArray];exact p
 .refine aB (m:=(if (!t.led && decide (es.size > 1))=true then _ else _:Sem _)) ?_;rw[aK (by
   rw[b];intro z;rw[kH,Bool.not_not]at z;exact c z.1)]
  exact aD<|aD<|h _ s.drawn<|kK _
def XN{l:List Addr}{Q:Bool->Shared->Prop}(hl:∀x∈l,∃es ep t,s.heap.get? x=some {cls:=.type "set",data:=.set es ep t}/\t.fits es.size=true/\∀e∈es.toList,nF s.heap e.2)(h:∀b,Q b s):wpAny (model P w) A (setsQuiet l) Q E s:=by
 unfold setsQuiet;have a:∀{α β:Type}(f:α->β->Sem (ForInStep β))(ok:α->Prop)(l:List α)(b:β),(∀x∈l,ok x)->(∀x b,ok x->wpAny (model P w) A (f x b) (λ_ s'=>s'=s) E s)->wpAny (model P w) A (forIn l b f) (λ_ s'=>s'=s) E s:=by
  intro α β f ok l b hl d;refine wV f (λrest _ s'=>s'=s/\∀x∈rest,ok x) _ ?_ ?_ _ _ ⟨rfl,hl⟩
  .rintro x rest b _ ⟨rfl,g⟩;refine aS (d x b<|g x<|.head _) λr s' e=>?_;subst e;cases r with
   | yield=>exact⟨rfl,λx i=>g x<|.tail _ i⟩
   | done=>rfl
  .rintro _ _ ⟨rfl,_⟩;rfl
 refine aB<|aS (a _ (λx=>∃es ep t,s.heap.get? x=some {cls:=.type "set",data:=.set es ep t}/\t.fits es.size=true/\∀e∈es.toList,nF s.heap e.2) l _ hl ?_) λr s' e=>?_
 .rintro x b ⟨es,ep,t,g,f,j⟩;unfold setEntries;refine aB<|aB<|dM g rfl f<|aD ?_;rw[<-EK];refine aB<|aS (a _ (λe=>nF s.heap e.2) es.toList _ j ?_) λr s' e=>?_
  .rintro⟨m,v⟩ b pv;rcases pv with c | ⟨y,ob,rfl,g1,g2⟩
   .cases v <;> first | exact aD rfl | cases c
   .dsimp only;refine aB<|kE (T:="tuple") ⟨ob,g1,g2⟩ F.slot_tuple_eq.lookup ?_;exact hC (λ_=>aD rfl) λ_=>aD rfl
  .subst e;dsimp only
   split <;> exact aD rfl
 .subst e;dsimp only
  split <;> exact aD (h _)
def Bf{a o r:Addr}{es m:Array (Int×Value)}{ep v:Nat}{t t2:SetTable}{Q:Array (Int×Value)->Shared->Prop}(g:s.heap.get? a=some {cls:=.type "set",data:=.set es ep t})(f:t.fits es.size=true)(G:t.led=!cV w)(I:s.heap.get? o=some {cls:=.type "set",data:=.set m v t2})(H:t2.fits m.size=true)
  (B:∀e∈es.toList++m.toList,nF s.heap e.2) (u:EmS s.heap r) (h:∀a1 d h',a1.toList.Perm es.toList->Heap.SameBut r s.heap h'->EmS h' r->Q a1 {s with drawn:=d,heap:=h'}):wpAny (model P w) A (setWalkUnseen a [o,r]<|some r) Q E s:=by
 have q:wpAny (model P w) A (setWalk a) Q E s:=Ex g f G λa1 d p=>h a1 d s.heap p (vM _ _) u;obtain⟨z,C,i,n⟩:=u;unfold setWalkUnseen;refine aB<|dM g rfl f ?_;unfold setsByText;refine aB<|aB<|lZ<|aD ?_;refine hC (λ_=>q) λ_=>?_;refine aB<|XN (λx j=>?_) λb=>?_
 .rcases vh3.mp j with rfl | j
  .exact⟨es,ep,t,g,f,λe l=>B e<|mQ _ l⟩
  rcases vh3.mp j with rfl | j
  .exact⟨m,v,t2,I,H,λe l=>B e<|fR _ l⟩
  .rw[vh7.mp j];exact⟨#[],z,C,i,n,λe l=>nomatch l⟩
 refine hC (λ_=>q) λ_=>aB<|fN ?_;dsimp only;refine aB<|dM i rfl n ?_;dsimp only;refine hC (λ_=>?_) λ_=>aD<|h _ s.drawn s.heap (kK _) (vM _ _) ⟨z,C,i,n⟩;refine aB<|CV i rfl (aD<|h _ s.drawn _ (kK _) (kT s.heap r _) ⟨_,_,iI _ i rfl,n⟩)<|bO _
def XI{a o:Addr}{id:String}{es j:Array (Int×Value)}{ep H:Nat}{t t2:SetTable}{Q:Vp}(g:s.heap.get? a=some {cls:=.type "set",data:=.set es ep t})(f:t.fits es.size=true)(L:t.led=!cV w)(r:s.heap.get? o=some {cls:=.type "set",data:=.set j H t2})(u:t2.fits j.size=true)
  (M:∀e∈es.toList++j.toList,nF s.heap e.2) (T:es.size<=j.size) (fd:∀(q:Shared)(Q:Option Nat->Shared->Prop),(∀b h,s.heap.get? b=some h->q.heap.get? b=some h)->∀e∈es.toList,(∀i,Q (some i) q)->wpAny (model P w) A (setFind o e.2 e.1) Q E q)
  (x:∀h' d,(∀b h,s.heap.get? b=some h->h'.get? b=some h)->EmS h' s⁻¹->Q (.ref s⁻¹) {s with heap:=h',drawn:=d}):wpAny (model P w) A (Builtin.Frozenset.difference id a<|.ref o) Q E s:=by
 have tA:s.TypeIs (.ref a) "set":=⟨_,g,rfl⟩;have B:s.TypeIs (.ref o) "set":=⟨_,r,rfl⟩;have ss:isSubtype (.type "set") (.type "set")=pure true:=by(rw[gK];kernel_rfl)
 unfold Builtin.Frozenset.difference Builtin.Frozenset.isAnySet;dsimp only;refine aB<|aB ?_;refine gZ B ss<|aD ?_;rw[aK<|by decide];refine aB<|aD ?_;rw[aK (by rw[Bool.not_true,Bool.false_and];exact cA),aR rfl];unfold Builtin.Frozenset.sizeOf setEntries;refine aB<|aB<|aB<|dM r rfl u<|aD<|aD ?_;refine aB<|aB<|aB<|dM g rfl f<|aD<|aD ?_;dsimp only;rw[aK<|by lia];unfold Builtin.Frozenset.baseOf;refine aB<|aB<|gZ tA ss<|aD ?_;rw[aR rfl];unfold newSet setsByText;refine aB<|aB<|aB<|lZ<|aD ?_;dsimp only;refine fY ?_;refine aB<|aD ?_;have l:∀b h,s.heap.get? b=some h->(s.heap.push<|hJ w).get? b=some h:=λb h e=>aZ _ e;have I:(s.heap.push<|hJ w).get? s⁻¹=some (hJ w):=bY _ rfl;unfold setEpoch;refine aB<|aB<|dM (s:={s with heap:=s.heap.push<|hJ w}) (l _ _ g) rfl f<|aD ?_;refine aB<|dP ?_;rw[aR rfl];have a1:∀e∈es.toList++j.toList,nF (s.heap.push<|hJ w) e.2:=λe m=>(M e m).imp (λz=>z) <| by rintro⟨y,h,C,N,K⟩;exact⟨y,h,C,l _ _ N,K⟩
 refine aB<|Bf (s:={s with heap:=s.heap.push<|hJ w}) (l _ _ g) f L (l _ _ r) u a1 ⟨_,_,I,rfl⟩ λO d h' p G J=>?_;have n:∀b h,s.heap.get? b=some h->h'.get? b=some h:=λb h e=>G.extBut _ _ (bI<|bA e)<|l _ _ e;rw[<-EK];refine aB<|wV _ (λrest _ s'=>s'={s with heap:=h',drawn:=d}/\∀e∈rest,e∈es.toList) _ ?_ ?_ _ _ ⟨rfl,λe m=>p.mem_iff.mp m⟩
 .rintro e rest b _ ⟨rfl,v⟩;refine aB<|dP ?_;rw[aR rfl];refine aB<|fd _ _ n e (v e<|.head _) λi=>?_;refine aB<|aD ?_;rw[Option.isSome_some,aK<|by decide];refine aD ?_;unfold Builtin.Frozenset.unchanged setEpoch;refine aB<|aB<|aB<|dM (s:={s with heap:=h',drawn:=d}) (n _ _ g) rfl f<|aD ?_;rw[aK<|by simp];exact aD<|aD ⟨rfl,λe m=>v e<|.tail _ m⟩
 .rintro _ _ ⟨rfl,_⟩;exact aD<|aD<|x h' d n J
def Fj:entryFor table "set.__sub__"=some Builtin.«frozenset.__sub__»:=xK (id':="frozenset.__sub__") (by kernel_rfl) rfl (by rfl') (by kernel_rfl)
def Cg:entryFor table "set.__eq__"=some Builtin.«frozenset.__eq__»:=xK (id':="frozenset.__eq__") (by kernel_rfl) rfl (by rfl') (by kernel_rfl)
def Fu(a b:Value):argsOk "set.__eq__" ⟨[a,b],[]⟩:=by
 unfold argsOk;rw[BG (id:="set.__eq__") (n:=['_','_','q','e','_','_']) (o:=['t','e','s']) (by kernel_rfl) F.owner_set];kernel_rfl
def ON{a o:Addr}{es j:Array (Int×Value)}{ep a1:Nat}{t t2:SetTable}{Q:Vp}(g:s.heap.get? a=some {cls:=.type "set",data:=.set es ep t})(f:t.fits es.size=true)(q:t.led=!cV w)(m:s.heap.get? o=some {cls:=.type "set",data:=.set j a1 t2})(r:t2.fits j.size=true)
  (u:∀e∈es.toList++j.toList,nF s.heap e.2) (p:es.size<=j.size) (fd:∀(h:Shared)(Q:Option Nat->Shared->Prop) E,(∀b ob,s.heap.get? b=some ob->h.heap.get? b=some ob)->∀e∈es.toList,(∀i,Q (some i) h)->wpAny (model P w) A.in1 (setFind o e.2 e.1) Q E h)
  (n:∀h' d,(∀b ob,s.heap.get? b=some ob->h'.get? b=some ob)->EmS h' s⁻¹->Q (.ref s⁻¹) {s with heap:=h',drawn:=d}):wpAny (model P w) A (binaryOp .Sub (.ref a)<|.ref o) Q E s:=by
 have tA:s.TypeIs (.ref a) "set":=⟨_,g,rfl⟩;have l:s.TypeIs (.ref o) "set":=⟨_,m,rfl⟩;have ss:isSubtype (.type "set") (.type "set")=pure true:=by(rw[gK];kernel_rfl)
 refine wpAny_binaryOp_same tA l F.fills_set_sub F.slot_set_sub<|fO F.slot_set_sub tA Fj ?_<|F.args_set_sub_2 _ _;unfold Builtin.«frozenset.__sub__»;refine aB<|sO (a:=(Value.ref a,Value.ref o)) rfl ?_;dsimp only;rw[aK cA];unfold Builtin.Frozenset.isAnySet;refine aB<|aB<|aB<|gZ tA ss<|aD ?_;refine aB<|gZ l ss<|aD ?_;rw[aK<|by decide];refine aB<|aD ?_;refine aB<|XI g f q m r u p (λh Q=>fd h Q _) λh' d k e=>aD ⟨_,rfl,by simp,n h' d k e⟩
def rN{a o:Addr}{Q:Vp}(i:A.units<cLine)(ha:EmS s.heap a)(j:EmS s.heap o)(h:Q (.bool true) s):wpAny (model P w) A (compareOp .Eq (.ref a)<|.ref o) Q E s:=by
 obtain⟨ep,t,g,f⟩:=ha;obtain⟨m,t2,b,d⟩:=j;have tA:s.TypeIs (.ref a) "set":=⟨_,g,rfl⟩;have e:s.TypeIs (.ref o) "set":=⟨_,b,rfl⟩;have ss:isSubtype (.type "set") (.type "set")=pure true:=by(rw[gK];kernel_rfl)
 have l:isSubtype (.type "set") (.type "frozenset")=pure false:=by(rw[gK];kernel_rfl)
 show wpAny _ _ (richCompare .Eq (.ref a)<|.ref o) _ _ _;refine wpAny_richCompare_same_room tA e F.slot_set_eq (fO F.slot_set_eq tA Cg ?_<|Fu _ _) i;unfold Builtin.«frozenset.__eq__»;refine aB<|sO (a:=(Value.ref a,Value.ref o)) rfl ?_;dsimp only;unfold Builtin.Frozenset.isAnySet;refine aB<|aB<|gZ e ss<|aD ?_;rw[aK<|by decide];unfold Builtin.Frozenset.sizeOf setEntries;refine aB<|aD<|aB<|aD ?_;refine aB<|aB<|aB<|dM g rfl f<|aD<|aD ?_;refine aB<|aB<|aB<|dM b rfl d<|aD<|aD ?_;dsimp only;refine aB ?_;rw[aK<|by simp];refine aB<|aB<|gZ tA l<|aD ?_;rw[aK<|by decide];unfold Builtin.Frozenset.subsetOf Builtin.Frozenset.sizeOf setEntries;refine aB<|aB<|aB<|dM g rfl f<|aD<|aD ?_;refine aB<|aB<|aB<|dM b rfl d<|aD<|aD ?_;dsimp only;rw[aK<|by simp];unfold setEpoch Builtin.Frozenset.walkUnseen setEntries;refine aB<|aB<|dM g rfl f<|aD ?_;refine aB<|aB<|aB<|dM g rfl f<|aD ?_;refine aB<|aB<|dM b rfl d<|aD ?_;refine aB<|aD<|aD ?_;exact aB<|aD<|aD<|aD ⟨_,rfl,by simp,h⟩
end
abbrev iP(r:Addr):HO:=.ext λh=>EmS h r
abbrev pJ(P:Program)(w:World)(a:Addr)(qs:List (Pr×Addr)):HO:=.ext λh=>∃es ep t,SPt P w h a qs es ep t
def HZ{P:Program}{w:World}{H:Hp}{h:Heap}{a:Addr}(S:EmS h a):ObjOk P w H h a (iP a):=by
 refine⟨S,?_,λh1 h2 b k=>b.at k⟩;obtain⟨_,_,h1,_⟩:=S;exact⟨_,h1⟩
def rC{P:Program}{w:World}{H:Hp}{h:Heap}{a:Addr}{d:List (Pr×Addr)}(S:SPt P w h a d es ep t):ObjOk P w H h a (pJ P w a d):=by
 refine⟨⟨es,ep,t,S⟩,⟨_,S.g⟩,by rintro h1 h2 ⟨es,ep,t,b⟩ k;exact⟨es,ep,t,k _ b.g,b.e,b.nd,b.ok,b.fl,b.ld⟩⟩
section
variable{P:Program}{w:World}{A:Around}{E:Vp}{s:Shared}
def Eg{a:Addr}{es:Array (Int×Value)}{ep:Nat}{t:SetTable}{x:Str}{tk:Tok}{h:Int}{Q:Option Nat->Shared->Prop}(g:s.heap.get? a=some {cls:=.type "set",data:=.set es ep t})(f:t.fits es.size=true)(b:∀e∈es.toList,lG w e)(hz:es.size<1000)(n:x∈es.toList.map eJ)(j:∀i,Q (some i) s):wpAny (model P w) A (setFind a (.str x tk) h) Q E s:=by
 unfold setFind;rw[setFindIn.eq_def];dsimp only;refine aB<|dM g rfl f ?_;dsimp only;have l:byScan (.str x tk) es=true:=by
  unfold byScan;rw[kH,kH];exists ⟨rfl,cI<|fP hz<|by decide⟩;rw[EO];intro e h;exact RF (b e<|by simpa using h)
 rw[aR l];refine aB<|fN ?_;refine aB ?_;unfold setScan;dsimp only;have m:(es.all λe=>isExactStrKey e.snd)=true:=by
  rw[EO];intro e h;exact QH (b e<|by simpa using h)
 rw[aR m];unfold setScanStrs;cases hf:Array.findIdx? (λy=>y.snd.isStr x) es with
 | none=>
  exfalso;obtain⟨e,h,p⟩:=vh6.mp n;have:=Array.findIdx?_eq_none_iff.mp hf e (by simpa using h);rw[VL<|b e h,p]at this;simp at this
 | some i=>
  obtain⟨hi,d,_⟩:=Array.findIdx?_eq_some_iff_getElem.mp hf;obtain⟨y,a1,e⟩:=b _ (show es[i]∈es.toList by simp);have o:y=x:=by
   rw[e]at d;exact beq_iff_eq.mp (show(y == x)=true from d)
  subst o;dsimp only;rw[gJ hi,e];dsimp only;unfold setEpoch;refine aB<|aB<|dM g rfl f<|aD ?_;refine aB<|BC ?_;rw[cI rfl,aK<|by decide];refine aB<|aB<|dM g rfl f<|aD ?_;rw[aK (by simp),aR rfl];exact aD<|aD<|j i
end
inductive ES(w:World)(x y:V)(H:Hp)(Q:VK):Prop
 | mk(a b:Addr)(ss tt:List Str)(h1:x=.ref a)(h2:y=.ref b)(h3:H a=some (dV w a ss))(h4:H b=some (dV w b tt))(h5:∀x∈ss,x∈tt)(h6:↑tt<1000)(q:∀r,H r=none->Q (.ref r) (aA H r<|iP r)):ES w x y H Q
def ST:cN X (binaryOp .Sub) (ES X.w):=by
 intro a1 s σ H x y v u Q I J L h;obtain⟨a,b,ss,tt,rfl,rfl,ha,K,l,hz,q⟩:=h;cases J;cases L;obtain⟨es,ep,t,g,h2,n,M,N,A,_⟩:SSet X.w s.heap a ss:=(I.hok a _ ha).1;obtain⟨C,P,t2,p,m,j,W,r,_⟩:SSet X.w s.heap b tt:=(I.hok b _ K).1;have O:es.size=↑ss:=by rw[n,aG,cF]
 have Y:C.size=↑tt:=by rw[j,aG,cF]
 have hl:=wS M l;have o:∀e,lG X.w e->nF s.heap e.2:=λe ⟨x,tk,h⟩=>.inl (by rw[h];rfl)
 refine ON g N A p r (λe f=>?_) (by lia) (λT Q E k e f z=>?_) λh' d k G=>?_
 .rcases vj5.mp f with f | f
  .exact o e<|h2 e f
  .exact o e<|m e f
 .obtain⟨x,tk,i⟩:=h2 e f;have B:x∈ss:=by rw[n];exact vh6.mpr ⟨e,f,by rw[i];rfl⟩
  rw[i];exact Eg (k _ _ p) r m (by lia) (by rw[<-j];exact l x B) z
 .exact⟨.ref _,_,(I.drawn (d:=d)).laid (t':=s.toks) (h':=h') k (aO _)<|HZ G,rfl,q _<|I.hok.fresh<|aO _⟩
inductive qM(P:Program)(w:World)(K:Fg)(x y:V)(H:Hp)(Q:VK):Prop
 | mk(a b:Addr)(qs ps:List (Pr×Addr))(h1:x=.ref a)(h2:y=.ref b)(h3:H a=some (pJ P w a qs))(h4:H b=some (pJ P w b ps))(h5:fJ K H qs)(h6:fJ K H ps)(h7:∀n∈qs.map (·.1),n∈ps.map (·.1))(q:∀r,H r=none->Q (.ref r) (aA H r<|iP r)):qM P w K x y H Q
def CS(h:(bX P w).is h0 k a)(f:∀o,h0.get? a=some o->h1.get? a=some o):(bX P w).is h1 k a:=by
 obtain⟨o,its,m,g,r⟩:=h;exact⟨o,its,m,f _ g,r⟩
def ZJ(N:X.A.units+1<cLine):cN X (binaryOp .Sub) (qM X.prog X.w X.K):=by
 intro Y s σ H x y v u Q I J O h;obtain⟨a,b,z,ps,rfl,rfl,ha,M,j,n,m,q⟩:=h;cases J;cases O;obtain⟨es,ep,t,S⟩:∃es ep t,SPt X.prog X.w s.heap a z es ep t:=(I.hok a _ ha).1;obtain⟨B,G,t2,i⟩:∃es ep t,SPt X.prog X.w s.heap b ps es ep t:=(I.hok b _ M).1;have hl:=wS S.nd m;rw[aG,aG]at hl;have W:=S.len;have Z:=i.len;have p:∀{rs:List (Pr×Addr)},fJ X.K H rs->∀e∈rs.map (gP X.prog X.w),nF s.heap e.2:=λT e f=>by
  obtain⟨q,j,rfl⟩:=vh6.mp f;obtain⟨o,_,_,g,c,_⟩:=vB I<|T q j;exact .inr ⟨_,o,rfl,g,c⟩
 refine ON S.g S.fits S.ld i.g i.fits (λe f=>?_) (by lia) (λL Q E k e f r=>?_) λh' d k C=>?_
 .rcases vj5.mp f with f | f
  .exact p j e<|S.e▸f
  .exact p n e<|i.e▸f
 .rw[S.e]at f;obtain⟨x,l,rfl⟩:=vh6.mp f;have P:SPt X.prog X.w L.heap b ps B G t2:=⟨k _ _ i.g,i.e,i.nd,i.ok,i.fl,i.ld⟩;exact ZV P (rB N) (λq a1=>CS (vB I<|n q a1) λo e=>k _ _ e) (CS (vB I<|j x l) λo e=>k _ _ e) (m _<|vh6.mpr ⟨x,l,rfl⟩) r
 .exact⟨.ref _,_,(I.drawn (d:=d)).laid (t':=s.toks) (h':=h') k (aO _)<|HZ C,rfl,q _<|I.hok.fresh<|aO _⟩
inductive nS(x y:V)(H:Hp)(Q:VK):Prop
 | mk(a b:Addr)(h1:x=.ref a)(h2:y=.ref b)(h3:H a=some (iP a))(h4:H b=some (iP b))(q:Q (.bl true) H):nS x y H Q
def KI(e:X.A.units<cLine):cN X (compareOp .Eq) nS:=by
 intro j s σ H x y v u Q I i f h;obtain⟨a,b,rfl,rfl,ha,d,q⟩:=h;cases i;cases f;exact rN e (I.hok a _ ha).1 (I.hok b _ d).1 ⟨.bl true,H,I,rfl,q⟩
section
variable{P:Program}{w:World}{A:Around}{E:Vp}{s:Shared}
def Gv{R:Result->Shared->Prop}{D I:Addr}{fp l:List Addr}{xs:List (Pr×Addr)}{St:Nat->Heap->Prop}(W:Walks P w A.in1 I fp l ↑xs (λi v=>∃q,xs[i]?=some q/\v=.ref q.2) St)(K:D∉fp)(hz:↑xs<76)(hu:(bX P w).room A.in1)(H:∀q∈xs,q.2≠D/\q.2∉l):
  ∀(k i:Nat)(s:Shared)(a:List (Pr×Addr)) es ep t,↑xs-i=k->i<=↑xs->St i s.heap->SPt P w s.heap D a es ep t->(∀q∈a,q∈xs)->(∀n,n∈a.map (·.1)↔n∈(xs.take i).map (·.1))->↑a<=i->(∀q∈xs,(bX P w).is s.heap (bW q.1) q.2)->
  (∀h' tk qs' es' ep' t',SPt P w h' D qs' es' ep' t'->(∀q∈qs',q∈xs)->(∀n,n∈qs'.map (·.1)↔n∈xs.map (·.1))->(∀b o,b≠D->b∉l->s.heap.get? b=some o->h'.get? b=some o)->R (.ok<|.ret .none) {s with heap:=h',toks:=tk})->
  codeAny (model P w) A (.builtin "set.update.loop" ⟨[.ref D,.ref I],[]⟩) R s:=by
 have J:D∉l:=λz=>K<|W.sub D z;have E:∀{h h':Heap}{a es ep t},SPt P w h D a es ep t->(∀o,h.get? D=some o->h'.get? D=some o)->SPt P w h' D a es ep t:=λS k=>⟨k _ S.g,S.e,S.nd,S.ok,S.fl,S.ld⟩;intro k
 induction k with
 | zero=>
  intro i s a es ep t hk hi st S j m hl L r;have e:i=↑xs:=by lia
  subst e;refine jP GG ?_;rw[kI xE _];show wpAny _ A.in1 (pyNext (.ref I) >>= _) _ _ s;rw[dD<|aO _]at m;exact aB<|W.done s _ _ st λh' tk f=>aD<|r h' tk a es ep t (E S λo e=>f D o J e) j m λb o _ h2 e=>f b o h2 e
 | succ k ih=>
  intro i s a es ep t hk hi st S j m hl L r;have N:i<↑xs:=by lia
  refine jP GG ?_;rw[kI xE _];show wpAny _ A.in1 (pyNext (.ref I) >>= _) _ _ s;refine aB<|W.item i s _ _ N st λv h' tk hv ab f=>?_;obtain⟨x,a1,rfl⟩:=hv;have G:=cX a1;have u:∀q∈xs,(bX P w).is h' (bW q.1) q.2:=λq d=>CS (L q d) λo e=>f _ o (H q d).2 e;show wpAny _ A.in1 (holding [.ref x.2] _ >>= _) _ _ {s with heap:=h',toks:=tk};refine aB<|dP<|vA (s:={s with heap:=h',toks:=tk}) (E S λo e=>f D o J e) hu (λq d=>u q<|j q d) (u x G) (by lia) λh2 a8 ad T ae t2 c p S2 C B=>?_;refine aD ⟨lX xE _,?_⟩;have eT:xs.take (i+1)=xs.take i++[x]:=by rw[dG,a1];rfl
  refine ih (i+1) {s with heap:=h2,toks:=a8} ad T ae t2 (by lia) N (W.frame _ _ _ ab λb hb o e=>p.extBut _ _ (λz=>K<|z▸hb) e) S2 ?_ ?_ ?_ (λq d=>CS (u q d) λo e=>p.extBut _ _ (H q d).1 e) λY a9 a7 O aa t3 S3 s3 Z X=>?_
  .intro q d
   by_cases e:x.1∈a.map (·.1)
   .rw[C e]at d;exact j q d
   .rcases vh3.mp ((B e).mem_iff.mp d)with rfl | h
    .exact G
    .exact j q h
  .intro y;rw[eT,bP,vj5,<-m y];show _↔_\/y∈[x.1];rw[vh7]
   by_cases e:x.1∈a.map (·.1)
   .rw[C e];exact⟨.inl,λz=>z.elim id λz=>z▸e⟩
   .rw[((B e).map _).mem_iff,eM,vh3];exact⟨λz=>z.symm,λz=>z.symm⟩
  .by_cases e:x.1∈a.map (·.1)
   .rw[C e];lia
   .rw[(B e).length_eq,cY];lia
  .exact r Y a9 a7 O aa t3 S3 s3 Z λb o h1 M e=>X b o h1 M<|p.extBut _ _ h1<|f b o M e
end
inductive pS(P:Program)(w:World)(K:Fg)(vs:List V)(H:Hp)(Q:VK):Prop
 | mk(p:Addr)(xs:List (Pr×Addr))(h1:vs=[.ref p])(h2:SqT K H p (xs.map λq=>V.ref q.2))(h3:fJ K H xs)(h4:↑xs<76)(q:∀l qs,H l=none->(∀q∈qs,q∈xs)->(∀n,n∈qs.map (·.1)↔n∈xs.map (·.1))->Q (.ref l) (aA H l<|pJ P w l qs)):pS P w K vs H Q
def RH(Y:X.calm=true)(M:X.A.units+4<cLine):CallR X (.type "set") (pS X.prog X.w X.K):=by
 intro a4 s σ H vs us Q I r h;obtain⟨p,xs,rfl,O,B,hz,q⟩:=h;obtain⟨u,rfl,rx⟩:=gY r;cases rx;have N:H s⁻¹=none:=I.hok.fresh<|aO _;refine UX (OP _) (Q₁:=λv s1=>v=.ref s⁻¹/\s1={s with heap:=s.heap.push<|hJ X.w}) (QW ⟨rfl,rfl⟩) ?_;rintro _ _ ⟨rfl,rfl⟩;have d:(s.heap.push<|hJ X.w).get? s⁻¹=some (hJ X.w):=bY _ rfl;have a:SPt X.prog X.w (s.heap.push<|hJ X.w) s⁻¹ [] #[] 0 (SetTable.fresh 0 0<|!cV X.w):=⟨d,rfl,kD,⟨.inl rfl,rfl,(λi k u v h=>nomatch h),(λq j h=>nomatch h),rfl,λq j h h'=>nomatch h'⟩,(show 0*5<7*3 by decide),rfl⟩;refine⟨⟨_,d,rfl⟩,wpAny_call<|codeAny_call_builtin F.slot_set_init.plain F.entry_set_init<|check_set_init_1 ⟨_,d,rfl⟩ ?_⟩;generalize hh1:s.heap.push (hJ X.w)=h1 at d a;have f:∀b o,s.heap.get? b=some o->h1.get? b=some o:=λb o e=>by rw[<-hh1];exact aZ _ e
 have n:h1.objs.size=s⁻¹+1:=by rw[<-hh1,jU]
 obtain⟨its,L,pt,a8⟩:=I.tuple O;have hl:=L.length;rw[aG]at hl;obtain⟨o,x,C⟩:=id pt;have E:p<s⁻¹:=bA x;have a5:h1.IsTuple p its.toArray:=⟨o,f _ _ x,C⟩;have tp:({s with heap:=h1}:Shared).TypeIs (.ref p) "tuple":=⟨o,f _ _ x,C.1⟩;refine IT (s:={s with heap:=h1}) (T:="tuple") tp (by(rw[gK];kernel_rfl)) (by(rw[gK];kernel_rfl)) (by decide) d ?_;refine yL (s:={s with heap:=h1}) a5 ?_;have W:=Walks.tuple (prog:=X.prog) (w:=X.w) (A:=X.A.in1.in1.in1) (I.ok.hd Y) h1.objs.size p (bI<|by rw[n];exact jY E) its.toArray;have a0:its.toArray.size=↑xs:=by rw[cL,hl]
 rw[a0]at W;have P:Walks X.prog X.w X.A.in1.in1.in1 h1.objs.size [h1.objs.size,p] [h1.objs.size] ↑xs (λi v=>∃q,xs[i]?=some q/\v=.ref q.2) _:=W.weaken λi v l=>by
  have l:its[i]?=some v:=by simpa using l
  have hi:=(vg4.mp l).1;have G:xs[i]?=some (xs[i]'(by lia)):=bH _;obtain⟨u,M,t⟩:=L.get (i:=i) (by rw[bD,G];rfl);rw[M]at l;cases l;exact⟨_,G,t⟩
 have Z:s⁻¹∉[h1.objs.size,p]:=by
  rw[n];intro z;rcases vh3.mp z with z | z
  .exact absurd z<|bI<|oB _
  .exact absurd (vh7.mp z)<|cQ E
 have a1:∀q∈xs,(bX X.prog X.w).is s.heap (bW q.1) q.2:=λq h=>vB I<|B q h;have J:∀q∈xs,q.2<s⁻¹:=λq h=>by
  obtain⟨o,_,_,g,_⟩:=a1 q h;exact bA g
 refine Gv P Z hz (show X.A.units+1+1+1<cLine by lia) (λq h=>⟨bI<|J q h,λz=>absurd (vh7.mp z)<|bI<|by rw[n];exact jY<|J q h⟩) ↑xs 0 _ [] _ _ _ (Nat.sub_zero _) (bO _) ⟨⟨_,bY _ rfl,rfl,rfl⟩,⟨o,aZ _<|f _ _ x,C⟩⟩ ⟨aZ _ a.g,a.e,a.nd,a.ok,a.fl,a.ld⟩ (λq h=>nomatch h) (by simp) (aO _) (λq h=>CS (a1 q h) λo e=>aZ _<|f _ _ e) λh' tk qs es ep t S s' m k=>⟨rfl,?_⟩
 exact⟨.ref s⁻¹,_,I.laid (t':=tk) (λb o e=>k b o (bI<|bA e) (λz=>absurd (vh7.mp z)<|bI<|by rw[n];exact jY<|bA e)<|aZ _<|f _ _ e) (aO _)<|rC S,rfl,q _ _ N s' m⟩
def NB:CallR X (.type "set") (λa H Q=>a=[]/\∀l,H l=none->Q (.ref l) (aA H l<|iP l)):=by
 intro f s σ H a d Q I r h;obtain⟨rfl,q⟩:=h;cases r;refine call_set_0 λled=>?_;exact⟨.ref s⁻¹,_,I.laid (t':=s.toks) (λb o e=>aZ _ e) (aO _)<|HZ ⟨_,_,bY _ rfl,rfl⟩,rfl,q _<|I.hok.fresh<|aO _⟩
inductive xV(K:Fg)(x y:V)(H:Hp)(Q:VK):Prop
 | mk(a b:Addr)(ns:List Int)(h1:x=.ref a)(h2:y=.ref b)(h3:SqL K H a (ns.map V.int))(h4:SqL K H b (ns.map V.int))(q:Q (.bl false) H):xV K x y H Q
def tX(w:X.A.units<cLine):cN X (compareOp .NotEq) (xV X.K):=by
 intro E s σ H x y v u Q I B o h;obtain⟨a,b,d,rfl,rfl,ha,l,q⟩:=h;cases B;cases o;obtain⟨its,r,p,_⟩:=I.list ha;obtain⟨a1,f,p2,_⟩:=I.list l;have i:∀d:List Int,A2 VX (d.map V.int) (d.map V.int):=λd=>by
  induction d with
  | nil=>exact .nil
  | cons n _ ih=>exact .cons (.inr ⟨n,rfl,rfl⟩) ih
 have h:=SeqAt.RcNeAt.lists (A:=X.A) (e:=λ_=>true) p.isList p2.isList (by rw[cL,cL,<-↑r,<-↑f]) w λj h1 h2=>ZF I (λx y u v C z m=>Fa C z m) (i d) r f j h1 h2;rw[show(List.range its.toArray.size).all (λ_=>true)=true by simp]at h;exact h _ _ _ _ ⟨.bl _,H,I,rfl,q⟩
def Bs{K:Fg}(d:Nat->St->Hp->Prop)(r:d 0 σ0 H0)(a1:↑xs=↑ys)(hl:∀i σ H,i<=↑xs->d i σ H->SqT K H a xs/\SqT K H b ys)(q:∀i x y T σ H,xs[i]?=some x->ys[i]?=some y->d i σ H->H T=none->g (.ref T) σ (aA H T<|.tup [x,y]) λσ2 H2=>tt σ2 H2 λb H3=>if b=true then te σ2 H3 λv j=>∃zs,j D=some (.lst zs)/\↑zs<sizeLine/\d (i+1) σ2 (aA j D<|.lst<|zs++[v]) else d (i+1) σ2 H3)(hd:∀σ H,d ↑xs σ H->Q H):mG (IG K true true a b) g tt te D σ0 H0 Q:=by
 exists λi m σ H=>m=↑xs-i/\i<=↑xs/\d i σ H,⟨↑xs,by simp,bO _,r⟩;rintro i m σ H ⟨rfl,hi,p⟩;obtain⟨h,f⟩:=hl i σ H hi p
 by_cases l:i<↑xs
 .refine .inr ⟨⟨xs,ys,xs[i],ys[i]'(by lia),h,f,by simp[l],bH _⟩,d<|i+1,λσ' H' n=>⟨↑xs-(i+1),by lia,rfl,l,n⟩,λv H' y=>?_⟩;obtain⟨T,x,y,o,rfl,rfl,h1,h2⟩:=y;exact q i x y T σ H (h1 xs h) (h2 ys f) p o
 .have e:i=↑xs:=by lia
  subst e;exact .inl ⟨⟨xs,ys,h,f,.inl<|aO _⟩,hd σ H p⟩
def dF{N P:List Str}{a:Scope}(h1:a.kind=.function:=by rfl)(h2:a.isCoroutine=false:=by rfl)(h:a.isGenerator=false:=by rfl)(e:N.Nodup:=by rfl')(f:N.take P.length=P:=by rfl)(d:∀x∈P,a.names.lookup x=some .local\/a.names.lookup x=some .cell:=by rfl')(b:∀y∈a.names,y.2≠.free:=by rfl'):cU N P a:=⟨h1,h2,h,e,f,d,b⟩
section
variable{x:Str}{pos pos':Pos}{e:Expr}{te:TE}{scope:Scope}{N':List Str}{src:List (Option Nat)}
def eP(h1:scope.kind=.function:=by rfl)(h2:(scope.names.all λy=>decide<|y.2≠.cell)=true:=by rfl')(e:(scope.names.all λy=>decide<|y.2=.local->scope.names.lookup y.1=some .local)=true:=by rfl')(b:(scope.names.all λy=>decide<|y.2=.free->X.env.kindOf y.1=some .cell\/X.env.kindOf y.1=some .free)=true:=by rfl)(d:↑src=N'.length:=by rfl)
  (a:((N'.zip src).all λp=>match p.2 with | some j=>decide (X.N[j]?=some p.1) && decide ((p.1,NameKind.free)∈scope.names) | none=>true)=true:=by rfl):BlkN X scope N' src:=⟨h1,h2,e,b,d,a⟩
def sL(i:Nat)(h:X.N.Nodup)(b:PE X e te)(hi:X.N[i]?=some x:=by rfl)(f:wU X.env.scope x:=by exact .inl rfl)(d:swapsWith e (some<|.Name x pos') pos.line X.env=pure false:=by rfl)(a:X.fn x=true\/X.env.scope.names.lookup x=some .local:=by first | exact .inl rfl | exact .inr rfl):PS X (.Assign [.Name x pos'] e pos) (gC te<|bS i):=iW h hi f b d a
def gL(i:Nat)(d:X.N.Nodup)(hi:X.N[i]?=some x:=by rfl)(b:wU X.env.scope x:=by exact .inl rfl)(a:X.fn x=true\/X.env.scope.names.lookup x=some .local:=by first | exact .inl rfl | exact .inr rfl):PG X (.Name x pos) (bS i):=sS d hi b a
end
end L2
local macro_rules | `(tactic| trivial)=>`(tactic| first | exact aT | exact .head _ | exact .tail _ (.head _) | exact .tail _ (.tail _ (.head _)) | exact λ_ h=>absurd h aT | simp)
local macro_rules|`(tactic|ac_rfl)=>`(tactic|first|dsimp only[L2.iR,L2.Cx.nox]|skip)
namespace Gn
open PySem L2
variable{P:Program}{w:World}{K:Fg}{mg:Str->Option Value}{base:Heap}{f:Addr}{fd:FuncData}
abbrev qH:Str:="_law_hand_here"
abbrev qW:Str:="_law_world_here"
abbrev qA:List Str:=[qH,qW,"_law_env"]
abbrev qB:List Str:=[qH,"_law_many"]
abbrev qC:List Str:=[qH,"_law_some"]
abbrev qD:List Str:=[qH,qW,"_law_env","_law_above","_law_deed_here"]
abbrev qE:List Str:=[qW,"_law_kind","_law_deed_here"]
abbrev qF:List Str:=[qH,qW,"_law_env","_law_level"]
abbrev qG:List Str:=[qW,"_law_kind"]
abbrev qI:List Str:=["program","kind","deed"]
abbrev qK:List Str:=["program"]
def top(i:Nat):Stmt:=PySem.Challenge.pw_surecall_k17_whole_finer_and_more.main.body.getD i<|.Pass ⟨0,0,0,0⟩
abbrev NG:Stmt:=top 24
abbrev LW:Stmt:=top 25
abbrev eJ:Stmt:=top 26
structure oV(d m t:Int):Prop where
 d0:0<=d
 m0:0<=m
 m1:m<4611686018427387904
 t0:0<=t
def Hand(H:Hp)(a:Addr)(d m t r:Int):Prop:=H a=some (.lst [.int d,.int m,.int t,.int r])/\oV d m t
abbrev hl(d m t r:Int):HO:=.lst [.int d,.int m,.int t,.int r]
inductive SW(vs:List V)(H:Hp)(Q:VK):Prop
 | mk(a:Addr)(d m t r n:Int)(h1:vs=[.ref a,.int n])(h2:Hand H a d m t r)(h3:t<1000000)(h4:0<n)(h5:n<1000000)(h6:∀(x d' m' t':Int),0<=x->x<n->oV d' m' t'->t'<=t+1->Q (.int x) (aA H a<|hl d' m' t' r)):SW  vs H Q
def gB:Sp:=λvs H Q _=>SW  vs H Q
def eI(ha:PE X a ta)(d:PE X b tb)(e:JM b:=by exact λ_ _=>rfl):PE X (.Subscript a b pos) (cJ (nZ X.K) ta tb):=lK Bj ha d e
def xb8:cU [qH,"_law_many","_law_digit","_law_turn","_law_mixed"] qB (cG LW):=dF
def EU:fK [a,b,c,d] 0=some a:=rfl
def NO:fK [a,b,c,d] 1=some b:=rfl
def LU:fK [a,b,c,d] 2=some c:=rfl
def CQ:fK [a,b,c,d] 3=some d:=rfl
def Gm(F:Fun K "_law_take" "_law_take" LW f fd):bB P w K mg base cH (k+1) f fd qB gB:=by
 refine F.ok xb8 (λi H Q E h=>?_) λa1 A outer s H i Q E u h=>?_
 .obtain⟨a,d,m,t,r,n,rfl,_⟩:=h;rfl
 obtain⟨a,d,m,t,r,n,rfl,⟨b,ok⟩,p,e,l,q⟩:=h;exists _,aP (dS (cB mR (eI (pv 0) aQ) aQ<|cO _) (aP (sL 2 xb8.nd<|bV tL (eI (pv 0) aQ)<|pv 1)<|aP (kW (bV zJ (eI (pv 0) aQ)<|pv 1)<|vX (pv 0) aQ vW)<|bE<|bU<|pv 2) dW)
  (aP (kW (bV jN (eI (pv 0) aQ) aQ)<|vX (pv 0) aQ vW)<|aP (sL 3 xb8.nd<|eI (pv 0) aQ)<|aP (sL 4 xb8.nd<|bV tL (bV rH (bV jN (eI (pv 0) aQ)<|bV rH aQ<|pv 3)<|bV jN aQ<|bV rH (pv 3)<|pv 3) aQ)<|aP (kW (bV tL (bV rH (pv 4)<|bV jN (bV tL (pv 4) aQ) aQ) aQ)<|vX (pv 0) aQ vW)<|bE<|bU<|bV tL (bV zJ (eI (pv 0) aQ) aQ)<|pv 1)
 exists _,rfl,a,_,_,_,rfl,rfl,SqL.of b,EU,_,_,rfl,rfl,_,rfl;refine bJ (λc=>?_) λc=>?_
 .have c':d > 0:=cC c;exists _,rfl,a,_,_,_,rfl,rfl,SqL.of b,EU,_,rfl,_,_,rfl,rfl,e;exists _,rfl,a,_,_,_,rfl,rfl,SqL.of b,EU,_,rfl,_,_,rfl,rfl,⟨e,by lia⟩;exists _,rfl,a,_,0,0,rfl,rfl,b,rfl;exists _,rfl;exact q (d % n) (d / n) m t (wP _<|by lia) (vV _ e) ⟨Int.ediv_nonneg ok.d0 (by lia),ok.m0,ok.m1,ok.t0⟩ (by lia)
 .exists _,rfl,a,_,_,_,rfl,rfl,SqL.of b,LU,_,_,rfl,rfl;exists _,rfl,a,_,2,2,rfl,rfl,b,rfl;have H1:aA H a (.lst<|[V.int d,.int m,.int t,.int r].set 2<|.int<|t+1) a=some (.lst [.int d,.int m,.int<|t+1,.int r]):=aE;exists _,rfl,a,_,_,_,rfl,rfl,SqL.of H1,LU;exists _,rfl,a,_,_,_,rfl,rfl,SqL.of H1,NO,_,rfl,_,_,rfl,rfl,.inl (by constructor <;> decide),_,_,rfl,rfl;exists _,rfl,_,rfl,_,_,rfl,rfl,.inl ⟨by have:=ok.t0;lia,by lia⟩,_,_,rfl,rfl,_,_,rfl,rfl,.inr ?_,_,_,rfl,rfl,?_
  .have h1:0<=(t+1)*(t+1):=Int.mul_nonneg (by have:=ok.t0;lia) (by have:=ok.t0;lia);have h2:(t+1)*(t+1)<=1000000*1000000:=Int.mul_le_mul (by lia) (by lia) (by have:=ok.t0;lia) (by lia)
   constructor <;> lia
  .show(0:Int)<2305843009213693921
   decide
  have j:0<=(m+39373*(t+1))*(48271+(t+1)*(t+1)) % 2305843009213693921:=wP _ (by decide);have o:(m+39373*(t+1))*(48271+(t+1)*(t+1)) % 2305843009213693921<2305843009213693921:=vV _ (by decide);exists _,rfl,_,rfl,_,_,rfl,rfl,?_,_,_,rfl,rfl,_,_,rfl,rfl,.inl ⟨by lia,by lia⟩,_,_,rfl,rfl,?_
  .show(0:Int)<1000003
   decide
  .show(0:Int)<2305843009213693907
   decide
  exists _,rfl,a,_,1,1,rfl,rfl,H1,rfl;exists _,rfl,a,_,_,_,rfl,rfl,SqL.of aE,rfl,_,_,rfl,rfl,⟨by decide,by decide⟩,_,rfl,_,_,rfl,rfl,e;rw[vY];exact q _ d _ (t+1) (wP _<|by lia) (vV _ e) ⟨ok.d0,wP _ (by decide),Int.lt_trans (vV _<|by decide) (by decide),by have:=ok.t0;lia⟩ (by lia)
def FrS(S:List Addr)(H H':Hp):Prop:=∀b o,b∉S->H b=some o->H' b=some o
def FrS.refl:FrS S H H:=λ_ _ _ h=>h
def FrS.trans(a:FrS S H H1)(b:FrS S H1 H2):FrS S H H2:=λc o n h=>b c o n<|a c o n h
def FrS.mono(a:FrS S H H1)(h:∀b∈S,b∈T):FrS T H H1:=λc o n q=>a c o (λz=>n<|h c z) q
def FrS.chg(h:a∈S):FrS S H (aA H a o):=λb u n q=>by
 rw[aI λz=>n<|by rw[z];exact h];exact q
def FrS.new(h:H a=none):FrS S H (aA H a o):=λb u n q=>by
 rw[aI<|aX q h];exact q
def FrS.seq(e:FrS S H H')(n:a∉S)(h:SqL K H a xs):SqL K H' a xs:=by
 rcases h with (h | ⟨o,h⟩) | h
 .exact .inl<|.inl<|e _ _ n h
 .exact .inl<|.inr ⟨o,e _ _ n h⟩
 .exact .inr h
def Hand.at(h:oV d m t):Hand (aA H a<|hl d m t r) a d m t r:=⟨aE,h⟩
def Hand.new(h:Hand H a d m t r)(n:H b=none):Hand (aA H b o) a d m t r:=⟨by rw[aI<|aX h.1 n];exact h.1,h.2⟩
inductive DT(K:Fg)(vs:List V)(H:Hp)(Q:VK):Prop
 | mk(a p:Addr)(d m t r:Int)(xs:List V)(h1:vs=[.ref a,.ref p])(h2:Hand H a d m t r)(h3:t<1000000)(h4:p≠a)(h5:SqL K H p xs)(h6:xs≠[])(h7:↑xs<1000)(h8:∀(x:V)(d' m' t':Int),x∈xs->oV d' m' t'->t'<=t+1->Q x (aA H a<|hl d' m' t' r)):DT K vs H Q
def cZ(K:Fg):Sp:=λvs H Q _=>DT K vs H Q
section
variable{P:Program}{w:World}{K:Fg}{mg:Str->Option Value}{base:Heap}{f g:Addr}{fd gd:FuncData}
def LL:cU qC qC (cG eJ):=dF
structure aV(P:Program)(w:World)(K:Fg)(mg:Str->Option Value)(base:Heap)(k:Nat)(x:Str)(ps:List Str)(sp:Sp):Prop where
 ex:∃g gd,bB P w K mg base cH k g gd ps sp/\Binds K gd ps []/\PySem.W.keepIn K (.ref g)=true/\mg x=some (.ref g)
def aW(C:aV X.prog X.w X.K X.mg X.base k x ps sp)(i:Room k X.A)(d:Gl X x)(ha:PA X (e::es) t)(a:(x == ("__debug__":Str))=false:=by decide)(f:starEach (e::es) X.env=(false,eval e X.env)::starEach es X.env:=by rfl)(a1:(backTo pos<|starEach es X.env).any (·.1)=false:=by rfl):
  PE X (.Call (.Name x p) (e::es) [] pos) (fZ sp [] E0 t):=by
 obtain⟨g,gd,G,b,h,m⟩:=C.ex;exact Cd G i d m h b .nil AO ha a f a1
def UR(d:0<=i)(h1:i<(↑xs:Int)):∃v,fK xs i=some v/\v∈xs:=by
 have a:i.toNat<↑xs:=by lia
 have b:i=((i.toNat:Nat):Int):=by lia
 refine⟨xs[i.toNat],?_,fT a⟩;have:=uI (xs:=xs) (j:=i.toNat)<|bH a;rw[<-b]at this;exact this
def yI(F:Fun K "_law_of" "_law_of" eJ f fd)(T:aV P w K mg base k "_law_take" qB gB)(o:mg "len"=none):
  bB P w K mg base cH (k+1) f fd qC (cZ K):=by
 refine F.ok LL (λB H Q E h=>?_) λN A outer s H B Q E G h=>?_
 .obtain⟨a,p,d,m,t,r,xs,rfl,_⟩:=h;rfl
 obtain⟨a,p,d,m,t,r,xs,rfl,n,C,u,b,l,a1,q⟩:=h;exists _,bE<|bU<|eI (pv 1)<|aW T G rfl<|aC (pv 0)<|aC (eU nJ rfl o jA<|aC (pv 1) aF) aF;have M:0<↑xs:=uh7.mpr l;refine⟨_,rfl,_,rfl,_,rfl,p,_,rfl,.inl b,a,d,m,t,r,_,rfl,n,C,by lia,by lia,λx d' e t' z h1 j i=>?_⟩;obtain⟨v,L,I⟩:=UR z h1;have J:FrS [a] H (aA H a<|hl d' e t' r):=FrS.chg (by simp);exact⟨p,_,_,v,rfl,rfl,J.seq (by simpa using u) b,L,q v d' e t' I j i⟩
end
abbrev nH:Stmt:=top 27
abbrev lets:Str:="abcdefghijklmnopqrstuvwxyz"
def gX(pre suf:Str)(c:Nat):Str:=pre++⟨#[c]⟩++suf
def sR(pre suf:Str)(c:Nat):Str:=gX pre suf c++(if gX pre suf c=("own":Str) then("q":Str) else Str.empty)
def EC(x y:Str):(x++y).cps=x.cps++y.cps:=rfl
def QE(h:gX pre suf c=gX pre suf c'):c=c':=by
 have e:(pre.cps++#[c])++suf.cps=(pre.cps++#[c'])++suf.cps:=cR Str.cps h;have a:=cR Array.toList e;simp at a;exact a
def Bq:(gX pre suf c).cps.size=(gX pre suf c').cps.size:=by
 unfold gX;simp[EC]
def At(h:sR pre suf c=sR pre suf c'):c=c':=by
 have d:=cR (λz:Str=>z.cps.size) h;have hl:=Bq (pre:=pre) (suf:=suf) (c:=c) (c':=c');have i:("q":Str).cps.size=1:=by decide
 have j:Str.empty.cps.size=0:=by decide
 unfold sR at h d
 by_cases h1:gX pre suf c=("own":Str)
 .by_cases h2:gX pre suf c'=("own":Str)
  .exact QE<|h1.trans h2.symm
  .rw[aR h1,aK h2]at d;simp only[EC,vR,i,j]at d;lia
 .by_cases h2:gX pre suf c'=("own":Str)
  .rw[aK h1,aR h2]at d;simp only[EC,vR,i,j]at d;lia
  .rw[aK h1,aK h2]at h;have e:=cR (λz:Str=>z.cps.toList) h;simp only[EC,jO]at e;have f:(gX pre suf c).cps.toList=(gX pre suf c').cps.toList:=List.append_cancel_right e;refine QE (pre:=pre) (suf:=suf) ?_;cases hx:gX pre suf c with
   | mk a=>cases hy:gX pre suf c' with
    | mk b=>
     rw[hx,hy]at f;have:a=b:=Array.toList_inj.mp f;rw[this]
def fV(first stride:Int)(k:Nat):Nat:=(97+(first+stride*(k:Int)) % 26).toNat
def nC(pre suf:Str)(first stride:Int)(n:Nat):List Str:=(List.range n).map λk=>sR pre suf<|fV first stride k
def ZT(a:stride∈([1,3,5,7,9,11]:List Int))(e:0<=first)(d:j<=12)(b:k<=12)(h:fV first stride j=fV first stride k):j=k:=by
 unfold fV at h;simp only[vh3,aT,dJ]at a;rcases a with rfl | rfl | rfl | rfl | rfl | rfl <;> lia
def Eb(f:stride∈([1,3,5,7,9,11]:List Int))(h:0<=first)(l:n<=12):(nC pre suf first stride n).Nodup:=by
 unfold nC;refine List.Pairwise.map _ (R:=λj k=>j≠k/\j<n/\k<n) (λj k ⟨h1,h2,m⟩ e=>h1 ?_) ?_
 .exact ZT f h (by lia) (by lia)<|At e
 .have:(List.range n).Pairwise (λj k=>j<k):=List.pairwise_lt_range;refine List.Pairwise.imp_of_mem (λ{a b} ha d i=>?_) this;rw[vt7]at ha d;exact⟨by lia,ha,d⟩
def Ee:nC pre suf first stride (n+1)=nC pre suf first stride n++[sR pre suf<|fV first stride n]:=by
 unfold nC;rw[List.range_succ,bP];rfl
def RS(b:0<=i)(h1:i<26):fK lets.cps.toList i=some (97+i).toNat:=by
 have a:∀j:Fin 26,lets.cps.toList[j.val]?=some (97+j.val):=by rfl'
 have e:i=((i.toNat:Nat):Int):=by lia
 have:=uI (xs:=lets.cps.toList) (j:=i.toNat)<|a ⟨i.toNat,by lia⟩;rw[<-e]at this;rw[this]
 congr 1
 simp only;lia
def odd:List Str:=["end","or","main","gives","kind","under","late","deed","call","say","make","take","put"]
def Cu:odd.Nodup:=by rfl'
inductive VU(vs:List V)(H:Hp)(Q:VK):Prop
 | mk(a:Addr)(d m t r:Int)(n:Nat)(h1:vs=[.ref a,.int (n:Int)])(h2:Hand H a d m t r)(h3:t+10<1000000)(h4:n<=12)(h5:∀(p:Addr)(ws:List Str)(d' m' t':Int)(H':Hp),FrS [a] H H'->Hand H' a d' m' t' r->t'<=t+10->H p=none->H' p=some (.lst<|ws.map V.str)->↑ws=n->ws.Nodup->Q (.ref p) H'):VU  vs H Q
def FB:Sp:=λvs H Q _=>VU  vs H Q
def VZ{c:Const}{j}{pos:Pos}{es:List Expr}{env:Env}:starEach (.Constant c j pos::es) env=(false,eval (.Constant c j pos) env)::starEach es env:=by
 first | rfl | (rw[starEach])
def sU{X:Cx}{x:Str}{j}{pos:Pos}{es:List Expr}{t:TA}(h:PA X es t):PA X (.Constant (.str x) j pos::es) (bG (tC<|.str x) t):=aC cD h VZ
def dL{X:Cx}{x:Int}{j}{pos:Pos}{es:List Expr}{t:TA}(h:PA X es t):PA X (.Constant (.int x) j pos::es) (bG (tC<|.int x) t):=aC aQ h VZ
def CO:List Expr->Option (List Str)
 | []=>some []
 | .Constant (.str x) _ _::r=>(CO r).map (x::·)
 | _=>none
theorem RW{X:Cx}:∀(es:List Expr)(ss:List Str),CO es=some ss->PA X es (λ_ H Q=>Q (ss.map V.str) H)
 | [],ss,h=>by
  cases h;exact aF
 | e::r,ss,h=>by
  cases e with
  | Constant c j pos=>
   cases c with
   | str x=>
    have h:(CO r).map (x::·)=some ss:=h;cases hr:CO r with
    | none=>rw[hr]at h;cases h
    | some rs=>
     rw[hr]at h;cases h;exact sU<|RW r rs hr
   | _=>cases h
  | _=>cases h
def SD(e:Expr):Option (List Str):=match e with
 | .List es _=>CO es
 | _=>none
def Hl{X:Cx}{e:Expr}{ss:List Str}(h:SD e=some ss):PE X e (λ_ H Q=>↑ss<=sizeLine/\∀p,H p=none->Q (.ref p) (aA H p<|.lst<|ss.map V.str)):=by
 cases e with
 | List es pos=>
  have q:=cS (pos:=pos)<|RW (X:=X) es ss h;intro b s σ H Q I a;exact q b s σ H Q I ⟨by rw[aG];exact a.1,a.2⟩
 | _=>cases h
def oA(l:List Stmt):Expr:=match l with
 | .Assign _ v _::_=>v
 | _=>.Constant .none 0 ⟨0,0,0,0⟩
def ND(l:List Stmt)(v:Expr):List Stmt:=match l with
 | .Assign t _ p::r=>.Assign t v p::r
 | l=>l
def body{X:Cx}{l a:List Stmt}{t:TS}(e:l=a)(h:PSs X a t):PSs X l t:=by subst e;exact h
def IF(xs:List V){n:Nat}(h:n<=↑xs):dC xs none (some (n:Int))=xs.take n:=by
 unfold dC;rw[HT.OS,HT.HG,yW h];simp
def UU(xs:List V){n:Nat}(h:n<=↑xs):dC xs (some (n:Int)) none=xs.drop n:=by
 unfold dC;rw[HT.OS,HT.HG,yW h];exact dD (by rw[mD];lia)
def oQ{a p:Addr}{H H':Hp}{d m t r:Int}(f:FrS [a] H H')(h:Hand H' a d m t r)(b:H' p=none):H p=none:=by
 cases hz:H p with
 | none=>rfl
 | some o=>
  have i:p≠a:=λe=>by rw[e,h.1]at b;cases b
  have:=f p o (by simpa using i) hz;rw[b]at this;cases this
section
variable{P:Program}{w:World}{K:Fg}{mg:Str->Option Value}{base:Heap}{f g:Addr}{fd gd:FuncData}
abbrev qR:List Str:=["_law_hand_here","_law_many","_law_odd","_law_first","_law_letters","_law_stem","_law_k","_law_at","_law_stride","_law_words_here","_law_word"]
def zj8:cU qR ["_law_hand_here","_law_many"] (cG nH):=⟨rfl,rfl,rfl,by rfl',rfl,by rfl',by rfl'⟩
def Aq{k:Nat}(F:Fun K "_law_words" "_law_words" nH f fd)(T:aV P w K mg base k "_law_take" ["_law_hand_here","_law_many"] gB)(ml:mg "len"=none)(mr:mg "range"=none)(mi:mg "int"=none):
  bB P w K mg base cH (k+1) f fd ["_law_hand_here","_law_many"] FB:=by
 refine F.ok zj8 (λvs H Q E h=>?_) λbm A outer s H vs Q E hr h=>?_
 .obtain⟨a,d,m,t,r,n,rfl,_⟩:=h;rfl
 obtain⟨a,d,m,t,r,n,rfl,hh,ht,hn,q⟩:=h;have G:∀{n:Nat},n<=1000->n<=sizeLine:=λh=>cM<|bN h;have eB:gU nH=ND (gU nH) (oA<|gU nH):=rfl;have hO:SD (oA<|gU nH)=some odd:=by rfl'
 have ax:∀(x:Str)(p:Pos)(n:Nat)(env:Env),swapsWith (oA<|gU nH) (some<|.Name x p) n env=pure false:=λ_ _ _ _=>rfl;rw[eB];generalize oA (gU nH)=L at hO ax;exists _,aP (iW (i:=2) zj8.nd rfl (fH rfl) (Hl hO)<|ax _ _ _ _)
  (aP (dS (cB iL (aW T hr rfl<|aC (pv 0)<|aC aQ aF) aQ<|cO _) (aP (iW (i:=3) zj8.nd rfl (fH rfl)<|aW T hr rfl<|aC (pv 0)<|aC aQ aF)<|bE<|bU<|nY wD (bV vP (nY wD (pv 2) (nN<|pv 3) mY)<|nY wD (pv 2) mY<|nN<|pv 3) mY<|nN<|pv 1) dW) (aP (iW (i:=4) zj8.nd rfl (fH rfl) cD) (aP (iW (i:=5) zj8.nd rfl (fH rfl) cD) (aP (fQ eW rfl (vT rfl mr<|aC (aW T hr rfl<|aC (pv 0)<|aC aQ aF) aF) (sS (i:=6) zj8.nd rfl<|fH rfl)<|bE<|iW (i:=5) zj8.nd rfl (fH rfl)<|bV ED (pv 5)<|lK UA (pv 4) (aW T hr rfl<|aC (pv 0)<|aC aQ aF) λ_ _=>rfl) (aP (iW (i:=7) zj8.nd rfl (fH rfl)<|aW T hr rfl<|aC (pv 0)<|aC (bV jN (eU Cp rfl ml jA<|aC (pv 5) aF) aQ) aF) (aP (iW (i:=3) zj8.nd rfl (fH rfl)<|aW T hr rfl<|aC (pv 0)<|aC aQ aF) (aP (iW (i:=8) zj8.nd rfl (fH rfl)<|eI (cS<|dL<|dL<|dL<|dL<|dL<|dL aF)<|aW T hr rfl<|aC (pv 0)<|aC aQ aF) (aP (iW (i:=9) zj8.nd rfl (fH rfl)<|cS aF) (aP (fQ eW rfl (vT rfl mr<|aC (pv 1) aF) (sS (i:=6) zj8.nd rfl<|fH rfl)<|aP (iW (i:=10) zj8.nd rfl (fH rfl)<|bV ED (bV ED (nY QD (pv 5) mY<|nN<|pv 7)<|lK UA (pv 4) (bV tL (bV jN (pv 3)<|bV rH (pv 8)<|pv 6) aQ) λ_ _=>rfl)<|nY QD (pv 5) (nN<|pv 7) mY)<|bE<|gS<|hH hZ iX iN iK (pv 9)<|aC (bV ED (pv 10)<|bV Bc cD<|dE FZ rfl mi (by rfl')<|aC (pL iL (pv 10) cD<|cO _) aF) aF)
  (bE<|bU<|pv 9))))))))))
 refine⟨G (by show 13<=1000;decide),λB ae=>?_⟩;have bd:Hand (aA H B<|.lst<|odd.map V.str) a d m t r:=hh.new ae;have be:FrS [a] H (aA H B<|.lst<|odd.map V.str):=FrS.new ae;have as:B≠a:=λe=>by rw[e,hh.1]at ae;cases ae
 refine⟨_,rfl,a,d,m,t,r,8,rfl,bd,by lia,by decide,by decide,λx O Y W x0 x1 b5 bs=>?_⟩;have ar:FrS [a] H _:=be.trans (FrS.chg (a:=a) (o:=hl O Y W r)<|by simp);have an:aA (aA H B<|.lst<|odd.map V.str) a (hl O Y W r) B=some (.lst<|odd.map V.str):=by rw[aI as,aE]
 have ay:Hand (aA (aA H B<|.lst<|odd.map V.str) a<|hl O Y W r) a O Y W r:=Hand.at b5;generalize aA (aA H B<|.lst<|odd.map V.str) a (hl O Y W r)=H2 at *;exists rfl,_,rfl;refine bJ (λc=>?_) λc=>?_
 .refine⟨_,rfl,a,O,Y,W,r,13,rfl,ay,by lia,by decide,by decide,λy I J t2 y0 y1 aj b3=>?_⟩;have a9:FrS [a] H _:=ar.trans (FrS.chg (a:=a) (o:=hl I J t2 r)<|by simp);have a3:aA H2 a (hl I J t2 r) B=some (.lst<|odd.map V.str):=by rw[aI as];exact an
  have aa:Hand (aA H2 a<|hl I J t2 r) a I J t2 r:=Hand.at aj;generalize aA H2 a (hl I J t2 r)=H3 at *;obtain⟨j,rfl⟩:∃j:Nat,y=(j:Int):=⟨y.toNat,by lia⟩;have hj:j<=↑(odd.map V.str):=by show j<=13;lia
  refine⟨_,rfl,_,rfl,_,rfl,B,_,rfl,SqL.of a3,λp1 af=>?_⟩;have e1:∀o,aA H3 p1 o B=some (.lst<|odd.map V.str):=λo=>by rw[aI<|aX a3 af];exact a3
  refine⟨_,rfl,_,rfl,_,rfl,B,_,rfl,SqL.of<|e1 _,λp2 a4=>?_⟩;have e2:p1≠p2:=λz=>by rw[<-z,aE]at a4;cases a4
  rw[UU _ hj,IF _ hj]at *;have b7:↑((odd.map V.str).drop j)+↑((odd.map V.str).take j)<=sizeLine:=by
   rw[mD,dI];exact G (by show(odd.map V.str).length-j+min j ↑(odd.map V.str)<=1000;have:↑(odd.map V.str)=13:=rfl;lia)
  refine⟨p1,p2,_,_,rfl,rfl,by rw[aI e2];exact aE,aE,b7,λp3 a8=>?_⟩;refine⟨_,rfl,_,rfl,p3,_,rfl,SqL.of aE,λp4 ac=>?_⟩;have am:(odd.map V.str).drop j++(odd.map V.str).take j=((odd.drop j++odd.take j)).map V.str:=by rw[bP,tN,oF]
  have av:↑(odd.drop j++odd.take j)=13:=by
   rw[bL,mD,dI];have:↑odd=13:=rfl;lia
  have b4:(odd.drop j++odd.take j).Nodup:=by
   have hp:(odd.drop j++odd.take j).Perm odd:=vv2.trans (by rw[uY]);exact hp.nodup_iff.mpr Cu
  rw[am]at ac ⊢;rw[IF _<|by rw[aG,av];lia];have f1:FrS [a] H3 (aA H3 p1<|.lst<|(odd.map V.str).drop j):=FrS.new af;refine q p4 ((odd.drop j++odd.take j).take n) I J t2 _ (a9.trans<|(f1.trans<|FrS.new a4).trans<|(FrS.new a8).trans<|FrS.new ac) (((((aa.new af).new a4).new a8).new ac)) (by lia) ?_ (by rw[aE,oF]) (by rw[dI,av];lia)<|b4.sublist<|List.take_sublist _ _;exact oQ (H':=aA (aA (aA H3 p1 _) p2 _) p3 _) (a9.trans<|(f1.trans<|FrS.new a4).trans<|FrS.new a8) (((aa.new af).new a4).new a8) ac
 .-- the loop that makes the l
  refine⟨_,rfl,a,O,Y,W,r,5,rfl,ay,by lia,by decide,by decide,λy I J t2 y0 y1 aj b3=>?_⟩;have a9:FrS [a] H _:=ar.trans (FrS.chg (a:=a) (o:=hl I J t2 r)<|by simp);have aa:Hand (aA H2 a<|hl I J t2 r) a I J t2 r:=Hand.at aj;generalize aA H2 a (hl I J t2 r)=H3 at *;refine⟨_,rfl,by lia,by lia,HE (lo:=0) (n:=y.toNat) (λi σ C=>∃(l:Str)(N:Option V)(dx mx tx:Int),σ=[some<|.ref a,some<|.int n,some<|.ref B,none,some<|.str lets,some<|.str l,N,none,none,none,none]/\
   ↑l<=i/\FrS [a] H C/\Hand C a dx mx tx r/\tx<=t2+i) ⟨Str.empty,none,I,J,t2,rfl,aO _,a9,aa,by lia⟩ (λi σ C hi ⟨l,N,dx,mx,tx,hσ,ba,al,ah,b9⟩=>?_) (λσ C ⟨l,N,dx,mx,tx,hσ,ba,al,ah,b9⟩=>?_)⟩
  .subst hσ;refine⟨_,rfl,_,rfl,_,rfl,a,dx,mx,tx,r,26,rfl,ah,by lia,by decide,by decide,λz d3 m3 t3 z0 z1 bi bn=>?_⟩;exists lets,z,_,rfl,rfl,G (by decide),RS z0 z1;exists l,_,rfl,rfl,?_
   .show ↑l+1<=sizeLine;exact G (by lia)
   .refine⟨_,_,d3,m3,t3,rfl,?_,al.trans (FrS.chg<|by simp),Hand.at bi,by lia⟩;show(l.cps++#[_]).size<=i+1;rw[vR];show ↑l+1<=i+1;lia
  .subst hσ;have bq:(y.toNat:Int)<=4:=by lia
   refine⟨_,rfl,_,rfl,_,rfl,G (by lia),_,_,rfl,rfl,a,dx,mx,tx,r,_,rfl,ah,by lia,by lia,by lia,λu d4 m4 t4 u0 u1 bh bp=>?_⟩;have bl:FrS [a] H _:=al.trans (FrS.chg (a:=a) (o:=hl d4 m4 t4 r)<|by simp);have b8:Hand (aA C a<|hl d4 m4 t4 r) a d4 m4 t4 r:=Hand.at bh;generalize aA C a (hl d4 m4 t4 r)=H4 at *;refine⟨_,rfl,a,d4,m4,t4,r,26,rfl,b8,by lia,by decide,by decide,λv d5 m5 t5 v0 v1 bb br=>?_⟩;have b2:FrS [a] H _:=bl.trans (FrS.chg (a:=a) (o:=hl d5 m5 t5 r)<|by simp);have aq:Hand (aA H4 a<|hl d5 m5 t5 r) a d5 m5 t5 r:=Hand.at bb;generalize aA H4 a (hl d5 m5 t5 r)=H5 at *;refine⟨G (by show 6<=1000;decide),λps ab=>?_⟩;have bj:=aq.new (o:=.lst [.int 1,.int 3,.int 5,.int 7,.int 9,.int 11]) ab;have ap:ps≠a:=λe=>by rw[e,aq.1]at ab;cases ab
   refine⟨_,rfl,a,d5,m5,t5,r,6,rfl,bj,by lia,by decide,by decide,λz X Z t6 z0 z1 bc bt=>?_⟩;obtain⟨sv,b1,az⟩:=UR (xs:=[V.int 1,.int 3,.int 5,.int 7,.int 9,.int 11]) z0 z1;exists ps,_,_,sv,rfl,rfl,SqL.of (by rw[aI ap,aE]),b1;have aw:FrS [a] H _:=(b2.trans<|FrS.new (o:=.lst [.int 1,.int 3,.int 5,.int 7,.int 9,.int 11]) ab).trans (FrS.chg (a:=a) (o:=hl X Z t6 r)<|by simp);have ag:Hand (aA (aA H5 ps<|.lst [.int 1,.int 3,.int 5,.int 7,.int 9,.int 11]) a<|hl X Z t6 r) a X Z t6 r:=Hand.at bc;obtain⟨a1,rfl,a5⟩:∃st:Int,sv=.int st/\st∈([1,3,5,7,9,11]:List Int):=by
    simp only[vh3,aT,dJ]at az;rcases az with rfl | rfl | rfl | rfl | rfl | rfl
    all_goals exact⟨_,rfl,by simp⟩
   have bf:0<=a1/\a1<=11:=by
    simp only[vh3,aT,dJ]at a5;lia
   refine⟨G (by decide),λM a6=>?_⟩;have a2:=oQ aw ag a6;have bg:FrS [a] H _:=aw.trans<|FrS.new (o:=.lst []) a6;have b0:=ag.new (o:=.lst []) a6;have ao:aA (aA (aA H5 ps<|.lst [.int 1,.int 3,.int 5,.int 7,.int 9,.int 11]) a<|hl X Z t6 r) M (.lst []) M=some (.lst []):=aE;have ak:M≠a:=λe=>by rw[e,ag.1]at a6;cases a6
   generalize aA (aA (aA H5 ps<|.lst [.int 1,.int 3,.int 5,.int 7,.int 9,.int 11]) a<|hl X Z t6 r) M (.lst [])=H8 at *;refine⟨_,rfl,n,rfl,by lia,by lia,HE (lo:=0) (n:=(n:Int).toNat) (λi σ C=>∃(N wx:Option V),σ=[some<|.ref a,some<|.int n,some<|.ref B,some<|.int v,some<|.str lets,some<|.str l,N,some<|.int u,some<|.int a1,some<|.ref M,wx]/\
    FrS [a] H C/\Hand C a X Z t6 r/\C M=some (.lst<|(nC (Txt.slice l none<|some u) (Txt.slice l (some u) none) v a1 i).map V.str)) ⟨N,none,rfl,bg,b0,ao⟩ (λi σ C hi ⟨N,wx,hσ,ai,ad,a7⟩=>?_) (λσ C ⟨N,wx,hσ,ai,ad,a7⟩=>?_)⟩
   .subst hσ;have bu:i<n:=by lia
    have au:↑l<=sizeLine:=G (by lia);have pl:=Txt.slice_le l none<|some u;have sl:=Txt.slice_le l (some u) none;have b6:0<=(v+a1*(0+(i:Int))) % 26:=wP _ (by decide);have bk:(v+a1*(0+(i:Int))) % 26<26:=vV _ (by decide);exists _,rfl,_,rfl,u,rfl,l,rfl,au,_,rfl,_,rfl,_,rfl,_,rfl,_,_,rfl,rfl,.inl ⟨by lia,by lia⟩,_,_,rfl,rfl,_,_,rfl,rfl,by show(0:Int)<26;decide,lets,_,_,rfl,rfl,G (by decide),RS b6 bk,
     _,_,rfl,rfl,?_,_,rfl,_,rfl,u,rfl,l,rfl,au,_,_,rfl,rfl,?_
    .show(Txt.slice l none<|some u).length+1<=sizeLine;exact G (by lia)
    .have e:↑(Txt.slice l none (some u)++(⟨#[(97+(v+a1*(0+(i:Int))) % 26).toNat]⟩:Str))=↑(Txt.slice l none<|some u)+1:=by
      show(_++#[_]).size=_;rw[vR];rfl
     show(Txt.slice l none (some u)++(⟨#[(97+(v+a1*(0+(i:Int))) % 26).toNat]⟩:Str)).length+↑(Txt.slice l (some u) none)<=sizeLine;rw[e];exact G (by lia)
    have ew:Txt.slice l none (some u)++(⟨#[(97+(v+a1*(0+(i:Int))) % 26).toNat]⟩:Str)++Txt.slice l (some u) none=gX (Txt.slice l none<|some u) (Txt.slice l (some u) none) (fV v a1 i):=by
     unfold gX fV;rw[Int.zero_add]
    have bo:↑(gX (Txt.slice l none<|some u) (Txt.slice l (some u) none)<|fV v a1 i)<=20:=by
     show((_++#[_])++_).size<=20;rw[vR,vR];show(Txt.slice l none<|some u).length+1+↑(Txt.slice l (some u) none)<=20;lia
    rw[ew];generalize hw:gX (Txt.slice l none<|some u) (Txt.slice l (some u) none) (fV v a1 i)=wd at *;refine⟨_,rfl,.inl ⟨rfl,_,SqL.of a7⟩,_,rfl,_,rfl,rfl,.inr ⟨_,rfl,_,_,rfl,rfl,?_,_,_,rfl,rfl,?_,M,_,_,rfl,rfl,a7,?_,?_⟩⟩
    .cases decide (V.str wd=V.str ("own":Str)) <;> simp
    .have h1:∀c:Prop,[Decidable c]->↑(if c then Str.empty else("q":Str))<=1:=λc _=>by
      by_cases h:c
      .rw[aR h];decide
      .rw[aK h];decide
     have h2:=h1<|(if decide (V.str wd=V.str ("own":Str))=true then(1:Int) else 0)=0;exact G (by lia)
    .have:↑((nC (Txt.slice l none<|some u) (Txt.slice l (some u) none) v a1 i).map V.str)=i:=by
      unfold nC;rw[aG,aG,lR]
     rw[this];exact bN (by lia)
    .exists _,_,rfl,?_,?_
     .intro b o hb hx;rw[aI λe=>by rw[e,a2]at hx;cases hx];exact ai b o hb hx
     .exact⟨by rw[aI<|cW ak];exact ad.1,ad.2⟩
     .rw[aE,Ee,bP];have e1:sR (Txt.slice l none<|some u) (Txt.slice l (some u) none) (fV v a1 i)=wd++(if (if decide (V.str wd=V.str ("own":Str))=true then(1:Int) else 0)=0 then Str.empty else("q":Str)):=by
       unfold sR;rw[hw]
       by_cases h:wd=("own":Str)
       .rw[aR h,aR (cI<|by rw[h]),aK<|by decide]
       .have h':¬(V.str wd=V.str ("own":Str)):=λz=>h<|V.str.inj z;rw[aK h,eR h'];rfl
      rw[e1];rfl
   .subst hσ;exists _,rfl;rw[lD]at a7;refine q M _ X Z t6 C ai ad (by lia) a2 a7 (by unfold nC;rw[aG,lR])<|Eb a5 v0 hn
end
inductive TK(K:Fg)(vs:List V)(H:Hp)(Q:VK):Prop
 | mk(p:Addr)(ns:List Int)(k:Nat)(h1:vs=[.ref p,.int (k:Int)])(h2:SqL K H p (ns.map V.int))(h3:↑ns<=63)(h4:k<=63)(h5:∀(a:Addr)(d m:Int),H a=none->oV d m 0->Q (.ref a) (aA H a<|hl d m 0 0)):TK K vs H Q
def MF(K:Fg):Sp:=λvs H Q _=>TK K vs H Q
def wb0:cU ["_law_script","_law_k","_law_cell"] ["_law_script","_law_k"] (cG NG):=dF
def SG(e:0<=c)(a:0<=k)(d:k<=63)(b:Bool):oV (c*(if b then 1 else 0)) (c % 2305843009213693951+7919*k+11) 0:=by
 have h1:0<=c % 2305843009213693951:=wP _ (by decide);have h2:c % 2305843009213693951<2305843009213693951:=vV _ (by decide);refine⟨?_,by lia,by lia,Int.le_refl 0⟩;cases b
 .show 0<=c*0;lia
 .show 0<=c*1;lia
def ZA(F:Fun K "_law_hand" "_law_hand" NG f fd)(r:mg "len"=none)(u:mg "abs"=none)(o:mg "int"=none):bB P w K mg base cH (k+1) f fd ["_law_script","_law_k"] (MF K):=by
 refine F.ok wb0 (λl H Q E h=>?_) λB A outer s H l Q E z h=>?_
 .obtain⟨p,b,k,rfl,_⟩:=h;rfl
 obtain⟨p,b,j,rfl,d,a1,x,q⟩:=h;exists _,aP (sL 2 wb0.nd aQ)
  (aP (dS (cB vL (pv 1) (eU nJ rfl r jA<|aC (pv 0) aF)<|cO _) (bE<|sL 2 wb0.nd<|eU YB rfl u (by rfl')<|aC (eI (pv 0)<|pv 1) aF) dW)
  (bE (bU (cS (aC (bV rH (pv 2)<|dE FZ rfl o (by rfl')<|aC (pL zO (pv 2) (bV qX aQ aQ)<|cO _) aF)
   (aC (bV jN (bV jN (bV tL (pv 2) aQ)<|bV rH aQ<|pv 1) aQ)<|aC aQ<|aC aQ aF))))))
 have e:∀{n:Nat},n<=1000->n<=sizeLine:=λh=>cM<|bN h;have hl:↑(b.map V.int)=↑b:=wN _;exists _,rfl,_,rfl,p,_,rfl,.inl d,_,_,rfl,rfl,_,rfl;refine bJ (λc=>?_) λc=>?_
 .have c':(j:Int)<((↑(b.map V.int):Nat):Int):=cC c;rw[hl]at c';have m:j<↑b:=by lia
  have v:fK (b.map V.int) (j:Int)=some (.int b[j]):=uI (by rw[bD,bH m];rfl);exists _,rfl,_,rfl,p,_,_,_,rfl,rfl,d,v,_,rfl;have i:0<=(if b[j]<0 then -b[j] else b[j]):=by split <;> lia
  refine⟨_,rfl,_,rfl,_,_,rfl,rfl,⟨by decide,by decide,by decide⟩,_,_,rfl,rfl,.inr ⟨_,rfl,_,_,rfl,rfl,.inr ?_,_,rfl,_,_,rfl,rfl,by show(0:Int)<2305843009213693951;decide,_,rfl,_,_,rfl,rfl,.inl (by constructor <;> decide),_,_,rfl,rfl,_,_,rfl,rfl,e (by show 4<=1000;decide),λa ha=>?_⟩⟩
  .cases decide ((if b[j]<0 then -b[j] else b[j])≥10 ^ (18:Int).toNat) <;> (constructor <;> decide)
  .exact q a _ _ ha<|SG i (by lia) (by lia) _
 .refine⟨_,rfl,_,rfl,_,_,rfl,rfl,⟨by decide,by decide,by decide⟩,_,_,rfl,rfl,.inr ⟨_,rfl,_,_,rfl,rfl,.inr ?_,_,rfl,_,_,rfl,rfl,by show(0:Int)<2305843009213693951;decide,_,rfl,_,_,rfl,rfl,.inl (by constructor <;> decide),_,_,rfl,rfl,_,_,rfl,rfl,e (by show 4<=1000;decide),λa ha=>?_⟩⟩
  .cases decide ((0:Int)≥10 ^ (18:Int).toNat) <;> (constructor <;> decide)
  .exact q a _ _ ha<|SG (Int.le_refl 0) (by lia) (by lia) _
abbrev Tr:=List<|Str×Option Str
structure TrOk(tr:Tr):Prop where
 nd:(tr.map (·.1)).Nodup
 up:∀(i:Nat) n e,tr[i]?=some (n,some e)->∃j,j<i/\∃g,tr[j]?=some (e,g)
def TrOk.nil:TrOk []:=⟨kD,λi n e h=>by simp at h⟩
def TrOk.snoc(h:TrOk tr)(u:n∉tr.map (·.1))(s:∀x,e=some x->x∈tr.map (·.1)):TrOk (tr++[(n,e)]):=by
 refine⟨?_,λi q b hi=>?_⟩
 .rw[bP];exact zT h.nd u
 .by_cases a1:i<↑tr
  .rw[nW a1]at hi;obtain⟨j,a,g,l⟩:=h.up i q b hi;exact⟨j,a,g,by rw[nW<|by lia];exact l⟩
  .rw[oG<|by lia]at hi;have f:i-↑tr=0:=by
    cases hz:i-↑tr with
    | zero=>rfl
    | succ k=>rw[hz]at hi;simp at hi
   rw[f]at hi;simp only[FY,AX,Prod.mk.injEq]at hi;obtain⟨_,r⟩:=hi;obtain⟨p,d,m⟩:=vh6.mp<|s b r;obtain⟨j,a,o⟩:=mP d;exact⟨j,by lia,p.2,by rw[nW a,bH a,o,<-m]⟩
def TrOk.one{tr:Tr}(h:TrOk tr){i j:Nat}{n:Str}{a b:Option Str}(hi:tr[i]?=some (n,a))(f:tr[j]?=some (n,b)):i=j:=by
 have d:(tr.map (·.1))[i]?=some n:=by rw[bD,hi];rfl
 have e:(tr.map (·.1))[j]?=some n:=by rw[bD,f];rfl
 obtain⟨h1,d⟩:=vg4.mp d;obtain⟨h2,e⟩:=vg4.mp e;exact(yZ h.nd).mp<|d.trans e.symm
inductive Up(tr:Tr):Str->List Str->Prop
 | root {i:Nat} {n:Str}:tr[i]?=some (n,none)->Up tr n [n]
 | step {i:Nat} {n e:Str} {l:List Str}:tr[i]?=some (n,some e)->Up tr e l->Up tr n (n::l)
def Up.exists(h:TrOk tr):∀(i:Nat) n g,tr[i]?=some (n,g)->∃l,Up tr n l:=by
 intro i
 induction i using Nat.strongRecOn with
 | ind i ih=>
  intro n g hi;cases g with
  | none=>exact⟨_,.root hi⟩
  | some e=>
   obtain⟨j,a,g',b⟩:=h.up i n e hi;obtain⟨l,hl⟩:=ih j a e g' b;exact⟨_,.step hi hl⟩
def Up.inj{tr:Tr}(h:TrOk tr){n:Str}{l d:List Str}(a:Up tr n l)(b:Up tr n d):l=d:=by
 induction a generalizing d with
 | root hi=>
  cases b with
  | root _=>rfl
  | step hj _=>have:=h.one hi hj;subst this;rw[hi]at hj;cases hj
 | step hi _ ih=>
  cases b with
  | root hj=>have:=h.one hi hj;subst this;rw[hi]at hj;cases hj
  | step hj hb=>
   have:=h.one hi hj;subst this;rw[hi]at hj;cases hj;rw[ih hb]
def Up.mem(a:Up tr n l):∀x∈l,x∈tr.map (·.1):=by
 induction a with
 | root hi=>
  intro x b;rw[vh7]at b;subst b;exact vh6.mpr ⟨_,cX hi,rfl⟩
 | step hi _ ih=>
  intro x b;rcases vh3.mp b with rfl | b
  .exact vh6.mpr ⟨_,cX hi,rfl⟩
  .exact ih x b
def Up.len{tr:Tr}(h:TrOk tr):∀(i:Nat) n g l,tr[i]?=some (n,g)->Up tr n l->↑l<=i+1:=by
 intro i
 induction i using Nat.strongRecOn with
 | ind i ih=>
  intro n g l hi hl;cases hl with
  | root _=>show 1<=i+1;lia
  | @step i' _ e l' hj hb=>
   have:=h.one hi hj;subst this;obtain⟨j,a,g',b⟩:=h.up i n e hj;have:=ih j a e g' l' b hb;show ↑l'+1<=i+1;lia
def bF:Option Str->V
 | none=>.non
 | some e=>.str e
abbrev JP:Stmt:=top 1
def KindsAt(H:Hp)(p:Addr)(tr:Tr):Prop:=∃(kt:Addr)(ts:List Addr)(x y:V),H p=some (.tup [.ref kt,x,y])/\H kt=some (.tup<|ts.map V.ref)/\↑ts=↑tr/\
 ∀(j:Nat) t z,ts[j]?=some t->tr[j]?=some z->∃v,H t=some (.tup [.str z.1,bF z.2,v])
def yk8:cU ["program","kind","elder_of","line"] ["program","kind"] (cG JP):=dF
def eT(ha:PE X a ta)(d:PE X b tb)(e:JM b:=by exact λ_ _=>rfl):PE X (.Subscript a b pos) (cJ (dB X.K) ta tb):=lK oT ha d e
def dN(tr:Tr):List (aL×V):=tr.map λz=>((Sum.inr z.1:aL),bF z.2)
def YH(h:n∉tr.map (·.1)):aN (dN tr) (Sum.inr n)=none:=by
 cases e:aN (dN tr) (Sum.inr n)with
 | none=>rfl
 | some v=>
  have:=EG e;unfold dN at this;rw[kO]at this;obtain⟨z,hz,a⟩:=vh6.mp this;exact absurd (vh6.mpr ⟨z,hz,pR a⟩) h
def NL(ok:TrOk tr)(h:tr[i]?=some (n,e)):dN (tr.take<|i+1)=aU (dN<|tr.take i) (Sum.inr n) (bF e):=by
 have m:n∉(tr.take i).map (·.1):=λa=>by
  obtain⟨z,hz,l⟩:=vh6.mp a;obtain⟨j,b,f⟩:=mP hz;rw[dI]at b;have d:tr[j]?=some (n,z.2):=by
   rw[bH (by lia),<-l,<-f,List.getElem_take]
  have:=ok.one h d;lia
 rw[GS _<|YH m];unfold dN;rw[dG,h,bP];rfl
def BY{tr:Tr}(ok:TrOk tr){i:Nat}{n:Str}{e:Option Str}(h:tr[i]?=some (n,e)):aN (dN tr) (Sum.inr n)=some (bF e):=by
 obtain⟨hi,_⟩:=vg4.mp h;have b:∀(tr:Tr)(i:Nat),TrOk tr->tr[i]?=some (n,e)->(dN tr).find? (λd=>decide<|d.1=(Sum.inr n:aL))=some ((Sum.inr n:aL),bF e):=by
  intro tr i ok h;cases q:(dN tr).find? (λd=>decide<|d.1=(Sum.inr n:aL))with
  | none=>
   have:=uk0.mp q ((Sum.inr n:aL),bF e)<|vh6.mpr ⟨(n,e),cX h,rfl⟩;simp at this
  | some r=>
   have h1:=List.find?_some q;have h2:=zF q;obtain⟨z,hz,f⟩:=vh6.mp h2;obtain⟨j,p,o⟩:=mP hz;have m:r.1=(Sum.inr n:aL):=cC h1;rw[<-f]at m;have l:z.1=n:=pR m;have a:tr[j]?=some (n,z.2):=by rw[bH p,o,<-l]
   have:=ok.one h a;subst this;rw[h]at a;have s:z.2=e:=by cases a;rfl
   rw[<-f,l,s]
 unfold aN;rw[b tr i ok h];rfl
def JZ(f:FrS [] H H')(a:H' p=none):H p=none:=by
 cases hz:H p with
 | none=>rfl
 | some o=>have:=f p o (by simp) hz;rw[a]at this;cases this
def Up.at(h:Up tr n l):∃(i:Nat)(g:Option Str),tr[i]?=some (n,g):=by
 cases h with
 | root h=>exact⟨_,_,h⟩
 | step h _=>exact⟨_,_,h⟩
def KL(a:List Str)(x:Str):fK ((a++[x]).map V.str) (-1)=some (.str x):=by
 rw[bP];unfold fK nA;have b:↑(a.map V.str++[x].map V.str)=↑a+1:=by simp
 rw[b,aK (by decide),aR<|by lia];have e:(-1+((↑a+1:Nat):Int)).toNat=↑a:=by lia
 show(a.map V.str++[x].map V.str)[(-1+((↑a+1:Nat):Int)).toNat]?=_;rw[e,oG<|by simp];simp
inductive OG(vs:List V)(H:Hp)(Q:VK):Prop
 | mk(p:Addr)(n:Str)(tr:Tr)(l:List Str)(h1:vs=[.ref p,.str n])(h2:KindsAt H p tr)(h3:TrOk tr)(h4:↑tr<=12)(h5:Up tr n l)(h6:∀(a:Addr)(H':Hp),FrS [] H H'->H a=none->H' a=some (.tup<|l.reverse.map V.str)->Q (.ref a) H'):OG  vs H Q
def FC:Sp:=λvs H Q _=>OG  vs H Q
def YT{k:Nat}(F:Fun K "elders" "elders" JP f fd)(mt:mg "tuple"=none):bB P w K mg base cH (k+1) f fd ["program","kind"] FC:=by
 refine F.ok yk8 (λvs H Q E h=>?_) λak A outer s H vs Q E hr h=>?_
 .obtain⟨p,n,tr,l,rfl,_⟩:=h;rfl
 obtain⟨p,n,tr,l,rfl,⟨M,ts,x,y,X,J,a1,af⟩,ok,ao,I,q⟩:=h;have hu:=gG hr;have ag:↑l<=12:=by
  obtain⟨i,g,hi⟩:=I.at;have:=Up.len ok i n g l hi I;obtain⟨h1,_⟩:=vg4.mp hi;lia
 have T:(["name","elder","deeds"]:List Str).Nodup:=by rfl'
 exists _,aP (ZW (i:=2) (N':=["name","elder","deeds"]) (src:=[none,none,none]) rfl yk8.nd rfl rfl eP (gO<|eT (pv 0) aQ) (g:=eA K 3<|eC (bS 0)<|eC (bS 1)<|eC (bS 2) dZ) (λ_ _ _ _=>fG (n:=3) rfl<|bR (gL 0 T)<|bR (gL 1 T)<|bR (gL 2 T) fE) (λ_ _ _ _=>gR) (λ_ _ _ _=>pv 0) λ_ _ _ _=>pv 1)
  (aP (sL 3 yk8.nd<|cS<|aC (pv 1) aF)<|aP (JA eW (pE<|CM<|cT hu (pv 2) (eI (pv 3)<|uR sG aQ) λ_ _=>rfl)<|bE<|gS<|hH hZ iX iN iK (pv 3)<|aC (cT hu (pv 2) (eI (pv 3)<|uR sG aQ) λ_ _=>rfl) aF)<|bE<|bU<|dE gA rfl mt (by rfl')<|aC (VO (pv 3)<|uR sG aQ) aF)
 ac_rfl
 refine⟨_,rfl,p,_,_,_,rfl,rfl,SqT.of X,rfl,M,rfl,⟨_,SqT.of J⟩,λD C=>?_⟩;have al:p≠D:=aX X C;have ah:M≠D:=aX J C;exists λi m σ r=>m=↑ts-i/\i<=↑ts/\(∃a b c,σ=[a,b,c])/\r=aA H D (.dK<|dN<|tr.take i),⟨_,rfl,bO _,⟨_,_,_,rfl⟩,rfl⟩;rintro i m σ r ⟨rfl,hi,⟨a0,b0,c0,rfl⟩,rfl⟩;have G:∀o,aA H D o M=some (.tup<|ts.map V.ref):=λo=>by rw[aI ah];exact J
 by_cases B:i<↑ts
 .refine .inr ⟨⟨_,_,SqT.of<|G _,by rw[bD,bH B];rfl⟩,λσ' H'=>(∃a b c,σ'=[a,b,c])/\H'=aA H D (.dK<|dN<|tr.take<|i+1),by rintro σ' H' ⟨h1,h2⟩;exact⟨_,by lia,rfl,B,h1,h2⟩,λv H' L=>?_⟩;obtain⟨rfl,L⟩:=L;have hv:=L _<|SqT.of<|G _;rw[bD,bH B]at hv;cases hv;have ad:tr[i]?=some tr[i]:=bH (by lia);obtain⟨O,Y⟩:=af i _ _ (bH B) ad;have ai:∀o,aA H D o ts[i]=some (.tup [.str tr[i].1,bF tr[i].2,O]):=λo=>by rw[aI<|aX Y C];exact Y
  exists ts[i],_,rfl,SqT.of<|ai _,rfl,_,_,rfl,_,_,rfl,_,_,rfl,rfl;exists _,rfl,_,rfl,_,Sum.inr tr[i].1,rfl,aE,?_,⟨_,_,_,rfl⟩
  .unfold dN;rw[aG,dI];exact bN (by lia)
  .rw[vY,NL ok ad];rfl
 .refine .inl ⟨⟨_,SqT.of<|G _,by rw[aG];lia⟩,?_⟩;have e:i=↑tr:=by lia
  rw[e,dD<|aO _];refine⟨_,rfl,by show 1<=sizeLine;decide,λd u=>?_⟩;have aa:D≠d:=λz=>by rw[<-z,aE]at u;cases u
  have am:H d=none:=by rw[aI<|cW aa]at u;exact u
  refine MX (λσ r=>∃(j rs:List Str)(x:Str),σ=[some<|.ref p,some<|.str n,some<|.ref D,some<|.ref d]/\r=aA (aA H D<|.dK<|dN tr) d (.lst<|(j++[x]).map V.str)/\Up tr x rs/\j++rs=l/\↑j<=12)
   (λσ r=>match r d with | some (.lst xs)=>100-↑xs | _=>0) ⟨[],l,n,rfl,rfl,I,rfl,by decide⟩ ?_ ?_
  .rintro σ r ⟨j,rs,x,rfl,rfl,hx,hl,hd⟩;have N:∀o,aA (aA H D<|.dK<|dN tr) d o D=some (.dK<|dN tr):=λo=>by rw[aI aa];exact aE
   have an:∀o,aA (aA H D<|.dK<|dN tr) d o d=some o:=λo=>aE;have a1:∀y:Str,↑((j++[y]).map V.str)=↑j+1:=λy=>by simp
   cases hx with
   | @root i _ hi=>
    exists _,rfl,_,rfl,_,rfl,d,_,_,_,rfl,rfl,SqL.of aE,KL j x,D,V.non,rfl,?_,_,rfl
    .have:=DGet.k (k:=(Sum.inr x:aL))<|N<|.lst<|(j++[x]).map V.str;rw[BY ok hi]at this;exact this
    .show if (!decide (V.non=V.non))=true then _ else _
     rw[aK<|by simp];refine⟨_,rfl,_,rfl,rfl,d,_,rfl,SqL.of aE,λp2 a8=>?_⟩;have W:FrS [] H (aA (aA H D<|.dK<|dN tr) d<|.lst<|(j++[x]).map V.str):=(FrS.new C).trans<|FrS.new u;refine⟨p2,_,rfl,.inl ⟨SqL.of aE,λp3 Z=>?_⟩⟩;refine q p3 _ ((W.trans<|FrS.new a8).trans<|FrS.new Z) ?_ ?_
     .exact JZ (W.trans<|FrS.new a8) Z
     .rw[aE,<-hl,List.map_reverse]
   | @step i _ e l' hi hb=>
    exists _,rfl,_,rfl,_,rfl,d,_,_,_,rfl,rfl,SqL.of aE,KL j x,D,V.str e,rfl,?_,_,rfl
    .have:=DGet.k (k:=(Sum.inr x:aL))<|N<|.lst<|(j++[x]).map V.str;rw[BY ok hi]at this;exact this
    .show if (!decide (V.str e=V.non))=true then _ else _
     rw[aR<|by simp];exists _,rfl,.inl ⟨rfl,_,SqL.of aE⟩,_,rfl,_,rfl,_,rfl,d,_,_,_,rfl,rfl,SqL.of aE,KL j x,D,V.str e,rfl,?_,d,_,_,rfl,rfl,aE,?_,⟨j++[x],l',e,rfl,?_,hb,by rw[<-hl];simp,?_⟩
     .have:=DGet.k (k:=(Sum.inr x:aL))<|N<|.lst<|(j++[x]).map V.str;rw[BY ok hi]at this;exact this
     .rw[a1];exact bN (by lia)
     .rw[vY,bP (l₁:=j++[x])];rfl
     .have:=cR List.length hl;rw[bL,cY]at this;rw[bL,dY];lia
     .show(match aA _ d _ d with | some (HO.lst xs)=>100-↑xs | _=>0)<(match aA _ d _ d with | some (HO.lst xs)=>100-↑xs | _=>0);rw[aE,aE];show 100-↑(((j++[x]).map V.str)++[V.str e])<100-↑((j++[x]).map V.str);rw[bL,a1,dY];lia
  .intro σ r R R' hR hc;obtain⟨v1,h1,v2,h2,O,h3,p',xs,i',v',h4,h5,h6,h7,a',v8,h8,h9,c,aj,ae⟩:=hc;exact⟨v1,h1,v2,h2,O,h3,p',xs,i',v',h4,h5,h6,h7,a',v8,h8,h9,c,aj,hR _ _ ae⟩
abbrev KU:Stmt:=top 2
def kJ(n:Str)(l:List Str):hX (.str n) (l.map V.str)=decide (n∈l):=by
 unfold hX
 induction l with
 | nil=>rfl
 | cons x r ih=>
  rw[eM,wC,ih];have e:lJ (.str x) (.str n)=decide (x=n):=by
   first | rfl | simp[lJ] | (unfold lJ;by_cases h:x=n <;> simp[h])
  rw[e]
  by_cases h:x=n
  .subst h;simp
  .have h':¬n=x:=λz=>h z.symm;simp[h,h']
def jB(l:List Str):(l.map V.str).all lI=true:=by
 rw[List.all_map,vm1];intro x _;rfl
inductive QC(vs:List V)(H:Hp)(Q:VK):Prop
 | mk(p:Addr)(n o:Str)(tr:Tr)(l:List Str)(h1:vs=[.ref p,.str n,.str o])(h2:KindsAt H p tr)(h3:TrOk tr)(h4:↑tr<=12)(h5:Up tr n l)(h6:∀(H':Hp),FrS [] H H'->Q (.bl<|decide<|o∈l) H'):QC  vs H Q
def EX:Sp:=λvs H Q _=>QC  vs H Q
def XQ:cU ["program","one","other"] ["program","one","other"] (cG KU):=dF
def Db(F:Fun K "is_below" "is_below" KU f fd)(T:aV P w K mg base k "elders" ["program","kind"] FC):bB P w K mg base cH (k+1) f fd ["program","one","other"] EX:=by
 refine F.ok XQ (λb H Q E h=>?_) λu A outer s H b Q E r h=>?_
 .obtain⟨p,n,o,tr,l,rfl,_⟩:=h;rfl
 obtain⟨p,n,o,tr,l,rfl,d,ok,i,m,q⟩:=h;exists _,bE<|bU<|pL mJ (pv 2) (aW T r rfl<|aC (pv 0)<|aC (pv 1) aF) rfl;refine⟨_,rfl,_,rfl,_,rfl,p,n,tr,l,rfl,d,ok,i,m,λa H' j ha a1=>?_⟩;exists a,_,rfl,.inr<|SqT.of a1,rfl,jB _;have e:hX (.str o) (l.reverse.map V.str)=decide (o∈l):=by
  rw[kJ]
  by_cases h:o∈l
  .rw[cI h,cI<|List.mem_reverse.mpr h]
  .rw[eR h,eR λz=>h<|List.mem_reverse.mp z]
 show Q (.bl<|if false=true then _ else _) H';rw[aK (by decide),e];exact q H' j
def FrS.put(f:FrS S H H')(h:H a=none):FrS S H (aA H' a o):=λb u n q=>by
 rw[aI<|aX q h];exact f b u n q
def FrS.put'(f:FrS S H H')(h:a∈S):FrS S H (aA H' a o):=f.trans<|FrS.chg h
def FrS.old(f:FrS S H H')(h:∀b∈S,∃o,H' b=some o)(a:H' p=none):H p=none:=by
 cases hz:H p with
 | none=>rfl
 | some o=>
  by_cases e:p∈S
  .obtain⟨u,d⟩:=h p e;rw[a]at d;cases d
  .have:=f p o e hz;rw[a]at this;cases this
def mI(d:Nat->St->Hp->Prop)(n:d 0 σ0 H0)(hl:∀i σ H,i<=↑xs->d i σ H->SqL K H a xs)(l:∀i x σ H,xs[i]?=some x->d i σ H->g x σ H λσ2 H2=>tt σ2 H2 λb H3=>if b=true then te σ2 H3 λv f=>∃ys,f D=some (.lst ys)/\↑ys<sizeLine/\d (i+1) σ2 (aA f D<|.lst<|ys++[v]) else d (i+1) σ2 H3)(hd:∀σ H,d ↑xs σ H->Q H):mG (mW K a) g tt te D σ0 H0 Q:=by
 exists λi m σ H=>m=↑xs-i/\i<=↑xs/\d i σ H,⟨↑xs,by simp,bO _,n⟩;rintro i m σ H ⟨rfl,hi,p⟩;have q:=hl i σ H hi p
 by_cases h:i<↑xs
 .refine .inr ⟨⟨xs,xs[i],q,by simp[h]⟩,d<|i+1,λσ' H' j=>⟨↑xs-(i+1),by lia,rfl,h,j⟩,λx H' y=>?_⟩;obtain⟨e,y⟩:=y;subst e;exact l i x σ _ (y xs q) p
 .have e:i=↑xs:=by lia
  subst e;exact .inl ⟨⟨xs,q,aO _⟩,hd σ H p⟩
def EY(a:Nat->St->Hp->Prop)(l:a 0 σ0 H0)(hl:∀i σ H,i<=↑xs->a i σ H->ok H)(j:∀i x σ H,xs[i]?=some x->a i σ H->g x σ H λσ2 H2=>tt σ2 H2 λb H3=>if b=true then te σ2 H3 λv d=>∃ys,d D=some (.lst ys)/\↑ys<sizeLine/\a (i+1) σ2 (aA d D<|.lst<|ys++[v]) else a (i+1) σ2 H3)(hd:∀σ H,a ↑xs σ H->Q H):mG (pP ok xs) g tt te D σ0 H0 Q:=by
 exists λi m σ H=>m=↑xs-i/\i<=↑xs/\a i σ H,⟨↑xs,by simp,bO _,l⟩;rintro i m σ H ⟨rfl,hi,p⟩;have q:=hl i σ H hi p
 by_cases f:i<↑xs
 .refine .inr ⟨⟨q,f⟩,a<|i+1,λσ' H' h=>⟨↑xs-(i+1),by lia,rfl,f,h⟩,λx H' y=>?_⟩;obtain⟨e,y⟩:=y;subst e;exact j i x σ _ y p
 .have e:i=↑xs:=by lia
  subst e;exact .inl ⟨⟨q,aO _⟩,hd σ H p⟩
def TZ(a:Nat->St->Hp->Prop)(l:a 0 σ0 H0)(j:∀i σ H,i<n->a i σ H->g (.int<|lo+i) σ H λσ2 H2=>tt σ2 H2 λb H3=>if b=true then te σ2 H3 λv f=>∃ys,f D=some (.lst ys)/\↑ys<sizeLine/\a (i+1) σ2 (aA f D<|.lst<|ys++[v]) else a (i+1) σ2 H3)(hd:∀σ H,a n σ H->Q H):mG (uA lo n) g tt te D σ0 H0 Q:=by
 exists λi m σ H=>m=n-i/\i<=n/\a i σ H,⟨n,by simp,bO _,l⟩;rintro i m σ H ⟨rfl,hi,p⟩
 by_cases d:i<n
 .refine .inr ⟨d,a<|i+1,λσ' H' h=>⟨n-(i+1),by lia,rfl,d,h⟩,λx H' y=>?_⟩;obtain⟨e,y⟩:=y;subst e y;exact j i σ _ d p
 .have e:i=n:=by lia
  subst e;exact .inl ⟨aO _,hd σ H p⟩
def AF{ok:Hp->Prop}{xs:List V}{g:TG}{tb:TS}{D:dU}{σ:St}{H:Hp}(a:Nat->St->Hp->Prop)(h:a 0 σ H)(hl:∀i σ H,i<=↑xs->a i σ H->ok H)
  (f:∀i x σ H,xs[i]?=some x->a i σ H->g x σ H λσ2 H2=>tb {D with nx:=a<|i+1,ct:=a<|i+1,bk:=D.nx} σ2 H2) (hd:∀σ H,a ↑xs σ H->D.nx σ H):
  ∃W:Nat->Nat->St->Hp->Prop,(∃m,W 0 m σ H)/\∀i m σ H,W i m σ H->
   ((pP ok xs).stop i H/\D.nx σ H)\/((pP ok xs).go i H/\∃N:St->Hp->Prop,(∀σ' H',N σ' H'->∃m',m'<m/\W (i+1) m' σ' H')/\∀x H',(pP ok xs).yld i H x H'->g x σ H' λσ2 H2=>tb {D with nx:=N,ct:=N,bk:=D.nx} σ2 H2):=by
 exists λi m σ H=>m=↑xs-i/\i<=↑xs/\a i σ H,⟨↑xs,by simp,bO _,h⟩;rintro i m σ H ⟨rfl,hi,p⟩;have q:=hl i σ H hi p
 by_cases b:i<↑xs
 .refine .inr ⟨⟨q,b⟩,a<|i+1,λσ' H' d=>⟨↑xs-(i+1),by lia,rfl,b,d⟩,λx H' y=>?_⟩;obtain⟨e,y⟩:=y;subst e;exact f i x σ _ y p
 .have e:i=↑xs:=by lia
  subst e;exact .inl ⟨⟨q,aO _⟩,hd σ H p⟩
theorem GW{α:Type}[DecidableEq α]:∀(l U:List α),l.Nodup->(∀x∈l,x∈U)->↑l<=U.length
 | [],U,_,_=>bO _
 | x::l,U,h,hs=>by
  have a:x∈U:=hs x<|rV ..;have d:=vq2.mp h;have f:=GW l (U.erase x) d.2 λy b=>(List.mem_erase_of_ne λe=>d.1<|by rw[<-e];exact b).mpr<|hs y<|iH _ b
  rw[List.length_erase_of_mem a]at f;have:=List.length_pos_of_mem a;show ↑l+1<=U.length;lia
def II{κ:Type}[DecidableEq κ](kvs:List (κ×V))(k:κ)(v:V):((aU kvs k v).map (·.1)=kvs.map (·.1)/\k∈kvs.map (·.1))\/((aU kvs k v).map (·.1)=kvs.map (·.1)++[k]/\k∉kvs.map (·.1)):=by
 cases h:aN kvs k with
 | none=>exact .inr ⟨by rw[GS v h,bP];rfl,FU h⟩
 | some u=>
  refine .inl ⟨?_,EG h⟩;unfold aU;rw[pM,h];show(List.map _<|List.map _ kvs)=_;rw[kO];refine rT λx _=>?_;show(if x.1=k then(x.1,v) else x).1=x.1
  split <;> rfl
structure DOk(U N:List Str)(kvs:List (aL×V)):Prop where
 nd:(kvs.map (·.1)).Nodup
 ks:∀k∈kvs.map (·.1),∃x∈U,k=Sum.inr x
 vs:∀k v,aN kvs k=some v->v=.non\/∃n∈N,v=.str n
def DOk.nil:DOk U N []:=⟨kD,(λ_ h=>nomatch h),(λ_ _ h=>nomatch h)⟩
def DOk.put(h:DOk U N kvs)(d:x∈U)(f:v=.non\/∃n∈N,v=.str n):DOk U N (aU kvs (Sum.inr x) v):=by
 refine⟨?_,λk a=>?_,λk u b=>?_⟩
 .rcases II kvs (Sum.inr x) v with ⟨e,_⟩ | ⟨e,hn⟩
  .rw[e];exact h.nd
  .rw[e];exact zT h.nd hn
 .rcases II kvs (Sum.inr x) v with ⟨e,_⟩ | ⟨e,hn⟩
  .rw[e]at a;exact h.ks k a
  .rw[e]at a;rcases vj5.mp a with a | a
   .exact h.ks k a
   .exact⟨x,d,vh7.mp a⟩
 .rw[pQ]at b
  by_cases e:k=Sum.inr x
  .rw[aR e]at b;cases b;exact f
  .rw[aK e]at b;exact h.vs k u b
def DOk.len(h:DOk U N kvs):↑kvs<=U.length:=by
 have:=GW (kvs.map (·.1)) (U.map λx=>(Sum.inr x:aL)) h.nd λk a=>by
  obtain⟨x,b,e⟩:=h.ks k a;exact vh6.mpr ⟨x,b,e.symm⟩
 rwa [aG,aG]at this
def DOk.get(h:DOk U N kvs)(k:aL):(aN kvs k).getD .non=.non\/∃n∈N,(aN kvs k).getD .non=.str n:=by
 cases e:aN kvs k with
 | none=>exact .inl rfl
 | some v=>exact h.vs k v e
structure WA where
 (tree late deeds wants owners vars params fields told held roots:Addr)
structure WD where
 tr:Tr
 (late deeds vars params fields:List Str)
 wants:List (List aL×V)
 (owners roots:List (aL×V))
 own:Str->List Str
def WD.names(D:WD):List Str:=D.tr.map (·.1)
def WD.U(D:WD):List Str:="own"::(D.vars++D.params)
def Stt(M:List Addr)(H:Hp)(a:Addr)(o:HO):Prop:=a∉M/\H a=some o
def Stt.keep(h:Stt M H a o)(f:FrS M H H'):Stt M H' a o:=⟨h.1,f a o h.1 h.2⟩
def Stt.sub(h:Stt M H a o)(d:∀b∈M',b∈M):Stt M' H a o:=⟨λz=>h.1<|d a z,h.2⟩
def TrOk.elder(h:TrOk tr)(a:x∈tr)(e:x.2=some y):y∈tr.map (·.1):=by
 obtain⟨n,g⟩:=x;have e:g=some y:=e;subst e;obtain⟨i,hi⟩:=vm3.mp a;obtain⟨j,_,g,b⟩:=h.up i n y hi;exact vh6.mpr ⟨(y,g),cX b,rfl⟩
def CL(tr:Tr)(late:List Str):Prop:=∀x∈tr,∀e,x.2=some e->e∈late->x.1∈late
structure BS(D:WD):Prop where
 ok:TrOk D.tr
 l1:D.tr≠[]
 l12:D.tr.length<=12
 lateIn:CL D.tr D.late
 lateLen:D.late.length<=12
 soon:∃x∈D.names,x∉D.late
 d1:D.deeds≠[]
 d6:D.deeds.length<=6
 v4:D.vars.length=4
 p4:D.params.length=4
 f3:D.fields.length=3
structure Wld(M:List Addr)(H:Hp)(wd:Addr)(A:WA)(D:WD):Prop where
 k:∃kvs,Stt M H wd (.dK kvs)/\aN kvs (Sum.inr "tree")=some (.ref A.tree)/\aN kvs (Sum.inr "late")=some (.ref A.late)/\aN kvs (Sum.inr "deeds")=some (.ref A.deeds)/\aN kvs (Sum.inr "wants")=some (.ref A.wants)/\
  aN kvs (Sum.inr "owners")=some (.ref A.owners)/\aN kvs (Sum.inr "vars")=some (.ref A.vars)/\aN kvs (Sum.inr "params")=some (.ref A.params)/\aN kvs (Sum.inr "fields")=some (.ref A.fields)/\
  aN kvs (Sum.inr "told")=some (.ref A.told)/\aN kvs (Sum.inr "held")=some (.ref A.held)/\aN kvs (Sum.inr "roots")=some (.ref A.roots)
 tree:∃ts:List Addr,Stt M H A.tree (.lst<|ts.map V.ref)/\↑ts=D.tr.length/\∀(j:Nat) t x,ts[j]?=some t->D.tr[j]?=some x->Stt M H t (.tup [.str x.1,bF x.2])
 late:Stt M H A.late (.lst<|D.late.map V.str)
 deeds:Stt M H A.deeds (.lst<|D.deeds.map V.str)
 vars:Stt M H A.vars (.lst<|D.vars.map V.str)
 params:Stt M H A.params (.lst<|D.params.map V.str)
 fields:Stt M H A.fields (.lst<|D.fields.map V.str)
 wants:Stt M H A.wants (.dT D.wants)
 owners:Stt M H A.owners (.dK D.owners)
 roots:Stt M H A.roots (.dK D.roots)
 wl:∀n∈D.names,∀d∈D.deeds,∃(r:Str)(p:Addr)(ws:List Str),aN D.roots (Sum.inr n)=some (.str r)/\aN D.wants [Sum.inr r,Sum.inr d]=some (.ref p)/\Stt M H p (.lst<|ws.map V.str)/\↑ws<=4/\∀x∈ws,x∈D.names
 ol:∀d∈D.deeds,∃p:Addr,aN D.owners (Sum.inr d)=some (.ref p)/\Stt M H p (.lst<|(D.own d).map V.str)/\(∀x∈D.own d,x∈D.names)/\↑(D.own d)<=13
def Wld.map{A:WA}(h:Wld M H wd A D)(f:∀a o,Stt M H a o->Stt M' H' a o):Wld M' H' wd A D:=by
 obtain⟨⟨kvs,l,B⟩,⟨ts,q,t2,C⟩,h1,h2,E,u,v,m,i,w,z,s⟩:=h;refine⟨⟨kvs,f _ _ l,B⟩,⟨ts,f _ _ q,t2,λj t x a b=>f _ _<|C j t x a b⟩,f _ _ h1,f _ _ h2,f _ _ E,f _ _ u,f _ _ v,f _ _ m,f _ _ i,f _ _ w,λn G d hd=>?_,λd hd=>?_⟩
 .obtain⟨r,p,ws,a,b,c,e⟩:=z n G d hd;exact⟨r,p,ws,a,b,f _ _ c,e⟩
 .obtain⟨p,a,b,c⟩:=s d hd;exact⟨p,a,f _ _ b,c⟩
theorem Wld.keep{A:WA}(h:Wld M H wd A D)(f:FrS M H H'):Wld M H' wd A D:=h.map λ_ _ x=>x.keep f
theorem Wld.g{A:WA}(h:Wld M H wd A D):DGet H wd (.str "tree") (some<|.ref A.tree)/\DGet H wd (.str "late") (some<|.ref A.late)/\DGet H wd (.str "deeds") (some<|.ref A.deeds)/\DGet H wd (.str "wants") (some<|.ref A.wants)/\
  DGet H wd (.str "owners") (some<|.ref A.owners)/\DGet H wd (.str "vars") (some<|.ref A.vars)/\DGet H wd (.str "params") (some<|.ref A.params)/\DGet H wd (.str "fields") (some<|.ref A.fields)/\DGet H wd (.str "told") (some<|.ref A.told)/\DGet H wd (.str "held") (some<|.ref A.held)/\DGet H wd (.str "roots") (some<|.ref A.roots):=by
 obtain⟨kvs,⟨_,e⟩,o,m,d,b,j,n,l,a,i,f,a1⟩:=h.k;have g:∀(x:Str)(v:V),aN kvs (Sum.inr x)=some v->DGet H wd (.str x) (some v):=λx v q=>.inl ⟨kvs,Sum.inr x,.inl e,rfl,q.symm⟩;exact⟨g _ _ o,g _ _ m,g _ _ d,g _ _ b,g _ _ j,g _ _ n,g _ _ l,g _ _ a,g _ _ i,g _ _ f,g _ _ a1⟩
abbrev LJ:Stmt:=top 30
abbrev uN:Stmt:=top 31
def Bi(ok:TrOk tr):dX [] (dN tr)=dN tr:=by
 have a:∀i,i<=↑tr->dX [] ((dN tr).take i)=dN (tr.take i):=by
  intro i
  induction i with
  | zero=>intro _;rfl
  | succ i ih=>
   intro hi;have b:tr[i]?=some tr[i]:=bH (by lia);have d:(dN tr)[i]?=some (Sum.inr tr[i].1,bF tr[i].2):=by unfold dN;rw[bD,b];rfl
   rw[RN d,ih (by lia),NL ok (e:=tr[i].2) (n:=tr[i].1) b]
 have hl:↑(dN tr)=↑tr:=by unfold dN;rw[aG]
 have:=a ↑tr (aO _);rwa [dD (by lia),dD<|aO _]at this
inductive SL(vs:List V)(H:Hp)(Q:VK):Prop
 | mk(wd:Addr)(M:List Addr)(A:WA)(D:WD)(n:Str)(l:List Str)(h1:vs=[.ref wd,.str n])(h2:Wld M H wd A D)(h3:BS D)(h4:Up D.tr n l)(h5:∀(a:Addr)(H':Hp),FrS [] H H'->H a=none->H' a=some (.lst<|l.map V.str)->Q (.ref a) H'):SL  vs H Q
def AI:Sp:=λvs H Q _=>SL  vs H Q
def xc0:cU [qW,"_law_kind","_law_up","_law_line_here"] qG (cG LJ):=dF
def Dq(F:Fun K "_law_line" "_law_line" LJ f fd)(a8:mg "dict"=none):bB P w K mg base cH (k+1) f fd qG AI:=by
 refine F.ok xc0 (λvs H Q E h=>?_) λac A outer s H vs Q E hr h=>?_
 .obtain⟨wd,M,A,D,n,l,rfl,_⟩:=h;rfl
 obtain⟨wd,M,WA,D,n,l,rfl,O,p,B,q⟩:=h;have T:=gG hr;exists _,aP (sL 2 xc0.nd<|dE (IV rfl) rfl a8 (by rfl')<|aC (cT T (pv 0) cD λ_ _=>rfl) aF)
  (aP (sL 3 xc0.nd<|cS aF)<|aP (JA eW (pE<|CM<|pv 1)<|aP (gS<|hH hZ iX iN iK (pv 3)<|aC (pv 1) aF)<|bE<|sL 1 xc0.nd<|cT T (pv 2) (pv 1) λ_ _=>rfl)<|bE<|bU<|pv 3)
 ac_rfl
 obtain⟨ts,t1,t2,t3⟩:=O.tree;have N:↑(dN D.tr)=D.tr.length:=by unfold dN;rw[aG]
 have ad:=p.l12;refine⟨_,rfl,wd,_,rfl,O.g.1,WA.tree,ts,dN D.tr,rfl,SqL.of t1.2,by rw[N];exact t2,by rw[N];exact bN (by lia),λj t r ht a1=>?_,λd a9=>?_⟩
 .unfold dN at a1;rw[bD]at a1;obtain⟨x,u,rfl⟩:=vg8.mp a1;exact SqT.of (t3 j t x ht u).2
 rw[Bi p.ok];refine⟨bO _,λb v=>?_⟩;have W:d≠b:=λz=>by rw[<-z,aE]at v;cases v
 have G:H b=none:=by rw[aI<|cW W]at v;exact v
 refine MX (λσ m=>∃(a:List Str)(r:V),σ=[some<|.ref wd,some r,some<|.ref d,some<|.ref b]/\m=aA (aA H d<|.dK<|dN D.tr) b (.lst<|a.map V.str)/\↑a<=12/\((r=.non/\a=l)\/∃x rs,r=.str x/\Up D.tr x rs/\a++rs=l))
  (λσ m=>match m b with | some (.lst xs)=>100-↑xs | _=>0) ⟨[],.str n,rfl,rfl,by decide,.inr ⟨n,l,rfl,B,rfl⟩⟩ ?_ ?_
 .rintro σ m ⟨a,r,rfl,rfl,hd,C⟩;have L:∀o,aA (aA H d<|.dK<|dN D.tr) b o d=some (.dK<|dN D.tr):=λo=>by rw[aI W];exact aE
  rcases C with ⟨rfl,rfl⟩ | ⟨x,rs,rfl,u,hl⟩
  .exists _,rfl,_,rfl;show if (!decide (V.non=V.non))=true then _ else _
   rw[aK<|by trivial];exact⟨_,rfl,q b _ (((FrS.refl).put a9).put G) G aE⟩
  .exists _,rfl,_,rfl;show if (!decide (V.str x=V.non))=true then _ else _
   rw[aR<|by trivial];have I:↑a+1<=12:=by
    obtain⟨i,g,hi⟩:=B.at;have h1:=Up.len p.ok i n g l hi B;obtain⟨h2,_⟩:=vg4.mp hi;have h3:=cR List.length hl;rw[bL]at h3;have h4:1<=↑rs:=by cases u <;> simp
    lia
   exists _,rfl,.inl ⟨rfl,_,SqL.of aE⟩,_,rfl,b,_,_,rfl,rfl,aE,by rw[aG];exact bN (by lia),_,rfl,_,rfl;rw[vY];have J:(match aA (aA H d<|.dK<|dN D.tr) b (.lst<|a.map V.str++[V.str x]) b with | some (HO.lst xs)=>100-↑xs | _=>0)<(match aA (aA H d<|.dK<|dN D.tr) b (.lst<|a.map V.str) b with | some (HO.lst xs)=>100-↑xs | _=>0):=by
    rw[aE,aE];show 100-↑(a.map V.str++[V.str x])<100-↑(a.map V.str);rw[bL,aG,dY];lia
   have X:a.map V.str++[V.str x]=(a++[x]).map V.str:=by rw[bP];rfl
   cases u with
   | @root i _ hi=>
    refine⟨d,.non,rfl,?_,⟨a++[x],.non,rfl,by rw[X],by rw[bL,dY];exact I,.inl ⟨rfl,hl⟩⟩,J⟩;have:=DGet.k (k:=(Sum.inr x:aL))<|L<|.lst<|a.map V.str++[V.str x];rw[BY p.ok hi]at this;exact this
   | @step i _ e l' hi hb=>
    refine⟨d,.str e,rfl,?_,⟨a++[x],.str e,rfl,by rw[X],by rw[bL,dY];exact I,.inr ⟨e,l',rfl,hb,by rw[<-hl];simp⟩⟩,J⟩;have:=DGet.k (k:=(Sum.inr x:aL))<|L<|.lst<|a.map V.str++[V.str x];rw[BY p.ok hi]at this;exact this
 .intro σ m R R' Z C;obtain⟨Y,h1,c,ab,aa⟩:=C;exact⟨Y,h1,c,ab,Z _ _ aa⟩
def fF(D:WD)(k d:Str):Prop:=k∈D.names/\d∈D.deeds/\∃n l,Up D.tr k l/\n∈l/\n∈D.own d
inductive oX(vs:List V)(H:Hp)(Q:VK):Prop
 | mk(wd:Addr)(M:List Addr)(A:WA)(D:WD)(n d:Str)(h1:vs=[.ref wd,.str n,.str d])(h2:Wld M H wd A D)(h3:BS D)(h4:n∈D.names)(h5:d∈D.deeds)(h6:∀(b:Bool)(H':Hp),FrS [] H H'->(b=true->fF D n d)->Q (.bl b) H'):oX  vs H Q
def JD:Sp:=λvs H Q _=>oX  vs H Q
def yN:cU qE qE (cG uN):=dF
def NJ(a:BS D)(f:n∈D.names):∃l,Up D.tr n l/\↑l<=12/\∀x∈l,x∈D.names:=by
 obtain⟨z,hz,e⟩:=vh6.mp f;obtain⟨i,hi,d⟩:=mP hz;have b:D.tr[i]?=some (n,z.2):=by rw[bH hi,d,<-e]
 obtain⟨l,hl⟩:=Up.exists a.ok i n z.2 b;have:=Up.len a.ok i n z.2 l b hl;have:=a.l12;exact⟨l,hl,by lia,hl.mem⟩
def sH(F:Fun K "_law_has" "_law_has" uN f fd)(T:aV P w K mg base k "_law_line" qG AI)(ma:mg "any"=none):bB P w K mg base cH (k+1) f fd qE JD:=by
 refine F.ok yN (λvs H Q E h=>?_) λad A outer s H vs Q E L h=>?_
 .obtain⟨wd,M,A,D,n,d,rfl,_⟩:=h;rfl
 obtain⟨wd,M,WA,D,n,d,rfl,p,C,B,hd,q⟩:=h;have G:=gG L;have Y:(["_law_one",qW,"_law_deed_here"]:List Str).Nodup:=by rfl'
 exists _,bE (bU (eU (XU rfl) rfl ma (by rfl') (aC (hV (N':=["_law_one",qW,"_law_deed_here"]) (src:=[none,some 0,some 2]) rfl eP
   (gM<|aW T L rfl<|aC (pv 0)<|aC (pv 1) aF)
   (g:=bS 0) (λ_ _ _ _=>gL 0 Y) (λ_ _ _ _=>gR)
   (λ_ _ _ _=>pL (show cN _ _ (iG K false) from mJ) (pv 0) (cT G (cT G (pv 1) cD λ_ _=>rfl) (pv 2) λ_ _=>rfl) rfl)) aF)))
 ac_rfl
 obtain⟨l,hl,a9,ac⟩:=NJ C B;obtain⟨op,O,Z,o3,o4⟩:=p.ol d hd;refine⟨_,rfl,_,rfl,wd,M,WA,D,n,l,rfl,p,C,hl,λN H1 J ab z=>⟨N,rfl,⟨_,SqL.of z⟩,λu r=>?_⟩⟩;refine mI (xs:=l.map V.str) (λi σ a=>(∃x,σ=[x,some<|.ref wd,some<|.str d])/\FrS [] H1 a/\∃bs:List Bool,bs=(l.take i).map (λx=>hX (.str x)<|(D.own d).map V.str)/\a u=some (.lst<|bs.map V.bl)) ⟨⟨_,rfl⟩,(FrS.refl).put r,[],rfl,aE⟩ ?_ ?_ ?_
 .rintro i σ a hi ⟨_,e,_⟩;exact SqL.of<|e _ _ (by trivial) z
 .rintro i x σ a j ⟨⟨x0,rfl⟩,e,bs,m,o⟩;obtain⟨hi,_⟩:=vg4.mp j;rw[aG]at hi;rw[bD,bH hi]at j;cases j;have I:FrS M H a:=(J.trans e).mono (by trivial);have v:=p.keep I;have W:=Z.keep I;exists _,rfl,_,rfl,wd,_,rfl,v.g.2.2.2.2.1,_,rfl,WA.owners,_,rfl,.inl ⟨_,Sum.inr d,.inl v.owners.2,rfl,O.symm⟩,op,_,rfl,.inl<|SqL.of W.2,rfl,jB _,_,o,?_,⟨_,rfl⟩,e.put r,bs++[hX (.str l[i])<|(D.own d).map V.str],?_
  .rw[aG,m,aG,dI];exact bN (by lia)
  .rw[m,dG,bH hi,bP];rfl
  .rw[aE,bP];rfl
 .rintro σ a ⟨_,e,bs,m,o⟩;refine⟨u,bs,rfl,SqL.of o,q _ a (J.trans e) λX=>⟨B,hd,?_⟩⟩;rw[aG,dD<|aO _]at m;subst m;obtain⟨b,aa,a1⟩:=ud0.mp X;obtain⟨x,j,rfl⟩:=vh6.mp aa;exists x,l,hl,j;have a1:hX (.str x) ((D.own d).map V.str)=true:=a1;rw[kJ]at a1;simpa using a1
abbrev Ms(hd en:Addr)(A:WA):List Addr:=[hd,en,A.told,A.held]
structure Sit(H:Hp)(hd en wd:Addr)(A:WA)(D:WD)(t r:Int):Prop where
 hand:∃d m,Hand H hd d m t r
 env:∃kv,H en=some (.dK kv)/\DOk D.U D.names kv
 told:∃kv,H A.told=some (.dK kv)/\DOk D.deeds D.names kv
 held:∃kv,H A.held=some (.dK kv)/\DOk D.fields D.names kv
 w:Wld (Ms hd en A) H wd A D
 nd:(Ms hd en A).Nodup
 ok:BS D
section
variable{H H':Hp}{hd en wd:Addr}{A:WA}{D:WD}{t r:Int}
def Sit.fr0(S:Sit H hd en wd A D t r)(f:FrS [] H H'):Sit H' hd en wd A D t r:=by
 obtain⟨⟨d,m,h1,a1⟩,⟨i,a,l⟩,⟨n,o,e⟩,⟨b,h,j⟩,w,nd,ok⟩:=S;exact⟨⟨d,m,f _ _ (by trivial) h1,a1⟩,⟨i,f _ _ (by trivial) a,l⟩,⟨n,f _ _ (by trivial) o,e⟩,⟨b,f _ _ (by trivial) h,j⟩,w.keep (f.mono<|by trivial),nd,ok⟩
def Sit.ne(S:Sit H hd en wd A D t r):hd≠en/\hd≠A.told/\hd≠A.held/\en≠A.told/\en≠A.held/\A.told≠A.held:=by
 have:=S.nd;simp only[Ms,vq2,vh3,aT,dJ,not_or]at this;exact⟨this.1.1,this.1.2.1,this.1.2.2,this.2.1.1,this.2.1.2,this.2.2.1⟩
def Sit.setHand(S:Sit H hd en wd A D t r)(ok:oV d' m' t'):Sit (aA H hd<|hl d' m' t' r') hd en wd A D t' r':=by
 obtain⟨i,a,j,v,s,u⟩:=S.ne;obtain⟨⟨d,m,h1⟩,⟨q,b,n⟩,⟨o,p,f⟩,⟨e,h,l⟩,w,nd,a1⟩:=S;exact⟨⟨d',m',Hand.at ok⟩,⟨q,by rw[aI i.symm];exact b,n⟩,⟨o,by rw[aI a.symm];exact p,f⟩,⟨e,by rw[aI j.symm];exact h,l⟩,w.keep (FrS.chg<|by trivial),nd,a1⟩
def Sit.setEnv(S:Sit H hd en wd A D t r)(h:DOk D.U D.names kv):Sit (aA H en<|.dK kv) hd en wd A D t r:=by
 obtain⟨i,s,x,o,a,v⟩:=S.ne;obtain⟨⟨d,m,h1,a1⟩,⟨z,u,q⟩,⟨n,p,l⟩,⟨b,f,j⟩,w,nd,e⟩:=S;exact⟨⟨d,m,by rw[aI i];exact h1,a1⟩,⟨kv,aE,h⟩,⟨n,by rw[aI o.symm];exact p,l⟩,⟨b,by rw[aI a.symm];exact f,j⟩,w.keep (FrS.chg<|by trivial),nd,e⟩
def Sit.setTold(S:Sit H hd en wd A D t r)(h:DOk D.deeds D.names kv):Sit (aA H A.told<|.dK kv) hd en wd A D t r:=by
 obtain⟨u,a,v,o,s,j⟩:=S.ne;obtain⟨⟨d,m,h1,a1⟩,⟨p,b,n⟩,⟨x,z,q⟩,⟨e,i,l⟩,w,nd,f⟩:=S;exact⟨⟨d,m,by rw[aI a];exact h1,a1⟩,⟨p,by rw[aI o];exact b,n⟩,⟨kv,aE,h⟩,⟨e,by rw[aI j.symm];exact i,l⟩,w.keep (FrS.chg<|by trivial),nd,f⟩
def Sit.setHeld(S:Sit H hd en wd A D t r)(h:DOk D.fields D.names kv):Sit (aA H A.held<|.dK kv) hd en wd A D t r:=by
 obtain⟨x,s,i,z,a,f⟩:=S.ne;obtain⟨⟨d,m,h1,j⟩,⟨p,b,l⟩,⟨n,o,e⟩,⟨u,v,q⟩,w,nd,a1⟩:=S;exact⟨⟨d,m,by rw[aI i];exact h1,j⟩,⟨p,by rw[aI a];exact b,l⟩,⟨n,by rw[aI f];exact o,e⟩,⟨kv,aE,h⟩,w.keep (FrS.chg<|by trivial),nd,a1⟩
def Sit.have_(S:Sit H hd en wd A D t r):∀b∈Ms hd en A,∃o,H b=some o:=by
 obtain⟨⟨d,m,h1,a1⟩,⟨s,e,i⟩,⟨q,h,p⟩,⟨j,f,n⟩,w,nd,l⟩:=S;intro b a;simp only[Ms,vh3,aT,dJ]at a;rcases a with rfl | rfl | rfl | rfl
 .exact⟨_,h1⟩
 .exact⟨_,e⟩
 .exact⟨_,h⟩
 .exact⟨_,f⟩
def Sit.notin(S:Sit H hd en wd A D t r)(b:H p=none):p∉Ms hd en A:=λz=>by
 obtain⟨o,a⟩:=S.have_ p z;rw[b]at a;cases a
def iS{p a:Addr}{ss:List Str}{d m t r:Int}(h:H p=some (.lst<|ss.map V.str))(b:Hand H a d m t r):p≠a:=λe=>by
 subst e;rw[b.1]at h;cases ss with
 | nil=>cases h
 | cons x l=>cases h
def FrS.thaw(d:H a=Option.some u)(f:FrS [] (aA H a<|.frz o u) Hx):FrS [] H (aA Hx a u):=λb v n q=>by
 by_cases e:b=a
 .subst e;rw[aE];rw[d]at q;exact q
 .rw[aI e];exact f b v n (by rw[aI e];exact q)
def DOk.strs(h:DOk U N kvs):∃ss:List Str,kvs.map (λd=>kV d.1)=ss.map V.str/\↑ss=↑kvs/\∀x∈ss,x∈U:=by
 have f:∀l:List (aL×V),(∀k∈l.map (·.1),∃x∈U,k=Sum.inr x)->∃ss:List Str,l.map (λd=>kV d.1)=ss.map V.str/\↑ss=↑l/\∀x∈ss,x∈U:=by
  intro l
  induction l with
  | nil=>intro _;exact⟨[],rfl,rfl,by simp⟩
  | cons a l ih=>
   intro i;obtain⟨ss,e,o,j⟩:=ih λk n=>i k<|iH _ n;obtain⟨x,m,ex⟩:=i a.1 (by trivial);exists x::ss,?_,by simp[o]
   .rw[eM,eM,e,ex];rfl
   .intro y b;rcases vh3.mp b with rfl | b
    .exact m
    .exact j y b
 exact f kvs h.ks
end
abbrev uT:Stmt:=top 32
abbrev tG:Stmt:=top 33
abbrev IQ:Stmt:=top 34
inductive oK(vs:List V)(H:Hp)(Q:VK):Prop
 | mk(hd en wd:Addr)(A:WA)(D:WD)(t r:Int)(h1:vs=[.ref hd,.ref wd,.ref en])(h2:Sit H hd en wd A D t r)(h3:t+2<1000000)(h4:∀(x:Str)(H':Hp)(t':Int),Sit H' hd en wd A D t' r->FrS (Ms hd en A) H H'->t'<=t+2->FrS [hd] H H'->Q (.str x) H'):oK  vs H Q
def qN:Sp:=λvs H Q _=>oK  vs H Q
def scVar:cU [qH,qW,"_law_env","_law_some"] qA (cG uT):=dF
def rO{k:Nat}(F:Fun K "_law_variable" "_law_variable" uT f fd)(T:aV P w K mg base k "_law_take" qB gB)(O:aV P w K mg base k "_law_of" qC (cZ K))(af:mg "list"=none):
  bB P w K mg base cH (k+1) f fd qA qN:=by
 refine F.ok scVar (λvs H Q E h=>?_) λan A outer s H vs Q E Z h=>?_
 .obtain⟨hd,en,wd,A,D,t,r,rfl,_⟩:=h;rfl
 obtain⟨hd,en,wd,WA,D,t,r,rfl,S,ht,q⟩:=h;have hu:=gG Z;have aj:(["_law_x","_law_env"]:List Str).Nodup:=by rfl'
 exists _,aP (PM<|nQ (i:=3) (N':=["_law_x","_law_env"]) (src:=[none,some 2]) rfl scVar.nd rfl rfl eP (EE<|pv 2) (g:=bS 0) (λ_ _ _ _=>gL 0 aj) (λ_ _ _ _=>mE<|pE<|CM<|cT hu (pv 1) (pv 0) λ_ _=>rfl) λ_ _ _ _=>pv 0)
  (aP (dS (PW.pt<|kL (cB (EF<|mN hu) (pv 3) (cS aF)<|cO _)<|lW<|cB mR (aW T Z rfl<|aC (pv 0)<|aC aQ aF) aQ<|cO _) (bE<|bU<|aW O Z rfl<|aC (pv 0)<|aC (pv 3) aF) dW)<|bE<|bU<|aW O Z rfl<|aC (pv 0)<|aC (bV vP (cT hu (pv 1) cD λ_ _=>rfl)<|dE (QI rfl) rfl af (by rfl')<|aC (pv 2) aF) aF)
 ac_rfl
 obtain⟨b,a7,hk⟩:=S.env;have hU:D.U.length=9:=by unfold WD.U;rw[cY,bL,S.ok.v4,S.ok.p4]
 have am:=hk.len;obtain⟨J,eu,al,_⟩:=hk.strs;exists en,b,a7;refine⟨_,rfl,en,b,rfl,a7,λo n L=>?_⟩;have ab:n≠en:=λz=>by rw[z,aE]at L;cases L
 have ao:H n=none:=by rw[aI ab]at L;exact L
 refine EY (xs:=b.map λp=>kV p.1) (λi σ B=>(∃x,σ=[x,some<|.ref en])/\FrS [] (aA H en<|.frz o<|.dK b) B/\∃ss:List Str,↑ss<=i/\B n=some (.lst<|ss.map V.str)) ⟨⟨_,rfl⟩,(FrS.refl).put L,[],by simp,aE⟩ ?_ ?_ ?_
 .rintro i σ B hi ⟨_,u,_⟩;exact u _ _ (by trivial) aE
 .rintro i x σ B j ⟨⟨x0,rfl⟩,u,ss,hs,a5⟩;have ad:=j;rw[eu]at j;obtain⟨hi,_⟩:=vg4.mp j;rw[aG]at hi;rw[bD,bH hi]at j;cases j;have ai:(Sum.inr J[i]:aL)∈b.map (·.1):=by
   rw[bD]at ad;obtain⟨p,C,e⟩:=vg8.mp ad;have:p.1=Sum.inr J[i]:=by
    obtain⟨y,_,ey⟩:=hk.ks p.1<|vh6.mpr ⟨p,cX C,rfl⟩;rw[ey]at e ⊢;cases e;rfl
   exact vh6.mpr ⟨p,cX C,this⟩
  obtain⟨v,hv⟩:∃v,aN b (Sum.inr J[i])=some v:=by
   cases z:aN b (Sum.inr J[i])with
   | some v=>exact⟨v,rfl⟩
   | none=>exact absurd ai<|FU z
  exists _,rfl,_,rfl,en,v,rfl,.inl ⟨b,Sum.inr J[i],.inr ⟨o,u _ _ (by trivial) aE⟩,rfl,hv.symm⟩,_,rfl;refine bJ (λc=>?_) λc=>?_
  .exists _,rfl,_,a5,by rw[aG];exact bN (by lia),⟨_,rfl⟩,u.put L,ss++[J[i]],?_
   .rw[bL,dY];lia
   .rw[aE,bP];rfl
  .exact⟨⟨_,rfl⟩,u,ss,by lia,a5⟩
 .rintro σ B ⟨_,u,ss,hs,a5⟩;rw[aG]at hs;exists o,u _ _ (by trivial) aE;have f1:FrS [] H (aA B en<|.dK b):=FrS.thaw a7 u;have S1:=S.fr0 f1;have a1:aA B en (.dK b) n=some (.lst<|ss.map V.str):=by rw[aI ab];exact a5
  generalize aA B en (.dK b)=H1 at f1 S1 a1;have last:∀(H2:Hp)(t2:Int),Sit H2 hd en wd WA D t2 r->FrS (Ms hd en WA) H H2->FrS [hd] H H2->t2<=t+1->
    iE (fZ (cZ K) [] E<|bG (aJ 0)<|bG (cJ yV (wJ (aJ 1)<|tC<|.str "vars")<|jT (λxs H Q=>∃p kvs,xs=[.ref p]/\Rd H p (.dK kvs)/\∀l,H l=none->Q (.ref l) (aA H l<|.lst<|kvs.map λb=>kV b.1))<|bG (aJ 2) aY) aY) ⟨λ_ H=>Q .non H,Q,λ_ _=>False,λ_ _=>False⟩ [some<|.ref hd,some<|.ref wd,some<|.ref en,some<|.ref n] H2:=by
   intro H2 t2 G X W ap;obtain⟨a8,a6,aa⟩:=G.env;obtain⟨ak,a9,ag,_⟩:=aa.strs;have ah:=aa.len;refine⟨_,rfl,_,rfl,wd,_,rfl,G.w.g.2.2.2.2.2.1,_,rfl,en,a8,rfl,.inl a6,λl hl=>?_⟩;have M:=G.fr0<|FrS.new (S:=[]) (o:=.lst<|a8.map λb=>kV b.1) hl;refine⟨WA.vars,l,_,_,rfl,rfl,M.w.vars.2,aE,?_,λp C=>?_⟩
   .rw[aG,aG,S.ok.v4];exact cM (bN<|by lia)
   .have S4:=M.fr0<|FrS.new (S:=[]) (o:=.lst<|D.vars.map V.str++a8.map λb=>kV b.1) C;rw[a9,<-bP]at S4 ⊢;rw[a9]at C;obtain⟨d,m,I⟩:=S4.hand;refine⟨hd,p,d,m,t2,r,_,rfl,I,by lia,iS (ss:=D.vars++ak) aE I,SqL.of aE,?_,?_,λx d' m' t' j c e=>?_⟩
    .intro z;have:=cR List.length z;rw[aG,bL,S.ok.v4,jX]at this;lia
    .rw[aG,bL,S.ok.v4];lia
    obtain⟨y,hy,rfl⟩:=vh6.mp j;refine q y _ t' (S4.setHand c) ?_ (by lia) ?_
    .exact(X.trans<|(FrS.new hl).trans<|FrS.new C).put' (by trivial)
    .exact(W.trans<|(FrS.new hl).trans<|FrS.new C).put' (by trivial)
  refine⟨_,rfl,bO _,λpe Y=>?_⟩;have G:=S1.fr0<|FrS.new (S:=[]) (o:=.lst []) Y;have N:n≠pe:=aX a1 Y;exists n,pe,_,rfl,rfl,N,SqL.of (by rw[aI N];exact a1),SqL.of aE,_,rfl;have X:FrS (Ms hd en WA) H (aA H1 pe<|.lst []):=(f1.trans<|FrS.new Y).mono (by trivial);have W:FrS [hd] H (aA H1 pe<|.lst []):=(f1.trans<|FrS.new Y).mono (by trivial);cases ss with
  | nil=>exact last _ t G X W (by lia)
  | cons y ys=>
   obtain⟨d,m,I⟩:=G.hand;refine⟨_,rfl,hd,d,m,t,r,4,rfl,I,by lia,by decide,by decide,λx d' m' t3 x0 x1 c e=>⟨_,_,rfl,rfl,_,rfl,?_⟩⟩;have M:=G.setHand (r':=r) c;have f3:=X.put' (a:=hd) (o:=hl d' m' t3 r) (by trivial);have ae:=W.put' (a:=hd) (o:=hl d' m' t3 r) (by trivial);have ac:n≠hd:=iS (ss:=y::ys) (by rw[aI N];exact a1) I;refine bJ (λc=>?_) λc=>?_
   .obtain⟨d,m,I⟩:=M.hand;refine⟨_,rfl,_,rfl,hd,n,d,m,t3,r,_,rfl,I,by lia,ac,SqL.of (by rw[aI ac,aI N];exact a1),by simp,by rw[aG];lia,λx d' m' t' j c e=>?_⟩;obtain⟨y,hy,rfl⟩:=vh6.mp j;exact q y _ t' (M.setHand c) (f3.put'<|by trivial) (by lia) (ae.put'<|by trivial)
   .exact last _ t3 M f3 ae e
def Tup(H H':Hp):Prop:=∀b xs,H b=some (.tup xs)->H' b=some (.tup xs)
def Tup.trans{A B C:Hp}(f:Tup A B)(g:Tup B C):Tup A C:=λb xs h=>g b xs<|f b xs h
def Tup.of0(f:FrS [] H H'):Tup H H':=λb _ h=>f b _ aT h
def Tup.new(a:H p=none):Tup H (aA H p o):=λb xs h=>by
 rw[aI<|aX h a];exact h
theorem Tup.lst(a:H p=some (.lst ys)):Tup H (aA H p o):=λb xs h=>by
 rw[aI λz=>by rw[z,a]at h;cases h];exact h
theorem FrS.tup(f:FrS M H H')(a:∀b∈M,∀xs,H b≠some (.tup xs)):Tup H H':=λb xs h=>f b _ (λz=>a b z xs h) h
def Sit.notup{A:WA}(S:Sit H hd en wd A D t r):∀b∈Ms hd en A,∀xs,H b≠some (.tup xs):=by
 obtain⟨⟨d,m,h1,a1⟩,⟨q,e,i⟩,⟨p,h,o⟩,⟨j,f,n⟩,w,nd,l⟩:=S;intro b a xs;simp only[Ms,vh3,aT,dJ]at a;rcases a with rfl | rfl | rfl | rfl
 .rw[h1];intro z;cases z
 .rw[e];intro z;cases z
 .rw[h];intro z;cases z
 .rw[f];intro z;cases z
theorem Sit.tup{A:WA}(S:Sit H hd en wd A D t r)(f:FrS (Ms hd en A) H H'):Tup H H':=FrS.tup f S.notup
inductive PlainR(H:Hp)(a:Addr):Prop
 | mk(w:Str)(rest:List V)(h:H a=some (.tup<|.str w::rest))(n1:w≠"call")(n2:w≠"either")(n3:w≠"again")(m:w="make"->∃x k:Str,rest=[.str x,.str k]):PlainR H a
inductive CallR(Z:Str->Str->Prop)(H:Hp)(a:Addr):Prop
 | mk(x y k d:Str)(g:Addr)(ss:List Str)(h:H a=some (.tup [.str "call",.str x,.str y,.str k,.str d,.ref g]))(hg:H g=some (.tup<|ss.map V.str))(hl:↑ss<=1000)(hz:Z k d):CallR Z H a
def PlainR.keep(h:PlainR H a)(f:Tup H H'):PlainR H' a:=by
 obtain⟨w,rest,h,b,e,d,m⟩:=h;exact⟨w,rest,f _ _ h,b,e,d,m⟩
def CallR.keep(h:CallR Z H a)(f:Tup H H'):CallR Z H' a:=by
 obtain⟨x,y,k,d,g,ss,h,b,hl,hz⟩:=h;exact⟨x,y,k,d,g,ss,f _ _ h,f _ _ b,hl,hz⟩
def Row1(Z:Str->Str->Prop)(H:Hp)(a:Addr):Prop:=PlainR H a\/CallR Z H a
inductive Fl(Z:Str->Str->Prop)(H:Hp):Nat->List Addr->List Addr->Prop
 | nil {n:Nat}:Fl Z H n [] []
 | one {n:Nat} {a:Addr} {rs fs:List Addr} (h:Row1 Z H a) (t:Fl Z H n rs fs):Fl Z H n (a::rs) (a::fs)
 | again {n:Nat} {a l:Addr} {rs1 fs1 rs fs:List Addr} (h:H a=some (.tup [.str "again",.ref l])) (hl:H l=some (.tup<|rs1.map V.ref)) (s:Fl Z H n rs1 fs1) (t:Fl Z H (n+1) rs fs):Fl Z H (n+1) (a::rs) (a::(fs1++fs))
 | either {n:Nat} {a l1 l2:Addr} {rs1 fs1 rs2 fs2 rs fs:List Addr} (h:H a=some (.tup [.str "either",.ref l1,.ref l2])) (h1:H l1=some (.tup<|rs1.map V.ref)) (h2:H l2=some (.tup<|rs2.map V.ref)) (s1:Fl Z H n rs1 fs1) (s2:Fl Z H n rs2 fs2) (t:Fl Z H (n+1) rs fs):Fl Z H (n+1) (a::rs) (a::(fs1++(fs2++fs)))
theorem Fl.keep(h:Fl Z H n rs fs)(f:Tup H H'):Fl Z H' n rs fs:=by
 induction h with
 | nil=>exact .nil
 | one h _ ih=>exact .one (h.imp (·.keep f) (·.keep f)) ih
 | again h hl _ _ i1 i2=>exact .again (f _ _ h) (f _ _ hl) i1 i2
 | either h h1 h2 _ _ _ i1 i2 i3=>exact .either (f _ _ h) (f _ _ h1) (f _ _ h2) i1 i2 i3
def Fl.app(h:Fl Z H n rs fs)(g:Fl Z H n rs' fs'):Fl Z H n (rs++rs') (fs++fs'):=by
 induction h with
 | nil=>exact g
 | one h _ ih=>exact .one h<|ih g
 | again h hl s _ i1 i2=>
  have:=Fl.again h hl s<|i2 g;rw[<-dR]at this;exact this
 | either h h1 h2 s1 s2 _ i1 i2 i3=>
  have:=Fl.either h h1 h2 s1 s2<|i3 g;simpa [dR]using this
def Fl.len(h:Fl Z H n rs fs):↑rs<=↑fs:=by
 induction h with
 | nil=>exact aO _
 | one h _ ih=>exact Nat.succ_le_succ ih
 | again h hl s _ i1 i2=>rw[cY,cY,bL];lia
 | either h h1 h2 s1 s2 _ i1 i2 i3=>rw[cY,cY,bL,bL];lia
inductive RowIs(Z:Str->Str->Prop)(H:Hp)(a:Addr):Prop
 | mk(w:Str)(rest:List V)(h:H a=some (.tup<|.str w::rest))(c:w="call"->CallR Z H a)(m:w="make"->∃x k:Str,rest=[.str x,.str k]):RowIs Z H a
theorem RowIs.keep(h:RowIs Z H a)(f:Tup H H'):RowIs Z H' a:=by
 obtain⟨w,rest,h,c,m⟩:=h;exact⟨w,rest,f _ _ h,λe=>(c e).keep f,m⟩
def Row1.is(h:Row1 Z H a):RowIs Z H a:=by
 rcases h with ⟨w,rest,h,n1,_,_,m⟩ | ⟨x,y,k,d,g,ss,h,hg,hl,hz⟩
 .exact⟨w,rest,h,λe=>absurd e n1,m⟩
 .exact⟨_,_,h,λ_=>⟨x,y,k,d,g,ss,h,hg,hl,hz⟩,λe=>absurd e<|by rfl'⟩
theorem Fl.is(h:Fl Z H n rs fs):∀a∈fs,RowIs Z H a:=by
 have b:("again":Str)≠"call":=by rfl'
 have ne:("either":Str)≠"call":=by rfl'
 induction h with
 | nil=>intro a h;cases h
 | one h _ ih=>
  intro a ha;cases ha with
  | head=>exact h.is
  | tail _ ha=>exact ih a ha
 | again h hl s _ i1 i2=>
  intro a ha;cases ha with
  | head=>exact⟨_,_,h,λe=>absurd e b,λe=>absurd e<|by rfl'⟩
  | tail _ ha=>exact(vj5.mp ha).elim (i1 a)<|i2 a
 | either h h1 h2 s1 s2 _ i1 i2 i3=>
  intro a ha;cases ha with
  | head=>exact⟨_,_,h,λe=>absurd e ne,λe=>absurd e<|by rfl'⟩
  | tail _ ha=>exact(vj5.mp ha).elim (i1 a) λha=>(vj5.mp ha).elim (i2 a)<|i3 a
inductive Lots(Z:Str->Str->Prop)(H:Hp)(n:Nat):List Addr->List Addr->Prop
 | nil:Lots Z H n [] []
 | snoc {ls fs:List Addr} {l:Addr} {rs f1:List Addr} (h:Lots Z H n ls fs) (hl:H l=some (.tup<|rs.map V.ref)) (s:Fl Z H n rs f1):Lots Z H n (ls++[l]) (fs++f1)
theorem Lots.keep(h:Lots Z H n ls fs)(f:Tup H H'):Lots Z H' n ls fs:=by
 induction h with
 | nil=>exact .nil
 | snoc _ hl s ih=>exact ih.snoc (f _ _ hl)<|s.keep f
def Lots.zero(h:Lots Z H n ls fs)(e:↑ls=0):ls=[]/\fs=[]:=by
 cases h with
 | nil=>exact⟨rfl,rfl⟩
 | snoc h hl s=>rw[bL,dY]at e;lia
def Lots.one(h:Lots Z H n ls fs)(e:↑ls=1):∃l rs,ls=[l]/\H l=some (.tup<|rs.map V.ref)/\Fl Z H n rs fs:=by
 cases h with
 | nil=>cases e
 | snoc h hl s=>
  rw[bL,dY]at e;obtain⟨rfl,rfl⟩:=h.zero (by lia);exact⟨_,_,rfl,hl,s⟩
def Lots.two(h:Lots Z H n ls fs)(e:↑ls=2):∃d f f1 l2 rs2 f2,ls=[d,l2]/\fs=f1++f2/\H d=some (.tup<|f.map V.ref)/\Fl Z H n f f1/\H l2=some (.tup<|rs2.map V.ref)/\Fl Z H n rs2 f2:=by
 cases h with
 | nil=>cases e
 | snoc h hl s=>
  rw[bL,dY]at e;obtain⟨d,f,rfl,a,b⟩:=h.one (by lia);exact⟨d,f,_,_,_,_,rfl,rfl,a,b,hl,s⟩
def Lots.row{w:Str}(h:Lots Z H n ls fs)(ha:H a=some (.tup<|.str w::ls.map V.ref))(e:↑ls=1/\w="again"\/↑ls=2/\w="either"):Fl Z H (n+1) [a] (a::fs):=by
 rcases e with ⟨e,rfl⟩ | ⟨e,rfl⟩
 .obtain⟨l,rs,rfl,b,s⟩:=h.one e;have:=Fl.again (rs:=[]) (fs:=[]) ha b s .nil;rwa [iA]at this
 .obtain⟨i,m,p,j,a1,o,rfl,rfl,b1,f,d,s2⟩:=h.two e;have:=Fl.either (rs:=[]) (fs:=[]) ha b1 d f s2 .nil;rwa [iA]at this
inductive pZ(vs:List V)(H:Hp)(Q:VK):Prop
 | mk(hd en wd:Addr)(A:WA)(D:WD)(t r:Int)(h1:vs=[.ref hd,.ref wd,.ref en])(h2:Sit H hd en wd A D t r)(h3:t+1<1000000)(h4:∀(x:Str)(H':Hp)(t':Int),x∈D.U->Sit H' hd en wd A D t' r->FrS (Ms hd en A) H H'->t'<=t+1->FrS [hd] H H'->Q (.str x) H'):pZ  vs H Q
def rJ:Sp:=λvs H Q _=>pZ  vs H Q
def AV:cU qA qA (cG tG):=dF
def sA(F:Fun K "_law_target" "_law_target" tG f fd)(O:aV P w K mg base k "_law_of" qC (cZ K)):
  bB P w K mg base cH (k+1) f fd qA rJ:=by
 refine F.ok AV (λvs H Q E h=>?_) λac A outer s H vs Q E hr h=>?_
 .obtain⟨hd,en,wd,A,D,t,r,rfl,_⟩:=h;rfl
 obtain⟨hd,en,wd,WA,D,t,r,rfl,S,ht,q⟩:=h;have hu:=gG hr;have a8:(["_law_x",qW]:List Str).Nodup:=by rfl'
 exists _,bE<|bU<|aW O hr rfl<|aC (pv 0)<|aC (bV vP (cT hu (pv 1) cD λ_ _=>rfl)<|NV<|hV (N':=["_law_x",qW]) (src:=[none,some 1]) rfl eP (EE<|pv 2) (g:=bS 0) (λ_ _ _ _=>gL 0 a8) (λ_ _ _ _=>mE<|cB (show cN _ _ (iG K false) from mJ) (pv 0) (cT hu (pv 1) cD λ_ _=>rfl) rfl) λ_ _ _ _=>pv 0) aF
 ac_rfl
 obtain⟨B,J,hk⟩:=S.env;have hU:D.U.length=9:=by unfold WD.U;rw[cY,bL,S.ok.v4,S.ok.p4]
 have ab:=hk.len;obtain⟨us,eu,a9,a5⟩:=hk.strs;exists _,rfl,_,rfl,wd,_,rfl,S.w.g.2.2.2.2.2.1,en,B,J;refine⟨_,rfl,en,B,rfl,J,λo C v=>?_⟩;have T:C≠en:=λz=>by rw[z,aE]at v;cases v
 have ad:H C=none:=by rw[aI T]at v;exact v
 have aa:wd≠en:=λz=>by obtain⟨kvs,⟨hn,_⟩,_⟩:=S.w.k;exact hn (by rw[z];simp)
 refine EY (xs:=B.map λp=>kV p.1) (λi σ j=>(∃x,σ=[x,some<|.ref wd])/\FrS [] (aA H en<|.frz o<|.dK B) j/\∃ss:List Str,↑ss<=i/\(∀x∈ss,x∈D.U)/\j C=some (.lst<|ss.map V.str)) ⟨⟨_,rfl⟩,(FrS.refl).put v,[],by simp,by simp,aE⟩ ?_ ?_ ?_
 .rintro i σ j hi ⟨_,l,_⟩;exact l _ _ (by trivial) aE
 .rintro i x σ j a ⟨⟨x0,rfl⟩,l,ss,X,I,a1⟩;rw[eu]at a;obtain⟨hi,_⟩:=vg4.mp a;rw[aG]at hi;rw[bD,bH hi]at a;cases a;have a6:FrS (Ms hd en WA) H j:=λb u n e=>l b u (by trivial) (by rw[aI λz=>n<|by rw[z];simp];exact e)
  have W:=S.w.keep a6;exists _,rfl,_,rfl,wd,_,rfl,W.g.2.2.2.2.2.2.1,WA.params,_,rfl,.inl<|SqL.of W.params.2,rfl,jB _,_,rfl;refine bJ (λc=>?_) λc=>?_
  .exists _,rfl,_,a1,by rw[aG];exact bN (by lia),⟨_,rfl⟩,l.put v,ss++[us[i]],?_,?_
   .rw[bL,dY];lia
   .intro x a;rcases vj5.mp a with a | a
    .exact I x a
    .rw[vh7.mp a];exact a5 _<|fT hi
   .rw[aE,bP];rfl
  .exact⟨⟨_,rfl⟩,l,ss,by lia,I,a1⟩
 .rintro σ j ⟨_,l,ss,X,I,a1⟩;rw[aG]at X;exists o,l _ _ (by trivial) aE;have N:FrS [] H (aA j en<|.dK B):=FrS.thaw J l;have Z:=S.fr0 N;have a7:aA j en (.dK B) C=some (.lst<|ss.map V.str):=by rw[aI T];exact a1
  refine⟨WA.vars,C,_,_,rfl,rfl,Z.w.vars.2,a7,?_,λp L=>?_⟩
  .rw[aG,aG,S.ok.v4];exact cM (bN<|by lia)
  .have M:=Z.fr0<|FrS.new (S:=[]) (o:=.lst<|D.vars.map V.str++ss.map V.str) L;rw[<-bP]at M ⊢;obtain⟨d,m,Y⟩:=M.hand;refine⟨hd,p,d,m,t,r,_,rfl,Y,by lia,iS (ss:=D.vars++ss) aE Y,SqL.of aE,?_,?_,λx d' m' t' a c e=>?_⟩
   .intro z;have:=cR List.length z;rw[aG,bL,S.ok.v4,jX]at this;lia
   .rw[aG,bL,S.ok.v4];lia
   obtain⟨y,G,rfl⟩:=vh6.mp a;refine q y _ t' ?_ (M.setHand c) ?_ (by lia) ?_
   .rcases vj5.mp G with G | G
    .unfold WD.U;simp[G]
    .exact I y G
   .exact((N.trans<|FrS.new L).mono<|by trivial).put' (by trivial)
   .exact((N.trans<|FrS.new L).mono<|by trivial).put' (by trivial)
def IN{H1:Hp}{tp:Addr}{ts:List Addr}{tr:Tr}{d:Addr}(n:H1 tp=some (.lst<|ts.map V.ref))(hl:↑ts=↑tr)(o:∀(j:Nat) t x,ts[j]?=some t->tr[j]?=some x->H1 t=some (.tup [.str x.1,bF x.2]))(h:H1 d=none)(p:↑tr<=1000)
  {Q:Hp->Prop} (q:∀H',FrS [] H1 H'->H' d=some (.lst<|(tr.map (·.1)).map V.str)->Q H'):mG (mW K tp) (eA K 2<|eC (bS 0)<|eC (bS 1) dZ) kU (aJ 0) d [none,none] (aA H1 d<|.lst []) Q:=by
 refine mI (xs:=ts.map V.ref) (λi σ a=>(∃x y,σ=[x,y])/\FrS [] H1 a/\a d=some (.lst<|((tr.take i).map (·.1)).map V.str)) ⟨⟨_,_,rfl⟩,(FrS.refl).put h,aE⟩ ?_ ?_ ?_
 .rintro i σ a hi ⟨_,b,_⟩;exact SqL.of<|b _ _ (by trivial) n
 .rintro i x σ a m ⟨⟨s,r,rfl⟩,b,f⟩;rw[bD]at m;obtain⟨t,a1,rfl⟩:=vg8.mp m;obtain⟨hi,_⟩:=vg4.mp a1;have l:tr[i]?=some tr[i]:=bH (by lia);have e:=o i t _ a1 l;exists t,_,rfl,SqT.of<|b _ _ (by trivial) e,rfl,_,_,rfl,_,_,rfl,rfl;exists _,rfl,_,f,?_,⟨_,_,rfl⟩,b.put h
  .rw[aG,aG,dI];exact bN (by lia)
  .rw[aE,dG,l,bP,bP];rfl
 .rintro σ a ⟨_,b,f⟩;rw[dD<|by rw[aG];lia]at f;exact q a b f
inductive SX(vs:List V)(H:Hp)(Q:VK):Prop
 | mk(hd en wd:Addr)(A:WA)(D:WD)(t r:Int)(h1:vs=[.ref hd,.ref wd,.ref en])(h2:Sit H hd en wd A D t r)(h3:t+3<1000000)(h4:∀(x:Addr)(H':Hp)(t':Int),PlainR H' x->Sit H' hd en wd A D t' r->FrS (Ms hd en A) H H'->t'<=t+3->Q (.ref x) H'):SX  vs H Q
def FO:Sp:=λvs H Q _=>SX  vs H Q
abbrev yH:List Str:=[qH,qW,"_law_env","_law_names","_law_soon","_law_kind","_law_x"]
def yq6:cU yH qA (cG IQ):=dF
def WY{k:Nat}(F:Fun K "_law_make" "_law_make" IQ f fd)(T:aV P w K mg base k "_law_take" qB gB)(O:aV P w K mg base k "_law_of" qC (cZ K))(G:aV P w K mg base k "_law_target" qA rJ):
  bB P w K mg base cH (k+1) f fd qA FO:=by
 refine F.ok yq6 (λvs H Q E h=>?_) λaz A outer s H vs Q E Y h=>?_
 .obtain⟨hd,en,wd,A,D,t,r,rfl,_⟩:=h;rfl
 obtain⟨hd,en,wd,WA,D,t,r,rfl,S,ht,q⟩:=h;have hu:=gG Y;have al:(["_law_name","_law_elder"]:List Str).Nodup:=by rfl'
 have ao:(["_law_name",qW]:List Str).Nodup:=by rfl'
 exists _,aP (nQ (i:=3) (N':=["_law_name","_law_elder"]) (src:=[none,none]) rfl yq6.nd rfl rfl eP (gM<|cT hu (pv 1) cD λ_ _=>rfl) (g:=eA K 2<|eC (bS 0)<|eC (bS 1) dZ) (λ_ _ _ _=>fG (n:=2) rfl<|bR (gL 0 al)<|bR (gL 1 al) fE) (λ_ _ _ _=>gR) λ_ _ _ _=>pv 0)
  (aP (nQ (i:=4) (N':=["_law_name",qW]) (src:=[none,some 1]) rfl yq6.nd rfl rfl eP (gM<|pv 3) (g:=bS 0) (λ_ _ _ _=>gL 0 ao) (λ_ _ _ _=>mE<|cB (show cN _ _ (iG K true) from GV) (pv 0) (cT hu (pv 1) cD λ_ _=>rfl) rfl) λ_ _ _ _=>pv 0)<|aP (sL 5 yq6.nd<|aW O Y rfl<|aC (pv 0)<|aC (eI (cS<|aC (pv 4)<|aC (pv 4)<|aC (pv 3) aF)<|aW T Y rfl<|aC (pv 0)<|aC aQ aF) aF)<|aP (sL 6 yq6.nd<|aW G Y rfl<|aC (pv 0)<|aC (pv 1)<|aC (pv 2) aF)<|aP (mU hu (pv 2) (pv 6) (pv 5) rfl)<|bE<|bU<|dQ<|aC cD<|aC (pv 6)<|aC (pv 5) aF)
  
 ac_rfl
 have hU:D.U.length=9:=by unfold WD.U;rw[cY,bL,S.ok.v4,S.ok.p4]
 have b2:=S.ok.l12;obtain⟨ts,t1,t2,t3⟩:=S.w.tree;refine⟨_,rfl,wd,_,rfl,S.w.g.1,WA.tree,rfl,⟨_,SqL.of t1.2⟩,λp aw=>?_⟩;refine IN (tr:=D.tr) t1.2 t2 (λj t x a b=>(t3 j t x a b).2) aw (by lia) λH1 f1 N=>?_
 have S1:=S.fr0 f1;refine⟨_,rfl,p,rfl,⟨_,SqL.of N⟩,λl a7=>?_⟩;have b1:p≠l:=aX N a7;refine mI (xs:=(D.tr.map (·.1)).map V.str) (λi σ Z=>(∃x,σ=[x,some<|.ref wd])/\FrS [] H1 Z/\Z l=some (.lst<|(((D.tr.map (·.1)).take i).filter λx=>decide<|x∉D.late).map V.str)) ⟨⟨_,rfl⟩,(FrS.refl).put a7,aE⟩ ?_ ?_ ?_
 .rintro i σ Z hi ⟨_,M,_⟩;exact SqL.of<|M _ _ (by trivial) N
 .rintro i x σ Z u ⟨⟨x0,rfl⟩,M,ah⟩;obtain⟨hi,_⟩:=vg4.mp u;rw[aG]at hi;rw[bD,bH hi]at u;cases u;have X:=S1.fr0 M;have ax:=hi;rw[aG]at ax;have W:↑(((D.tr.map (·.1)).take i).filter λx=>decide<|x∉D.late)<=12:=by
   have:=kG (λx=>decide<|x∉D.late)<|(D.tr.map (·.1)).take i;rw[dI,aG]at this;lia
  exists _,rfl,_,rfl,wd,_,rfl,X.w.g.2.1,WA.late,_,rfl,.inl<|SqL.of X.w.late.2,rfl,jB _,_,rfl;have ef:((D.tr.map (·.1)).take<|i+1).filter (λx=>decide<|x∉D.late)=((D.tr.map (·.1)).take i).filter (λx=>decide<|x∉D.late)++[(D.tr.map (·.1))[i]].filter (λx=>decide<|x∉D.late):=by
   rw[dG,bH hi,CN];rfl
  rw[kJ];refine bJ (λc0=>?_) λc0=>?_
  rotate_left
  .have c:(D.tr.map (·.1))[i]∈D.late:=by simpa using c0
   exists ⟨_,rfl⟩,M;rw[ef,zD (by simpa using c),lV,iA];exact ah
  .have c:(D.tr.map (·.1))[i]∉D.late:=by simpa using c0
   exists _,rfl,_,ah,by rw[aG];exact bN (by lia),⟨_,rfl⟩,M.put a7;rw[aE,ef,xR (by simpa using c),lV,bP];rfl
 rintro σ H2 ⟨_,f2,a1⟩;rw[aG,dD<|aO _]at a1;have X:=S1.fr0 f2;have ab:=f2 _ _ (by trivial) N;obtain⟨x1,ag,aa⟩:=S.ok.soon;have a0:((D.tr.map (·.1)).filter λx=>decide<|x∉D.late)≠[]:=λz=>by
  have:x1∈((D.tr.map (·.1)).filter λx=>decide<|x∉D.late):=vq0.mpr ⟨ag,by simp[aa]⟩;rw[z]at this;cases this
 have a9:D.tr.map (·.1)≠[]:=λz=>by
  have:x1∈D.tr.map (·.1):=ag;rw[z]at this;cases this
 have W:↑((D.tr.map (·.1)).filter λx=>decide<|x∉D.late)<=12:=by
  have:=kG (λx=>decide<|x∉D.late)<|D.tr.map (·.1);rw[aG]at this;lia
 generalize hss:((D.tr.map (·.1)).filter λx=>decide<|x∉D.late)=ss at a1 a0 W;have aj:∀x∈ss,x∈D.names:=λx u=>by rw[<-hss]at u;exact(vq0.mp u).1
 have ae:FrS (Ms hd en WA) H H2:=(f1.trans f2).mono (by trivial);refine⟨_,rfl,_,rfl,_,rfl,_,rfl,dO rfl,λB a5=>?_⟩;have S3:=X.fr0<|FrS.new (S:=[]) (o:=.lst [.ref l,.ref l,.ref p]) a5;obtain⟨d,m,C⟩:=S3.hand;refine⟨_,rfl,hd,d,m,t,r,3,rfl,C,by lia,by decide,by decide,λx d' m' t4 x0 x1 c e=>?_⟩;have S4:=S3.setHand (r':=r) c;have J:B≠hd:=λz=>by have:=C.1;rw[z]at *;rw[aE]at this;cases this
 have af:l≠hd:=λz=>by have L:=C.1;rw[aI<|cW J]at L;exact iS a1 ⟨L,C.2⟩ z
 have as:p≠hd:=λz=>by have L:=C.1;rw[aI<|cW J]at L;exact iS ab ⟨L,C.2⟩ z
 have ak:l≠B:=aX a1 a5;have ar:p≠B:=aX ab a5;have a8:=(ae.trans<|FrS.new (o:=.lst [.ref l,.ref l,.ref p]) a5).put' (a:=hd) (o:=hl d' m' t4 r) (by trivial);have go:∀(I:Addr)(zs:List Str),I≠hd->I≠B->H2 I=some (.lst<|zs.map V.str)->zs≠[]->↑zs<=12->(∀x∈zs,x∈D.names)->
   cZ K [.ref hd,.ref I] (aA (aA H2 B<|.lst [.ref l,.ref l,.ref p]) hd<|hl d' m' t4 r) (λv Hv=>gT (gC (fZ rJ [] E0<|bG (aJ 0)<|bG (aJ 1)<|bG (aJ 2) aY)<|bS 6) (gT (oY (aJ 2) (aJ 6)<|aJ 5)<|iE<|gD<|bG (tC<|.str "make")<|bG (aJ 6)<|bG (aJ 5) aY) ⟨λ_ H=>Q .non H,Q,λ_ _=>False,λ_ _=>False⟩ [some<|.ref hd,some<|.ref wd,some<|.ref en,some<|.ref p,some<|.ref l,some v,none] Hv) E0:=by
  intro I zs h1 h2 hz ay ap au;obtain⟨d,m,C⟩:=S4.hand;refine⟨hd,I,d,m,t4,r,_,rfl,C,by lia,h1,SqL.of (by rw[aI h1,aI h2];exact hz),by simpa using ay,by rw[aG];lia,λy d5 m5 t5 hy c5 e5=>?_⟩;obtain⟨z,av,rfl⟩:=vh6.mp hy;have S5:=S4.setHand (r':=r) c5;have ac:=a8.put' (a:=hd) (o:=hl d5 m5 t5 r) (by trivial);refine⟨_,rfl,_,rfl,_,rfl,hd,en,wd,WA,D,t5,r,rfl,S5,by lia,λx6 H6 t6 an S6 f6 b0 _=>?_⟩;obtain⟨kv,aq,hk⟩:=S6.env;exists _,rfl,_,rfl,_,rfl,en,_,rfl,DPut.k (k:=(Sum.inr x6:aL)) aq<|bN (by have:=hk.len;lia);have S7:=S6.setEnv<|hk.put an<|.inr ⟨z,au z av,rfl⟩;have ad:=(ac.trans f6).put' (a:=en) (o:=.dK<|aU kv (Sum.inr x6)<|V.str z) (by trivial);refine⟨_,rfl,_,rfl,dO rfl,λpr ai=>?_⟩;exact q pr _ t6 ⟨"make",_,aE,by rfl',by rfl',by rfl',λ_=>⟨_,_,rfl⟩⟩ (S7.fr0<|FrS.new ai) (ad.trans<|FrS.new ai) (by lia)
 have am:x=0\/x=1\/x=2:=by lia
 rcases am with rfl | rfl | rfl
 .exact⟨B,_,_,.ref l,rfl,rfl,SqL.of (by rw[aI J];exact aE),rfl,go l ss af ak a1 a0 W aj⟩
 .exact⟨B,_,_,.ref l,rfl,rfl,SqL.of (by rw[aI J];exact aE),rfl,go l ss af ak a1 a0 W aj⟩
 .exact⟨B,_,_,.ref p,rfl,rfl,SqL.of (by rw[aI J];exact aE),rfl,go p D.names as ar ab a9 (by unfold WD.names;rw[aG];lia) λx u=>u⟩
abbrev NF:Stmt:=top 35
abbrev MG:Stmt:=top 37
inductive TW(vs:List V)(H:Hp)(Q:VK):Prop
 | mk(hd en wd:Addr)(A:WA)(D:WD)(t r:Int)(ab dd:Str)(h1:vs=[.ref hd,.ref wd,.ref en,.str ab,.str dd])(h2:Sit H hd en wd A D t r)(h3:t+12<1000000)(h4:ab∈D.names)(h5:dd∈D.deeds)(h6:∀(x:Addr)(ss:List Str)(H':Hp)(t':Int),H' x=some (.tup<|ss.map V.str)->↑ss<=1000->Sit H' hd en wd A D t' r->FrS (Ms hd en A) H H'->t'<=t+12->Q (.ref x) H'):TW  vs H Q
def KD:Sp:=λvs H Q _=>TW  vs H Q
inductive QJ(vs:List V)(H:Hp)(Q:VK):Prop
 | mk(hd en wd:Addr)(A:WA)(D:WD)(t r:Int)(h1:vs=[.ref hd,.ref wd,.ref en])(h2:Sit H hd en wd A D t r)(h3:t+7<1000000)(h4:∀(x:Addr)(H':Hp)(t':Int),PlainR H' x->Sit H' hd en wd A D t' r->FrS (Ms hd en A) H H'->t'<=t+7->Q (.ref x) H'):QJ  vs H Q
def LI:Sp:=λvs H Q _=>QJ  vs H Q
def Sit.own{A:WA}(S:Sit H hd en wd A D t r)(h:Sit H6 hd en wd A D t6 r6)(f:FrS (Ms hd en A) H H6)(a1:H pa=none):Sit (aA H6 pa o) hd en wd A D t6 r6/\FrS (Ms hd en A) H (aA H6 pa o):=by
 have v:pa∉Ms hd en A:=S.notin a1;have u:∀b∈Ms hd en A,aA H6 pa o b=H6 b:=λb j=>aI (λz=>v<|by rw[<-z];exact j)
 have a:FrS (Ms hd en A) H (aA H6 pa o):=f.put a1;obtain⟨⟨d,m,h1,x⟩,⟨s,i,n⟩,⟨B,C,e⟩,⟨l,q,p⟩,w,nd,ok⟩:=h;exact⟨⟨⟨d,m,(u _<|by trivial).trans h1,x⟩,⟨s,(u _<|by trivial).trans i,n⟩,⟨B,(u _<|by trivial).trans C,e⟩,⟨l,(u _<|by trivial).trans q,p⟩,S.w.keep a,nd,ok⟩,a⟩
abbrev CZ:List Str:=[qH,qW,"_law_env","_law_above","_law_deed_here","_law_args_here","_law_kind","_law_some"]
def xg4:cU CZ qD (cG NF):=dF
def Fk(F:Fun K "_law_args" "_law_args" NF f fd)(T:aV P w K mg base k "_law_take" qB gB)(O:aV P w K mg base k "_law_of" qC (cZ K))(V':aV P w K mg base k "_law_variable" qA qN)(L:aV P w K mg base k "_law_line" qG AI)(b1:mg "tuple"=none):
  bB P w K mg base cH (k+1) f fd qD KD:=by
 refine F.ok xg4 (λvs H Q E h=>?_) λb6 A outer s H vs Q E hr h=>?_
 .obtain⟨hd,en,wd,A,D,t,r,ab,J,rfl,_⟩:=h;rfl
 obtain⟨hd,en,wd,WA,D,t,r,ab,J,rfl,S,ht,ay,b3,q⟩:=h;have hu:=gG hr;have av:(["_law_x","_law_env","_law_kind",qW]:List Str).Nodup:=by rfl'
 exists _,aP (sL 5 xg4.nd<|cS aF)
  (aP (fQ eW rfl (gM<|cT hu (cT hu (pv 1) cD λ_ _=>rfl) (dQ<|aC (cT hu (cT hu (pv 1) cD λ_ _=>rfl) (pv 3) λ_ _=>rfl)<|aC (pv 4) aF) λ_ _=>rfl) (sS (i:=6) xg4.nd rfl<|Or.inr rfl)<|aP (PM<|nQ (i:=7) (N':=["_law_x","_law_env","_law_kind",qW]) (src:=[none,some 2,some 6,some 1]) rfl xg4.nd rfl rfl eP (EE<|pv 2) (g:=bS 0) (λ_ _ _ _=>gL 0 av) (λ_ _ _ _=>mE<|PW.pt<|kL (pE<|CM<|cT hu (pv 1) (pv 0) λ_ _=>rfl)<|lW<|cB (show cN _ _ (iG K false) from mJ) (pv 2) (aW L hr rfl<|aC (pv 3)<|aC (cT hu (pv 1) (pv 0) λ_ _=>rfl) aF) rfl) λ_ _ _ _=>pv 0)<|bE<|dS (PW.pt<|kL (cB (EF<|mN hu) (pv 7) (cS aF)<|cO _)<|lW<|cB mR (aW T hr rfl<|aC (pv 0)<|aC aQ aF) aQ<|cO _) (bE<|gS<|hH hZ iX iN iK (pv 5)<|aC (aW O hr rfl<|aC (pv 0)<|aC (pv 7) aF) aF)<|bE<|gS<|hH hZ iX iN iK (pv 5)<|aC (aW V' hr rfl<|aC (pv 0)<|aC (pv 1)<|aC (pv 2) aF) aF)<|bE<|bU<|dE gA rfl b1 (by rfl')<|aC (pv 5) aF)
 ac_rfl
 have hU:D.U.length=9:=by unfold WD.U;rw[cY,bL,S.ok.v4,S.ok.p4]
 refine⟨bO _,λj a3=>?_⟩;have Y:=S.fr0<|FrS.new (S:=[]) (o:=.lst []) a3;obtain⟨rt,wp,ws,e1,e2,e3,e4,e5⟩:=S.w.wl ab ay J b3;refine⟨_,rfl,wd,_,rfl,Y.w.g.2.2.2.1,_,rfl,wd,_,rfl,Y.w.g.2.2.2.2.2.2.2.2.2.2,_,rfl,WA.roots,_,rfl,.inl ⟨_,Sum.inr ab,.inl Y.w.roots.2,rfl,e1.symm⟩,_,rfl,dO rfl,λpk aa=>?_⟩;have S2:=Y.fr0<|FrS.new (S:=[]) (o:=.tup [V.str rt,V.str J]) aa;have aj:=e3.keep<|(FrS.new (o:=.lst []) a3).trans<|FrS.new (o:=.tup [V.str rt,V.str J]) aa;have a5:aA (aA H j<|.lst []) pk (.tup [V.str rt,V.str J]) j=some (.lst []):=by rw[aI<|aX (o:=.lst []) aE aa];exact aE
 exists WA.wants,.ref wp,rfl,.inr ⟨_,[Sum.inr rt,Sum.inr J],pk,.inl S2.w.wants.2,rfl,aE,e2.symm⟩,wp,rfl,⟨_,SqL.of aj.2⟩;have aq:FrS (Ms hd en WA) H (aA (aA H j<|.lst []) pk<|.tup [V.str rt,V.str J]):=(FrS.new a3).trans<|FrS.new aa;generalize aA (aA H j<|.lst []) pk (.tup [V.str rt,V.str J])=H2 at S2 aj a5 aq;have a8:j∉Ms hd en WA:=S.notin a3;refine vO (xs:=ws.map V.str) (λi σ B=>∃(kx sx:Option V)(tx:Int)(xs:List Str),σ=[some<|.ref hd,some<|.ref wd,some<|.ref en,some<|.str ab,some<|.str J,some<|.ref j,kx,sx]/\Sit B hd en wd WA D tx r/\FrS (Ms hd en WA) H B/\tx<=t+3*i/\B j=some (.lst<|xs.map V.str)/\↑xs<=i) ⟨_,_,t,[],rfl,S2,aq,by lia,a5,by simp⟩ ?_ ?_ ?_
 .rintro i σ B hi ⟨_,_,_,_,_,_,Z,_⟩;exact SqL.of (e3.keep Z).2
 .rintro i x σ B G ⟨kx,sx,tx,xs,rfl,Sx,Z,ai,af,ao⟩;obtain⟨hi,_⟩:=vg4.mp G;rw[aG]at hi;rw[bD,bH hi]at G;cases G;obtain⟨C,ae,hk⟩:=Sx.env;have b5:=hk.len;obtain⟨X,eu,b4,_⟩:=hk.strs;exists en,C,ae;refine⟨_,rfl,en,C,rfl,ae,λo I a2=>?_⟩;have al:I≠en:=λz=>by rw[z,aE]at a2;cases a2
  have b7:B I=none:=by rw[aI al]at a2;exact a2
  refine EY (xs:=C.map λp=>kV p.1) (λM σ N=>(∃x,σ=[x,some<|.ref en,some<|.str ws[i],some<|.ref wd])/\FrS [] (aA B en<|.frz o<|.dK C) N/\∃ss:List Str,↑ss<=M/\N I=some (.lst<|ss.map V.str)) ⟨⟨_,rfl⟩,(FrS.refl).put a2,[],by simp,aE⟩ ?_ ?_ ?_
  .rintro M σ N hi ⟨_,Z,_⟩;exact Z _ _ (by trivial) aE
  .rintro M x σ N G ⟨⟨x0,rfl⟩,a1,ss,hs,a7⟩;have as:=G;rw[eu]at G;obtain⟨hi,_⟩:=vg4.mp G;rw[aG]at hi;rw[bD,bH hi]at G;cases G;have az:(Sum.inr X[M]:aL)∈C.map (·.1):=by
    rw[bD]at as;obtain⟨p,hp,e⟩:=vg8.mp as;have:p.1=Sum.inr X[M]:=by
     obtain⟨y,_,ey⟩:=hk.ks p.1<|vh6.mpr ⟨p,cX hp,rfl⟩;rw[ey]at e ⊢;cases e;rfl
    exact vh6.mpr ⟨p,cX hp,this⟩
   obtain⟨v,hv⟩:∃v,aN C (Sum.inr X[M])=some v:=by
    cases z:aN C (Sum.inr X[M])with
    | some v=>exact⟨v,rfl⟩
    | none=>exact absurd az<|FU z
   have ak:∀Hz,FrS [] (aA B en<|.frz o<|.dK C) Hz->DGet Hz en (.str X[M]) (some v):=λHz fz=>.inl ⟨C,Sum.inr X[M],.inr ⟨o,fz _ _ (by trivial) aE⟩,rfl,hv.symm⟩
   exists _,rfl,_,rfl,en,v,rfl,ak _ a1,_,rfl;rcases hk.vs _ _ hv with rfl | ⟨n,hn,rfl⟩
   .show if (!decide (V.non=V.non))=true then _ else _
    rw[aK<|by trivial];exact⟨⟨_,rfl⟩,a1,ss,by lia,a7⟩
   .show if (!decide (V.str n=V.non))=true then _ else _
    rw[aR<|by trivial];obtain⟨l,hl,b2,_⟩:=NJ S.ok hn;have aw:FrS (Ms hd en WA) B N:=λb u n e=>a1 b u (by trivial) (by rw[aI λz=>n<|by rw[z];simp];exact e)
    refine⟨_,rfl,_,rfl,_,rfl,_,rfl,en,V.str n,rfl,ak _ a1,wd,_,WA,D,n,l,rfl,Sx.w.keep aw,S.ok,hl,λla Hz fz au b0=>?_⟩;have ax:I≠la:=aX a7 au;have an:=fz _ _ (by trivial) a7;exists la,_,rfl,.inl<|SqL.of b0,rfl,jB _,_,rfl;refine bJ (λc=>?_) λc=>?_
    .exists _,rfl,_,an,by rw[aG];exact bN (by lia),⟨_,rfl⟩,(a1.trans fz).put a2,ss++[X[M]],?_
     .rw[bL,dY];lia
     .rw[aE,bP];rfl
    .exact⟨⟨_,rfl⟩,a1.trans fz,ss,by lia,an⟩
  .rintro σ N ⟨_,a1,ss,hs,a7⟩;rw[aG]at hs;exists o,a1 _ _ (by trivial) aE;have f1:FrS [] B (aA N en<|.dK C):=FrS.thaw ae a1;have Y:=Sx.fr0 f1;have ag:aA N en (.dK C) I=some (.lst<|ss.map V.str):=by rw[aI al];exact a7
   generalize aA N en (.dK C)=H3 at f1 Y ag;have a4:=f1 _ _ (by trivial) af;refine⟨_,rfl,bO _,λpe a9=>?_⟩;have S4:=Y.fr0<|FrS.new (S:=[]) (o:=.lst []) a9;have am:I≠pe:=aX ag a9;have a6:aA H3 pe (.lst []) j=some (.lst<|xs.map V.str):=by rw[aI<|aX a4 a9];exact a4
   have f4:FrS (Ms hd en WA) H (aA H3 pe<|.lst []):=Z.trans ((f1.trans<|FrS.new a9).mono<|by trivial);have ad:aA H3 pe (.lst []) I=some (.lst<|ss.map V.str):=by rw[aI am];exact ag
   exists I,pe,_,rfl,rfl,am,SqL.of ad,SqL.of aE,_,rfl;have ap:∀(H5:Hp)(W:Int),Sit H5 hd en wd WA D W r->FrS (Ms hd en WA) H H5->W<=tx+1->H5 j=some (.lst<|xs.map V.str)->AS (wI K "list" xB (aJ 5)<|bG (fZ qN [] E0<|bG (aJ 0)<|bG (aJ 1)<|bG (aJ 2) aY) aY)
     ⟨λσ B=>∃(kx sx:Option V)(tx:Int)(xs:List Str),σ=[some<|.ref hd,some<|.ref wd,some<|.ref en,some<|.str ab,some<|.str J,some<|.ref j,kx,sx]/\Sit B hd en wd WA D tx r/\FrS (Ms hd en WA) H B/\tx<=t+3*((i+1:Nat):Int)/\B j=some (.lst<|xs.map V.str)/\↑xs<=i+1,λ_ _=>False,λ_ _=>False,λ_ _=>False⟩ [some<|.ref hd,some<|.ref wd,some<|.ref en,some<|.str ab,some<|.str J,some<|.ref j,some<|.str ws[i],some<|.ref I] H5:=by
    intro H5 W S5 f5 b8 a0;refine⟨_,rfl,.inl ⟨rfl,_,SqL.of a0⟩,_,rfl,_,rfl,_,rfl,hd,en,wd,WA,D,W,r,rfl,S5,by lia,λx H6 t6 S6 f6 b9 _=>?_⟩;have ac:=f6 _ _ a8 a0;have S7:=Sit.own (o:=.lst<|xs.map V.str++[V.str x]) S S6 (f5.trans f6) a3;exact⟨j,_,_,rfl,rfl,ac,bN (by rw[aG];lia),_,_,t6,xs++[x],rfl,S7.1,S7.2,by lia,by rw[aE,bP];rfl,by rw[bL,dY];lia⟩
   cases ss with
   | nil=>exact ap _ tx S4 f4 (by lia) a6
   | cons y ys=>
    obtain⟨d,m,hh⟩:=S4.hand;refine⟨_,rfl,hd,d,m,tx,r,4,rfl,hh,by lia,by decide,by decide,λx d' m' W x0 x1 c e=>⟨_,_,rfl,rfl,_,rfl,?_⟩⟩;have S5:=S4.setHand (r':=r) c;have f5:=f4.put' (a:=hd) (o:=hl d' m' W r) (by trivial);have ar:I≠hd:=iS (ss:=y::ys) ad hh;have ah:j≠hd:=λz=>a8 (by rw[z];simp)
    have a0:aA (aA H3 pe<|.lst []) hd (hl d' m' W r) j=some (.lst<|xs.map V.str):=by rw[aI ah];exact a6
    refine bJ (λc=>?_) λc=>?_
    .obtain⟨d,m,hh⟩:=S5.hand;refine⟨_,rfl,.inl ⟨rfl,_,SqL.of a0⟩,_,rfl,_,rfl,hd,I,d,m,W,r,_,rfl,hh,by lia,ar,SqL.of (by rw[aI ar];exact ad),by simp,by rw[aG];lia,λx d' m' t' G c e=>?_⟩;obtain⟨x,_,rfl⟩:=vh6.mp G;have S7:=Sit.own (o:=.lst<|xs.map V.str++[V.str x]) S (S5.setHand (r':=r) c) (f5.put' (a:=hd) (o:=hl d' m' t' r)<|by trivial) a3;exact⟨j,_,_,rfl,rfl,by rw[aI ah];exact a0,bN (by rw[aG];lia),_,_,t',xs++[x],rfl,S7.1,S7.2,by lia,by rw[aE,bP];rfl,by rw[bL,dY];lia⟩
    .exact ap _ W S5 f5 e a0
 .rintro σ B ⟨kx,sx,tx,xs,rfl,Sx,Z,ai,af,ao⟩;rw[aG]at ai ao;refine⟨_,rfl,j,_,rfl,.inl ⟨SqL.of af,λl hl=>?_⟩⟩;exact q l xs _ tx aE (by lia) (Sx.fr0<|FrS.new hl) (Z.trans<|FrS.new hl) (by lia)
abbrev sD:List Str:=[qH,qW,"_law_env","_law_x","_law_y","_law_field_here","_law_z"]
def yj6:cU sD qA (cG MG):=dF
def Ei(F:Fun K "_law_field" "_law_field" MG f fd)(T:aV P w K mg base k "_law_take" qB gB)(O:aV P w K mg base k "_law_of" qC (cZ K))(V':aV P w K mg base k "_law_variable" qA qN)(G:aV P w K mg base k "_law_target" qA rJ):
  bB P w K mg base cH (k+1) f fd qA LI:=by
 refine F.ok yj6 (λvs H Q E h=>?_) λaa A outer s H vs Q E l h=>?_
 .obtain⟨hd,en,wd,A,D,t,r,rfl,_⟩:=h;rfl
 obtain⟨hd,en,wd,WA,D,t,r,rfl,S,ht,q⟩:=h;have b:=gG l;exists _,aP (OZ (i:=3) (j:=4) rfl yj6.nd rfl rfl (by decide) rfl rfl (aC (aW V' l rfl<|aC (pv 0)<|aC (pv 1)<|aC (pv 2) aF)<|aC (aW V' l rfl<|aC (pv 0)<|aC (pv 1)<|aC (pv 2) aF) aF) rfl)
  (aP (sL 5 yj6.nd<|aW O l rfl<|aC (pv 0)<|aC (cT b (pv 1) cD λ_ _=>rfl) aF)<|aP (dS (cB iL (aW T l rfl<|aC (pv 0)<|aC aQ aF) aQ<|cO _) (aP (mU b (cT b (pv 1) cD λ_ _=>rfl) (pv 5) (yS b (pv 2) (pv 4) ⟨rfl,rfl,rfl,rfl⟩) rfl)<|bE<|bU<|dQ<|aC cD<|aC (pv 3)<|aC (pv 5)<|aC (pv 4) aF) dW)<|aP (sL 6 yj6.nd<|aW G l rfl<|aC (pv 0)<|aC (pv 1)<|aC (pv 2) aF)<|aP (mU b (pv 2) (pv 6) (yS b (cT b (pv 1) cD λ_ _=>rfl) (pv 5) ⟨rfl,rfl,rfl,rfl⟩) rfl)<|bE<|bU<|dQ<|aC cD<|aC (pv 6)<|aC (pv 4)<|aC (pv 5) aF)
 ac_rfl
 have hU:D.U.length=9:=by unfold WD.U;rw[cY,bL,S.ok.v4,S.ok.p4]
 have ae:=S.ok.f3;refine⟨_,rfl,_,rfl,_,rfl,hd,en,wd,WA,D,t,r,rfl,S,by lia,λx1 H1 t1 S1 f1 ad _=>?_⟩;refine⟨_,rfl,_,rfl,_,rfl,hd,en,wd,WA,D,t1,r,rfl,S1,by lia,λX H2 t2 u f2 ac _=>⟨_,_,rfl,?_⟩⟩;obtain⟨d,m,L⟩:=u.hand;refine⟨_,rfl,_,rfl,wd,_,rfl,u.w.g.2.2.2.2.2.2.2.1,hd,WA.fields,d,m,t2,r,_,rfl,L,by lia,iS u.w.fields.2 L,SqL.of u.w.fields.2,?_,by rw[aG];lia,λx d3 m3 t3 hx c3 e3=>?_⟩
 .intro z;have:=cR List.length z;rw[aG,jX]at this;lia
 obtain⟨v,a8,rfl⟩:=vh6.mp hx;have S3:=u.setHand (r':=r) c3;have a6:=(f1.trans f2).put' (a:=hd) (o:=hl d3 m3 t3 r) (by trivial);obtain⟨d,m,L⟩:=S3.hand;refine⟨_,rfl,hd,d,m,t3,r,2,rfl,L,by lia,by decide,by decide,λx d4 m4 N x0 x1 c4 e4=>⟨rfl,_,rfl,?_⟩⟩;have p:=S3.setHand (r':=r) c4;have Z:=a6.put' (a:=hd) (o:=hl d4 m4 N r) (by trivial);obtain⟨W,C,J⟩:=p.env;obtain⟨Y,I,a1⟩:=p.held;refine bJ (λc=>?_) λc=>?_
 .exists _,rfl,en,rfl,.inl ⟨_,.inl C⟩,_,rfl,_,DGet.k (k:=(Sum.inr X:aL)) C,_,rfl,wd,_,rfl,p.w.g.2.2.2.2.2.2.2.2.2.1,_,rfl,WA.held,_,rfl,DPut.k (k:=(Sum.inr v:aL)) I<|bN (by have:=a1.len;lia);have n:=p.setHeld<|a1.put a8<|J.get<|Sum.inr X;have a7:=Z.put' (a:=WA.held) (o:=.dK<|aU Y (Sum.inr v)<|(aN W<|Sum.inr X).getD .non) (by trivial);refine⟨_,rfl,_,rfl,_,rfl,dO rfl,λM B=>?_⟩;exact q M _ N ⟨"put",_,aE,by rfl',by rfl',by rfl',λe=>absurd e<|by rfl'⟩ (n.fr0<|FrS.new B) (a7.trans<|FrS.new B) (by lia)
 .refine⟨_,rfl,_,rfl,_,rfl,hd,en,wd,WA,D,N,r,rfl,p,by lia,λx5 H5 t5 a5 n f5 ab _=>?_⟩;obtain⟨W,C,J⟩:=n.env;obtain⟨Y,I,a1⟩:=n.held;exists _,rfl,wd,_,rfl,n.w.g.2.2.2.2.2.2.2.2.2.1,WA.held,rfl,.inl ⟨_,.inl I⟩,_,rfl,_,DGet.k (k:=(Sum.inr v:aL)) I,_,rfl,_,rfl,en,_,rfl,DPut.k (k:=(Sum.inr x5:aL)) C<|bN (by have:=J.len;lia);have S6:=n.setEnv<|J.put a5<|a1.get<|Sum.inr v;have a9:=(Z.trans f5).put' (a:=en) (o:=.dK<|aU W (Sum.inr x5)<|(aN Y<|Sum.inr v).getD .non) (by trivial);refine⟨_,rfl,_,rfl,_,rfl,dO rfl,λM B=>?_⟩;exact q M _ t5 ⟨"take",_,aE,by rfl',by rfl',by rfl',λe=>absurd e<|by rfl'⟩ (S6.fr0<|FrS.new B) (a9.trans<|FrS.new B) (by lia)
abbrev LZ:Stmt:=top 36
inductive OD(vs:List V)(H:Hp)(Q:VK):Prop
 | mk(hd en wd:Addr)(A:WA)(D:WD)(t r lv:Int)(h1:vs=[.ref hd,.ref wd,.ref en,.int lv])(h2:Sit H hd en wd A D t r)(h3:t+18<1000000)(h4:∀(x:Addr)(H':Hp)(t':Int),Row1 (fF D) H' x->Sit H' hd en wd A D t' r->FrS (Ms hd en A) H H'->t'<=t+18->Q (.ref x) H'):OD  vs H Q
def AD:Sp:=λvs H Q _=>OD  vs H Q
def Ws(D:WD)(H:Hp)(as:List Addr):Prop:=∀a∈as,∃o d,H a=some (.tup [.str o,.str d])/\o∈D.names/\d∈D.deeds/\fF D o d
def Ws.mono(h:Ws D H as)(f:∀b xs,H b=some (.tup xs)->H' b=some (.tup xs)):Ws D H' as:=λa ha=>by
 obtain⟨o,d,e,r⟩:=h a ha;exact⟨o,d,f _ _ e,r⟩
def Ws.app(h:Ws D H as)(h':Ws D H bs):Ws D H (as++bs):=λa ha=>(vj5.mp ha).elim (h a)<|h' a
def GL(a:H p=some (.lst ys)):∀b xs,H b=some (.tup xs)->aA H p o b=some (.tup xs):=λb xs h=>by
 rw[aI λz=>by rw[z,a]at h;cases h];exact h
def NN(ds:List Str)(lo hi:Option Int):∃ds':List Str,dC (ds.map V.str) lo hi=ds'.map V.str/\↑ds'<=↑ds/\∀x∈ds',x∈ds:=by
 unfold dC;rw[<-tN,<-oF];refine⟨_,rfl,?_,λx a=>List.mem_of_mem_drop<|BH a⟩;rw[dI,mD];lia
abbrev zU:List Str:=[qH,qW,"_law_env","_law_level","_law_y","_law_kind","_law_some","_law_ways","_law_deed_here","_law_above","_law_args_here","_law_x"]
def zp1:cU zU qF (cG LZ):=dF
def ZX(F:Fun K "_law_call" "_law_call" LZ f fd)(T:aV P w K mg base k "_law_take" qB gB)(O:aV P w K mg base k "_law_of" qC (cZ K))(V':aV P w K mg base k "_law_variable" qA qN)(L:aV P w K mg base k "_law_line" qG AI)(G:aV P w K mg base k "_law_target" qA rJ)(HS:aV P w K mg base k "_law_has" qE JD)(MK:aV P w K mg base k "_law_make" qA FO)(AR:aV P w K mg base k "_law_args" qD KD):
  bB P w K mg base cH (k+1) f fd qF AD:=by
 refine F.ok zp1 (λvs H Q E h=>?_) λbr A outer s H vs Q E v h=>?_
 .obtain⟨hd,en,wd,A,D,t,r,J,rfl,_⟩:=h;rfl
 obtain⟨hd,en,wd,WA,D,t,r,J,rfl,S,ht,q⟩:=h;have M:=gG v;have b1:(["_law_name","_law_elder"]:List Str).Nodup:=by rfl'
 have b3:(["_law_one","_law_deed_here",qW]:List Str).Nodup:=by rfl'
 exists _,aP (sL 4 zp1.nd<|aW V' v rfl<|aC (pv 0)<|aC (pv 1)<|aC (pv 2) aF)
  (aP (sL 5 zp1.nd<|yS M (pv 2) (pv 4) ⟨rfl,rfl,rfl,rfl⟩)<|aP (dS (pE<|LQ<|pv 5) (bE<|sL 5 zp1.nd<|aW O v rfl<|aC (pv 0)<|aC (hV (N':=["_law_name","_law_elder"]) (src:=[none,none]) rfl eP (gM<|cT M (pv 1) cD λ_ _=>rfl) (g:=eA K 2<|eC (bS 0)<|eC (bS 1) dZ) (λ_ _ _ _=>fG (n:=2) rfl<|bR (gL 0 b1)<|bR (gL 1 b1) fE) (λ_ _ _ _=>gR) λ_ _ _ _=>pv 0) aF) dW)<|aP (sL 6 zp1.nd<|nY wD (cT M (pv 1) cD λ_ _=>rfl) (nN<|bV jN (pv 3) aQ) mY)<|aP (dS (cB iL (aW T v rfl<|aC (pv 0)<|aC aQ aF) aQ<|cO _) (bE<|sL 6 zp1.nd<|cT M (pv 1) cD λ_ _=>rfl) dW)<|aP (sL 7 zp1.nd<|cS aF)<|aP (fQ eW rfl (gM<|pv 6) (sS (i:=8) zp1.nd rfl<|Or.inr rfl)<|bE<|gS<|hH hZ PySem.F.slot_list_extend PySem.F.type_list_extend Gs (pv 7)<|aC (hV (N':=["_law_one","_law_deed_here",qW]) (src:=[none,some 8,some 1]) rfl eP (gM<|aW L v rfl<|aC (pv 1)<|aC (pv 5) aF) (g:=bS 0) (λ_ _ _ _=>gL 0 b3) (λ_ _ _ _=>mE<|vQ<|aW HS v rfl<|aC (pv 2)<|aC (pv 0)<|aC (pv 1) aF) λ_ _ _ _=>dQ<|aC (pv 0)<|aC (pv 1) aF) aF)<|aP (dS (cB (TL<|mN M) (pv 7) (cS aF)<|cO _) (bE<|bU<|aW MK v rfl<|aC (pv 0)<|aC (pv 1)<|aC (pv 2) aF) dW)<|aP (kW (aW O v rfl<|aC (pv 0)<|aC (pv 7) aF)<|fG (n:=2) rfl<|bR (gL 9 zp1.nd)<|bR (sS (i:=8) zp1.nd rfl<|Or.inr rfl) fE)<|aP (sL 10 zp1.nd<|aW AR v rfl<|aC (pv 0)<|aC (pv 1)<|aC (pv 2)<|aC (pv 9)<|aC (pv 8) aF)<|aP (sL 11 zp1.nd<|aW G v rfl<|aC (pv 0)<|aC (pv 1)<|aC (pv 2) aF)<|aP (mU M (pv 2) (pv 11) (yS M (cT M (pv 1) cD λ_ _=>rfl) (pv 8) ⟨rfl,rfl,rfl,rfl⟩) rfl)<|bE<|bU<|dQ<|aC cD<|aC (pv 11)<|aC (pv 4)<|aC (pv 9)<|aC (pv 8)<|aC (pv 10) aF)
 ac_rfl
 have hU:D.U.length=9:=by unfold WD.U;rw[cY,bL,S.ok.v4,S.ok.p4]
 have c5:=S.ok.l12;have h6:=S.ok.d6;refine⟨_,rfl,_,rfl,_,rfl,hd,en,wd,WA,D,t,r,rfl,S,by lia,λu H1 t1 S1 f1 c1 _=>?_⟩;obtain⟨kv,a6,hk⟩:=S1.env;exists _,rfl,en,rfl,.inl ⟨_,.inl a6⟩,_,rfl,_,DGet.k (k:=(Sum.inr u:aL)) a6;have aw:=hk.get<|Sum.inr u;generalize (aN kv<|Sum.inr u).getD .non=vk at aw;have bd:∀(nx:St->Hp->Prop),(∀(n:Str)(H2:Hp)(t2:Int),n∈D.names->Sit H2 hd en wd WA D t2 r->FrS (Ms hd en WA) H H2->t2<=t+3->nx [some<|.ref hd,some<|.ref wd,some<|.ref en,some<|.int J,some<|.str u,some<|.str n,none,none,none,none,none,none] H2)->
   iO (tB<|uD<|aJ 5) (gC (fZ (cZ K) [] E0<|bG (aJ 0)<|bG (CT (LS K<|wJ (aJ 1)<|tC<|.str "tree") [none,none] (eA K 2<|eC (bS 0)<|eC (bS 1) dZ) kU<|aJ 0) aY)<|bS 5) sP ⟨nx,Q,λ_ _=>False,λ_ _=>False⟩ [some<|.ref hd,some<|.ref wd,some<|.ref en,some<|.int J,some<|.str u,some vk,none,none,none,none,none,none] H1:=by
  intro nx a4;exists _,rfl,_,rfl;rcases aw with rfl | ⟨n,hn,rfl⟩
  .show if (decide<|V.non=V.non)=true then _ else _
   rw[aR<|by trivial];obtain⟨ts,aq,bg,b6⟩:=S1.w.tree;refine⟨_,rfl,_,rfl,wd,_,rfl,S1.w.g.1,WA.tree,rfl,⟨_,SqL.of aq.2⟩,λDn be=>?_⟩;refine IN (tr:=D.tr) aq.2 bg (λj t x a b=>(b6 j t x a b).2) be (by lia) λH2 f2 ap=>?_
   have Y:=S1.fr0 f2;obtain⟨d,m,Z⟩:=Y.hand;refine⟨hd,Dn,d,m,t1,r,_,rfl,Z,by lia,iS ap Z,SqL.of ap,?_,by rw[aG,aG];lia,λx d3 m3 t3 e c3 e3=>?_⟩
   .intro z;have:=cR List.length z;rw[aG,aG,jX]at this;exact S.ok.l1<|vt4.mp this
   .obtain⟨n,hn,rfl⟩:=vh6.mp e;exact a4 n _ t3 hn (Y.setHand c3) ((f1.trans<|f2.mono<|by trivial).put'<|by trivial) (by lia)
  .show if (decide<|V.str n=V.non)=true then _ else _
   rw[aK<|by trivial];exact a4 n H1 t1 hn S1 f1 (by lia)
 refine bd _ λn H2 t2 hn Y f2 bv=>?_;refine⟨_,rfl,wd,_,rfl,Y.w.g.2.2.1,_,rfl,J,1,rfl,rfl,_,rfl,WA.deeds,_,rfl,SqL.of Y.w.deeds.2,λps ac=>?_⟩;obtain⟨ds,ed,c2,b4⟩:=NN D.deeds (some<|J+1) none;rw[ed];have S3:=Y.fr0<|FrS.new (S:=[]) (o:=.lst<|ds.map V.str) ac;have f3:FrS (Ms hd en WA) H (aA H2 ps<|.lst<|ds.map V.str):=f2.trans<|FrS.new ac;have a2:Stt (Ms hd en WA) (aA H2 ps<|.lst<|ds.map V.str) ps (.lst<|ds.map V.str):=⟨Y.notin ac,aE⟩;generalize aA H2 ps (.lst<|ds.map V.str)=H3 at S3 f3 a2;have bi:∀(nx:St->Hp->Prop),(∀(pz:Addr)(zs:List Str)(H4:Hp)(p:Int),Stt (Ms hd en WA) H4 pz (.lst<|zs.map V.str)->↑zs<=6->(∀x∈zs,x∈D.deeds)->Sit H4 hd en wd WA D p r->FrS (Ms hd en WA) H H4->p<=t+4->nx [some<|.ref hd,some<|.ref wd,some<|.ref en,some<|.int J,some<|.str u,some<|.str n,some<|.ref pz,none,none,none,none,none] H4)->
   iO (gH<|cJ nU (fZ gB [] E0<|bG (aJ 0)<|bG (tC<|.int 8) aY)<|tC<|.int 0) (gC (wJ (aJ 1)<|tC<|.str "deeds")<|bS 6) sP ⟨nx,Q,λ_ _=>False,λ_ _=>False⟩ [some<|.ref hd,some<|.ref wd,some<|.ref en,some<|.int J,some<|.str u,some<|.str n,some<|.ref ps,none,none,none,none,none] H3:=by
  intro nx a4;obtain⟨d,m,Z⟩:=S3.hand;refine⟨_,rfl,hd,d,m,t2,r,8,rfl,Z,by lia,by decide,by decide,λx d4 m4 p x0 x1 c4 e4=>⟨rfl,_,rfl,?_⟩⟩;have I:=S3.setHand (r':=r) c4;have f4:=f3.put' (a:=hd) (o:=hl d4 m4 p r) (by trivial);refine bJ (λc=>?_) λc=>?_
  .exact⟨_,rfl,wd,_,rfl,I.w.g.2.2.1,a4 WA.deeds D.deeds _ p I.w.deeds h6 (λx e=>e) I f4<|by lia⟩
  .exact a4 ps ds _ p (a2.keep<|FrS.chg<|by trivial) (by lia) b4 I f4 (by lia)
 refine bi _ λpz zs H4 p hz bw bn I f4 c0=>?_;refine⟨bO _,λC a5=>?_⟩;have S5:=I.fr0<|FrS.new (S:=[]) (o:=.lst []) a5;have ai:C∉Ms hd en WA:=I.notin a5;have ad:pz≠C:=aX hz.2 a5;obtain⟨l,bp,bc,b9⟩:=NJ S.ok hn;exists _,rfl,pz,rfl,⟨_,SqL.of<|by rw[aI ad];exact hz.2⟩;refine vO (xs:=zs.map V.str) (λi σ Hx=>∃(dx:Option V)(as:List Addr),σ=[some<|.ref hd,some<|.ref wd,some<|.ref en,some<|.int J,some<|.str u,some<|.str n,some<|.ref pz,some<|.ref C,dx,none,none,none]/\Sit Hx hd en wd WA D p r/\FrS (Ms hd en WA) H4 Hx/\Hx C=some (.lst<|as.map V.ref)/\Ws D Hx as/\↑as<=12*i) ⟨_,[],rfl,S5,FrS.new a5,aE,(λa ha=>nomatch ha),by simp⟩ ?_ ?_ ?_
 .rintro i σ Hx hi ⟨_,_,_,_,fr,_⟩;exact SqL.of (hz.keep fr).2
 .rintro i x σ Hx e ⟨dx,as,rfl,Sx,fr,an,bq,a1⟩;obtain⟨hi,_⟩:=vg4.mp e;rw[aG]at hi;rw[bD,bH hi]at e;cases e;have au:zs[i]∈D.deeds:=bn _<|fT hi;refine⟨_,rfl,.inl ⟨rfl,_,SqL.of an⟩,_,rfl,_,rfl,wd,_,WA,D,n,l,rfl,Sx.w,S.ok,bp,λla Hy fy bx ay=>⟨la,rfl,⟨_,SqL.of ay⟩,λDl av=>?_⟩⟩;have Sy:=Sx.fr0 fy;have b8:=fy _ _ (by trivial) an;have a8:Ws D Hy as:=bq.mono λb xs h=>fy _ _ (by trivial) h
  refine mI (xs:=l.map V.str) (λW σ X=>(∃x,σ=[x,some<|.str zs[i],some<|.ref wd])/\FrS [] Hy X/\∃bs:List Addr,↑bs<=W/\X Dl=some (.lst<|bs.map V.ref)/\Ws D X bs) ⟨⟨_,rfl⟩,(FrS.refl).put av,[],by simp,aE,λa ha=>nomatch ha⟩ ?_ ?_ ?_
  .rintro W σ X hi ⟨_,B,_⟩;exact SqL.of<|B _ _ (by trivial) ay
  .rintro W x σ X e ⟨⟨x0,rfl⟩,B,bs,al,ab,ae⟩;obtain⟨aj,_⟩:=vg4.mp e;rw[aG]at aj;rw[bD,bH aj]at e;cases e;have ak:l[W]∈D.names:=b9 _<|fT aj;refine⟨_,rfl,_,rfl,_,rfl,wd,_,WA,D,l[W],zs[i],rfl,(Sy.fr0 B).w,S.ok,ak,au,λb Hv fv b5=>⟨_,rfl,?_⟩⟩;have af:=fv _ _ (by trivial) ab;have b2:Ws D Hv bs:=ae.mono λb xs h=>fv _ _ (by trivial) h
   refine bJ (λc=>?_) λc=>?_
   .refine⟨_,rfl,_,rfl,dO rfl,λtp a3=>?_⟩;have bo:Dl≠tp:=aX af a3;have az:aA Hv tp (.tup [V.str l[W],V.str zs[i]]) Dl=some (.lst<|bs.map V.ref):=by rw[aI bo];exact af
    exists _,az,by rw[aG];exact bN (by lia),⟨_,rfl⟩,((B.trans fv).trans<|FrS.new a3).put av,bs++[tp],?_,?_
    .rw[bL,dY];lia
    .rw[aE,bP];rfl
    .refine Ws.mono (H:=aA Hv tp<|.tup [V.str l[W],V.str zs[i]]) (Ws.app (b2.mono λb xs h=>?_) λa ha=>?_)<|GL az
     .rw[aI<|aX h a3];exact h
     .rw[vh7.mp ha];exact⟨_,_,aE,ak,au,b5 c⟩
   .exact⟨⟨_,rfl⟩,B.trans fv,bs,by lia,af,b2⟩
  .rintro σ X ⟨_,B,bs,al,ab,ae⟩;rw[aG]at al;have ao:=B _ _ (by trivial) b8;have Sz:=Sy.fr0 B;have a9:Ws D X as:=a8.mono λb xs h=>B _ _ (by trivial) h
   have S7:=Sit.own (o:=.lst<|as.map V.ref++bs.map V.ref) I Sz (fr.trans<|(fy.trans B).mono<|by trivial) a5;refine⟨C,Dl,_,_,rfl,rfl,ao,ab,by rw[aG,aG];exact cM (bN<|by lia),_,as++bs,rfl,S7.1,S7.2,by rw[aE,bP],(Ws.app a9 ae).mono<|GL ao,by rw[bL];lia⟩
 rintro σ H6 ⟨dx,as,rfl,S6,f6,am,b7,a1⟩;rw[aG]at a1;have bb:=f4.trans f6;refine⟨_,rfl,bO _,λpe a7=>?_⟩;have S7:=S6.fr0<|FrS.new (S:=[]) (o:=.lst []) a7;have ar:C≠pe:=aX am a7;have ag:FrS (Ms hd en WA) H (aA H6 pe<|.lst []):=bb.trans<|FrS.new a7;have aa:aA H6 pe (.lst []) C=some (.lst<|as.map V.ref):=by rw[aI ar];exact am
 have b0:Ws D (aA H6 pe<|.lst []) as:=b7.mono λb xs h=>by rw[aI<|aX h a7];exact h
 exists C,pe,_,rfl,rfl,ar,SqL.of aa,SqL.of aE,_,rfl;generalize aA H6 pe (.lst [])=H7 at S7 ag aa b0;cases as with
 | nil=>
  refine⟨_,rfl,_,rfl,_,rfl,hd,en,wd,WA,D,p,r,rfl,S7,by lia,λx H8 t8 p8 S8 f8 bt=>q x H8 t8 (.inl p8) S8 (ag.trans f8)<|by lia⟩
 | cons a0 as'=>
  obtain⟨d,m,Z⟩:=S7.hand;refine⟨_,rfl,_,rfl,hd,C,d,m,p,r,_,rfl,Z,by lia,λz=>ai (by rw[z];simp),SqL.of aa,by simp,by rw[aG];lia,λx d8 m8 t8 e c8 e8=>?_⟩;obtain⟨tp,a3,rfl⟩:=vh6.mp e;obtain⟨on,N,e1,e2,e3,e4⟩:=b0 tp a3;have S8:=S7.setHand (r':=r) c8;have f8:=ag.put' (a:=hd) (o:=hl d8 m8 t8 r) (by trivial);have bf:tp≠hd:=λz=>by have:=Z.1;rw[<-z,e1]at this;cases this
  exists tp,_,rfl,SqT.of (by rw[aI bf];exact e1),rfl,_,_,rfl,_,_,rfl,rfl;refine⟨_,rfl,_,rfl,_,rfl,_,rfl,_,rfl,hd,en,wd,WA,D,t8,r,on,N,rfl,S8,by lia,e2,e3,λx9 bl H9 t9 bm bj S9 f9 bu=>?_⟩;refine⟨_,rfl,_,rfl,_,rfl,hd,en,wd,WA,D,t9,r,rfl,S9,by lia,λxa Ha ta ba Sa fa bz _=>?_⟩;obtain⟨kv,a6,hk⟩:=Sa.env;obtain⟨kt,ax,bk⟩:=Sa.told;exists _,rfl,wd,_,rfl,Sa.w.g.2.2.2.2.2.2.2.2.1,WA.told,rfl,.inl ⟨_,.inl ax⟩,_,rfl,_,DGet.k (k:=(Sum.inr N:aL)) ax,_,rfl,_,rfl,en,_,rfl,DPut.k (k:=(Sum.inr xa:aL)) a6<|bN (by have:=hk.len;lia);have Sb:=Sa.setEnv<|hk.put ba<|bk.get<|Sum.inr N;have fb:=((f8.trans f9).trans fa).put' (a:=en) (o:=.dK<|aU kv (Sum.inr xa)<|(aN kt<|Sum.inr N).getD .non) (by trivial);refine⟨_,rfl,_,rfl,_,rfl,_,rfl,_,rfl,dO rfl,λpr ah=>?_⟩;have bh:Tup H9 (aA (aA Ha en<|.dK<|aU kv (Sum.inr xa)<|(aN kt<|Sum.inr N).getD .non) pr<|.tup [V.str "call",V.str xa,V.str u,V.str on,V.str N,V.ref x9]):=((S9.tup fa).trans<|Sa.tup<|FrS.chg<|.tail _<|.head _).trans<|Tup.new ah;exact q pr _ ta (.inr ⟨xa,u,on,N,x9,bl,aE,bh _ _ bm,bj,e4⟩) (Sb.fr0<|FrS.new ah) (fb.trans<|FrS.new ah) (by lia)
abbrev rQ:Stmt:=top 38
abbrev GQ:Stmt:=top 39
abbrev nD:List Str:=[qH,qW,"_law_env","_law_level","_law_deep"]
abbrev mB:List Str:=[qH,qW,"_law_env","_law_level","_law_deep","_law_most"]
inductive oC(n:Nat)(vs:List V)(H:Hp)(Q:VK):Prop
 | mk(hd en wd:Addr)(A:WA)(D:WD)(t r lv:Int)(dp:Nat)(h1:vs=[.ref hd,.ref wd,.ref en,.int lv,.int (dp:Int)])(h2:dp<=n)(h3:Sit H hd en wd A D t r)(h4:0<=r)(h5:t+25*r+24<1000000)(h6:∀(x:Addr)(fs:List Addr)(H':Hp)(t' r':Int),Fl (fF D) H' n [x] fs->(↑fs:Int)+r'<=r+1->Sit H' hd en wd A D t' r'->FrS (Ms hd en A) H H'->0<=r'->r'<=r->t'+25*r'<=t+25*r+24->Q (.ref x) H'):oC n vs H Q
def KA(n:Nat):Sp:=λvs H Q _=>oC n vs H Q
inductive UL(n:Nat)(vs:List V)(H:Hp)(Q:VK):Prop
 | mk(hd en wd:Addr)(A:WA)(D:WD)(t r lv mo:Int)(dp:Nat)(h1:vs=[.ref hd,.ref wd,.ref en,.int lv,.int (dp:Int),.int mo])(h2:dp<=n)(h3:0<=mo)(h4:mo<=100)(h5:Sit H hd en wd A D t r)(h6:0<=r)(h7:t+25*r+1<1000000)(h8:∀(x:Addr)(rs fs:List Addr)(H':Hp)(t' r':Int),H' x=some (.tup<|rs.map V.ref)->Fl (fF D) H' n rs fs->(↑fs:Int)+r'<=r->Sit H' hd en wd A D t' r'->FrS (Ms hd en A) H H'->0<=r'->r'<=r->t'+25*r'<=t+25*r+1->Q (.ref x) H'):UL n vs H Q
def qT(n:Nat):Sp:=λvs H Q _=>UL n vs H Q
def CG:Nat->Sp
 | 0=>λ_ _ _ _=>False
 | n+1=>qT n
abbrev MA:List Str:=[qH,qW,"_law_env","_law_level","_law_deep","_law_way","_law_y","_law_x","_law_lots"]
def xv1:cU MA nD (cG rQ):=dF
def qS(F:Fun K "_law_row" "_law_row" rQ f fd)(T:aV P w K mg base k "_law_take" qB gB)(O:aV P w K mg base k "_law_of" qC (cZ K))(V':aV P w K mg base k "_law_variable" qA qN)(G:aV P w K mg base k "_law_target" qA rJ)(MK:aV P w K mg base k "_law_make" qA FO)(FI:aV P w K mg base k "_law_field" qA LI)(CA:aV P w K mg base k "_law_call" qF AD)(R:aV P w K mg base k "_law_rows" mB (CG n))(mr:mg "range"=none)(ml:mg "len"=none)(av:mg "tuple"=none):
  bB P w K mg base cH (k+1) f fd nD (KA n):=by
 refine F.ok xv1 (λvs H Q E h=>?_) λb7 A outer s H vs Q E I h=>?_
 .obtain⟨hd,en,wd,A,D,t,r,Z,J,rfl,_⟩:=h;rfl
 obtain⟨hd,en,wd,WA,D,t,r,Z,J,rfl,ba,S,a1,ht,q⟩:=h;have hu:=gG I;have b1:(["_law_k",qH,qW,"_law_env","_law_level","_law_deep"]:List Str).Nodup:=by rfl'
 exists _,aP (sL 5 xv1.nd<|aW T I rfl<|aC (pv 0)<|aC aQ aF)
  (aP (dS (cB vL (pv 5) aQ<|cO _) (bE<|bU<|aW MK I rfl<|aC (pv 0)<|aC (pv 1)<|aC (pv 2) aF) dW) (aP (dS (cB iL (pv 5) aQ<|cO _) (aP (sL 6 xv1.nd<|aW V' I rfl<|aC (pv 0)<|aC (pv 1)<|aC (pv 2) aF)<|aP (sL 7 xv1.nd<|aW G I rfl<|aC (pv 0)<|aC (pv 1)<|aC (pv 2) aF)<|aP (mU hu (pv 2) (pv 7) (yS hu (pv 2) (pv 6) ⟨rfl,rfl,rfl,rfl⟩) rfl)<|bE<|bU<|dQ<|aC cD<|aC (pv 7)<|aC (pv 6) aF) dW) (aP (dS (cB vL (pv 5) aQ<|cO _) (bE<|bU<|aW FI I rfl<|aC (pv 0)<|aC (pv 1)<|aC (pv 2) aF) dW) (aP (dS (PW.pt<|kL (cB iL (pv 5) aQ<|cO _)<|lW<|cB (EF<|mN hu) (cT hu (pv 1) cD λ_ _=>rfl) (cS aF)<|cO _) (bE<|bU<|dQ<|aC cD<|aC (aW O I rfl<|aC (pv 0)<|aC (cT hu (pv 1) cD λ_ _=>rfl) aF) aF) dW) (aP (dS (PW.pt<|CF (cB iL (pv 5) aQ<|cO _)<|BW<|cB iL (pv 5) aQ<|cO _) (bE<|bU<|dQ<|aC cD<|aC (aW O I rfl<|aC (pv 0)<|aC (cT hu (pv 1) cD λ_ _=>rfl) aF) aF) dW) (aP (dS (PW.pt<|kL (cB vL (pv 5) aQ<|cO _)<|kL (cB mR (pv 4) aQ<|cO _)<|lW<|cB mR (eI (pv 0) aQ) aQ<|cO _) (aP (nQ (i:=8) (N':=["_law_k",qH,qW,"_law_env","_law_level","_law_deep"]) (src:=[none,some 0,some 1,some 2,some 3,some 4]) rfl xv1.nd rfl rfl eP (vT rfl mr<|aC (bV pH aQ<|pv 5) aF) (g:=bS 0) (λ_ _ _ _=>gL 0 b1) (λ_ _ _ _=>gR) λ_ _ _ _=>aW R I rfl<|aC (pv 1)<|aC (pv 2)<|aC (pv 3)<|aC (pv 4)<|aC (bV pH (pv 5) aQ)<|aC aQ aF)<|bE<|bU<|bV JE (dQ<|aC (eI (cS<|aC cD<|aC cD aF)<|bV pH (eU nJ rfl ml jA<|aC (pv 8) aF) aQ) aF)<|dE gA rfl av (by rfl')<|aC (pv 8) aF) dW)
  (bE<|bU<|aW CA I rfl<|aC (pv 0)<|aC (pv 1)<|aC (pv 2)<|aC (pv 3) aF)))))))
 ac_rfl
 have hU:D.U.length=9:=by unfold WD.U;rw[cY,bL,S.ok.v4,S.ok.p4]
 have be:=S.ok.f3;have b4:=S.ok.lateLen;obtain⟨d,m,hh⟩:=S.hand;refine⟨_,rfl,hd,d,m,t,r,14,rfl,hh,by lia,by decide,by decide,λx d1 m1 B x0 x1 c1 e1=>?_⟩;have M:=S.setHand (r':=r) c1;have f1:FrS (Ms hd en WA) H (aA H hd<|hl d1 m1 B r):=FrS.chg (by trivial);have a7:aA H hd (hl d1 m1 B r) hd=some (hl d1 m1 B r):=aE;generalize aA H hd (hl d1 m1 B r)=H1 at M f1 a7;exists _,rfl,_,_,rfl,rfl,_,rfl;refine bJ (λc=>?_) λc=>?_
 .exact⟨_,rfl,_,rfl,_,rfl,hd,en,wd,WA,D,B,r,rfl,M,by lia,λx H2 t2 p2 b C ai=>q x [x] H2 t2 r (.one (.inl p2) .nil) (by show(1:Int)+_<=_;lia) b (f1.trans C) a1 (by lia)<|by lia⟩
 have n3:¬x<3:=λz=>c<|cI z;exists _,rfl,rfl,_,rfl;refine bJ (λc=>?_) λc=>?_
 .refine⟨_,rfl,_,rfl,_,rfl,hd,en,wd,WA,D,B,r,rfl,M,by lia,λy2 H2 t2 b C ai _=>?_⟩;refine⟨_,rfl,_,rfl,_,rfl,hd,en,wd,WA,D,t2,r,rfl,b,by lia,λx3 H3 t3 ax S3 f3 aq _=>?_⟩;obtain⟨kv,a9,hk⟩:=S3.env;exists _,rfl,en,rfl,.inl ⟨_,.inl a9⟩,_,rfl,_,DGet.k (k:=(Sum.inr y2:aL)) a9,_,rfl,_,rfl,en,_,rfl,DPut.k (k:=(Sum.inr x3:aL)) a9<|bN (by have:=hk.len;lia);have S4:=S3.setEnv<|hk.put ax<|hk.get<|Sum.inr y2;have f4:=((f1.trans C).trans f3).put' (a:=en) (o:=.dK<|aU kv (Sum.inr x3)<|(aN kv<|Sum.inr y2).getD .non) (by trivial);refine⟨_,rfl,_,rfl,dO rfl,λW Y=>?_⟩;exact q W [W] _ t3 r (.one (.inl ⟨"copy",_,aE,by rfl',by rfl',by rfl',λe=>absurd e<|by rfl'⟩) .nil) (by show(1:Int)+_<=_;lia) (S4.fr0<|FrS.new Y) (f4.trans<|FrS.new Y) a1 (by lia) (by lia)
 have n4:x≠3:=λz=>c (cI<|by rw[z])
 exists _,rfl,_,_,rfl,rfl,_,rfl;refine bJ (λc=>?_) λc=>?_
 .exact⟨_,rfl,_,rfl,_,rfl,hd,en,wd,WA,D,B,r,rfl,M,by lia,λx H2 t2 p2 b C ai=>q x [x] H2 t2 r (.one (.inl p2) .nil) (by show(1:Int)+_<=_;lia) b (f1.trans C) a1 (by lia)<|by lia⟩
 have n6:¬x<6:=λz=>c<|cI z;have rest:∀(H2:Hp),Sit H2 hd en wd WA D B r->FrS (Ms hd en WA) H H2->H2 hd=some (hl d1 m1 B r)->
   gT (iO (AA (gH<|cJ nU (aJ 5)<|tC<|.int 6)<|gH<|cJ nU (aJ 5)<|tC<|.int 7) (iE<|gD<|bG (tC<|.str "say")<|bG (fZ (cZ K) [] E0<|bG (aJ 0)<|bG (wJ (aJ 1)<|tC<|.str "fields") aY) aY) sP)
   (gT (iO (iU (gH<|cJ (iT λi j=>.bl<|decide<|i<j) (aJ 5)<|tC<|.int 10)<|iU (gH<|cJ (iT λi j=>.bl<|decide<|j<i) (aJ 4)<|tC<|.int 0)<|gH<|cJ (iT λi j=>.bl<|decide<|j<i) (cJ (nZ K) (aJ 0)<|tC<|.int 3)<|tC<|.int 2) (gT (gC (CT (oW<|bG (cJ (iT λi j=>.int<|i-j) (tC<|.int 10)<|aJ 5) aY) [none,some 0,some 1,some 2,some 3,some 4] (bS 0) kU<|fZ (CG n) [] E0<|bG (aJ 1)<|bG (aJ 2)<|bG (aJ 3)<|bG (aJ 4)<|bG (cJ (iT λi j=>.int<|i-j) (aJ 5)<|tC<|.int 1)<|bG (tC<|.int 3) aY)<|bS 8)<|iE<|cJ (ER K) (gD<|bG (cJ (nZ K) (lN<|bG (tC<|.str "again")<|bG (tC<|.str "either") aY)<|cJ (iT λi j=>.int<|i-j) (jT (λxs H Q=>∃p ys,xs=[.ref p]/\(SqL K H p ys\/SqT K H p ys)/\Q (.int ↑ys) H)<|bG (aJ 8) aY)<|tC<|.int 1) aY)<|jT (λxs H Q=>∃p ys,xs=[.ref p]/\((SqL K H p ys/\∀l,H l=none->Q (.ref l) (aA H l<|.tup ys))\/(SqT K H p ys/\Q (.ref p) H)))<|bG (aJ 8) aY) sP)<|iE<|fZ AD [] E0<|bG (aJ 0)<|bG (aJ 1)<|bG (aJ 2)<|bG (aJ 3) aY)
   ⟨λ_ H=>Q .non H,Q,λ_ _=>False,λ_ _=>False⟩ [some<|.ref hd,some<|.ref wd,some<|.ref en,some<|.int Z,some<|.int (J:Int),some<|.int x,none,none,none] H2:=by
  intro H2 b C a4;have say:iE (gD<|bG (tC<|.str "say")<|bG (fZ (cZ K) [] E0<|bG (aJ 0)<|bG (wJ (aJ 1)<|tC<|.str "fields") aY) aY) ⟨λ_ H=>Q .non H,Q,λ_ _=>False,λ_ _=>False⟩ [some<|.ref hd,some<|.ref wd,some<|.ref en,some<|.int Z,some<|.int (J:Int),some<|.int x,none,none,none] H2:=by
   obtain⟨d,m,hh⟩:=b.hand;refine⟨_,rfl,_,rfl,wd,_,rfl,b.w.g.2.2.2.2.2.2.2.1,hd,WA.fields,d,m,B,r,_,rfl,hh,by lia,iS b.w.fields.2 hh,SqL.of b.w.fields.2,?_,by rw[aG];lia,λx d3 m3 t3 hx c3 e3=>?_⟩
   .intro z;have:=cR List.length z;rw[aG,jX]at this;lia
   refine⟨dO rfl,λW Y=>?_⟩;exact q W [W] _ t3 r (.one (.inl ⟨"say",_,aE,by rfl',by rfl',by rfl',λe=>absurd e<|by rfl'⟩) .nil) (by show(1:Int)+_<=_;lia) ((b.setHand c3).fr0<|FrS.new Y) ((C.put'<|by trivial).trans<|FrS.new Y) a1 (by lia) (by lia)
  have af:iE (fZ AD [] E0<|bG (aJ 0)<|bG (aJ 1)<|bG (aJ 2)<|bG (aJ 3) aY) ⟨λ_ H=>Q .non H,Q,λ_ _=>False,λ_ _=>False⟩ [some<|.ref hd,some<|.ref wd,some<|.ref en,some<|.int Z,some<|.int (J:Int),some<|.int x,none,none,none] H2:=
   ⟨_,rfl,_,rfl,_,rfl,_,rfl,hd,en,wd,WA,D,B,r,Z,rfl,b,by lia,λx H3 t3 p3 S3 f3 aq=>q x [x] H3 t3 r (.one p3 .nil) (by show(1:Int)+_<=_;lia) S3 (C.trans f3) a1 (by lia)<|by lia⟩
  exists _,rfl,rfl,_,rfl;refine bJ (λc=>?_) λc=>?_
  .exact say
  have bf:x≠6:=λz=>c (cI<|by rw[z])
  exists _,rfl,rfl,_,rfl;refine bJ (λc=>?_) λc=>?_
  .exact say
  have bb:x≠7:=λz=>c (cI<|by rw[z])
  exists _,rfl,_,_,rfl,rfl,_,rfl;refine bJ (λc=>?_) λc=>af;have b9:x<10:=cC c;exists _,rfl,_,_,rfl,rfl,_,rfl;refine bJ (λc=>?_) λc=>af;have bc:(0:Int)<(J:Int):=cC c;exists _,rfl,hd,_,_,_,rfl,rfl,SqL.of a4,CQ,_,_,rfl,rfl,_,rfl;refine bJ (λc=>?_) λc=>af;have nr:(2:Int)<r:=cC c;obtain⟨n',rfl⟩:∃n',n=n'+1:=⟨n-1,by lia⟩;refine⟨_,rfl,_,_,rfl,rfl,_,rfl,by lia,by lia,λN a6=>?_⟩;have ap:N∉Ms hd en WA:=b.notin a6;refine TZ (lo:=0) (n:=(10-x).toNat) (λi σ X=>∃(kx:Option V)(tx L:Int)(u fs:List Addr),σ=[kx,some<|.ref hd,some<|.ref wd,some<|.ref en,some<|.int Z,some<|.int (J:Int)]/\Sit X hd en wd WA D tx L/\FrS (Ms hd en WA) H2 X/\0<=L/\L<=r/\tx+25*L<=B+25*r+i/\X N=some (.lst<|u.map V.ref)/\↑u=i/\Lots (fF D) X n' u fs/\(↑fs:Int)+L<=r)
   ⟨_,B,r,[],[],rfl,b.fr0<|FrS.new a6,FrS.new a6,a1,by lia,by lia,aE,rfl,.nil,by show(0:Int)+r<=r;lia⟩ ?_ ?_
  .rintro i σ X hi ⟨kx,tx,L,u,fs,rfl,Sx,fx,aa,aj,ao,a2,b2,ab,ay⟩;refine⟨_,rfl,_,rfl,_,rfl,_,rfl,_,rfl,_,_,rfl,rfl,hd,en,wd,WA,D,tx,L,Z,3,J-1,?_,by lia,by decide,by decide,Sx,aa,by lia,λv bd b0 Hy ty ry az an bg Sy fy ar b8 b6=>?_⟩
   .have:((J-1:Nat):Int)=(J:Int)-1:=by lia
    rw[this];rfl
   .have al:=fy _ _ ap a2;have S7:=Sit.own (o:=.lst<|u.map V.ref++[V.ref v]) b Sy (fx.trans fy) a6;have a8:Tup Hy (aA Hy N<|.lst<|u.map V.ref++[V.ref v]):=Tup.lst al;exact⟨_,al,bN (by rw[aG];lia),_,ty,ry,u++[v],fs++b0,rfl,S7.1,S7.2,ar,by lia,by lia,by rw[aE,bP];rfl,by rw[bL,dY];lia,(ab.keep<|(Sx.tup fy).trans a8).snoc (a8 _ _ az)<|an.keep a8,by rw[bL];lia⟩
  .rintro σ X ⟨kx,tx,L,u,fs,rfl,Sx,fx,aa,aj,ao,a2,b2,ab,ay⟩;have hj:↑u=1\/↑u=2:=by lia
   refine⟨dO rfl,λpl ak=>?_⟩;have ah:N≠pl:=aX a2 ak;have aw:∃v:Str,fK [V.str "again",V.str "either"] (((↑(u.map V.ref):Nat):Int)-1)=some (.str v)/\(↑u=1/\v="again"\/↑u=2/\v="either"):=by
    rw[aG];rcases hj with h | h
    .exact⟨"again",by rw[h];rfl,.inl ⟨h,rfl⟩⟩
    .exact⟨"either",by rw[h];rfl,.inr ⟨h,rfl⟩⟩
   obtain⟨v,hv,am⟩:=aw;refine⟨_,rfl,N,_,rfl,.inl (SqL.of<|by rw[aI ah];exact a2),_,_,rfl,rfl,pl,_,_,_,rfl,rfl,SqL.of aE,hv,dO rfl,λpt ag=>?_⟩;have a3:aA X pl (.lst [V.str "again",V.str "either"]) N=some (.lst<|u.map V.ref):=by rw[aI ah];exact a2
   have b3:N≠pt:=aX a3 ag;refine⟨_,rfl,N,_,rfl,.inl ⟨SqL.of (by rw[aI b3];exact a3),λpu ac=>?_⟩⟩;have b5:pt≠pu:=λz=>by rw[<-z,aE]at ac;cases ac
   refine⟨pt,pu,[.str v],u.map V.ref,rfl,rfl,SqT.of (by rw[aI b5];exact aE),SqT.of aE,by simp,by rw[aG];show 1+↑u<=sizeLine;exact cM (bN<|by lia),λz=>?_,λ_ pz as=>?_⟩
   .have:=cR List.length z;rw[aG,jX]at this;lia
   .have ff:FrS [] X _:=(((FrS.new (S:=[]) ak).trans<|FrS.new ag).trans<|FrS.new ac).trans<|FrS.new (o:=.tup<|[V.str v]++u.map V.ref) as;exact q pz (pz::fs) _ tx L ((ab.keep<|Tup.of0 ff).row aE am) (by rw[cY];lia) (Sx.fr0 ff) (C.trans<|fx.trans<|ff.mono<|by trivial) aa aj (by lia)
 exists _,rfl,rfl,_,rfl;refine bJ (λc=>?_) λc=>rest H1 M f1 a7;refine⟨_,rfl,wd,_,rfl,M.w.g.2.1,bO _,λpe a5=>?_⟩;have b:=M.fr0<|FrS.new (S:=[]) (o:=.lst []) a5;have au:WA.late≠pe:=aX M.w.late.2 a5;exists WA.late,pe,_,rfl,rfl,au,SqL.of b.w.late.2,SqL.of aE,_,rfl;have C:FrS (Ms hd en WA) H (aA H1 pe<|.lst []):=f1.trans<|FrS.new a5;have a4:aA H1 pe (.lst []) hd=some (hl d1 m1 B r):=by rw[aI<|aX a7 a5];exact a7
 generalize aA H1 pe (.lst [])=H2 at b C a4;cases hla:D.late with
 | nil=>exact rest H2 b C a4
 | cons y ys=>
  have ae:=b.w.late.2;rw[hla]at ae;have ad:=b4;rw[hla]at ad;obtain⟨d,m,hh⟩:=b.hand;refine⟨_,rfl,_,rfl,wd,_,rfl,b.w.g.2.1,hd,WA.late,d,m,B,r,_,rfl,hh,by lia,iS ae hh,SqL.of ae,by simp,by rw[aG];lia,λx d3 m3 t3 hx c3 e3=>?_⟩;refine⟨dO rfl,λW Y=>?_⟩;exact q W [W] _ t3 r (.one (.inl ⟨"bring",_,aE,by rfl',by rfl',by rfl',λe=>absurd e<|by rfl'⟩) .nil) (by show(1:Int)+_<=_;lia) ((b.setHand c3).fr0<|FrS.new Y) ((C.put'<|by trivial).trans<|FrS.new Y) a1 (by lia) (by lia)
abbrev zV:List Str:=[qH,qW,"_law_env","_law_level","_law_deep","_law_most","_law_rows_here","_law_k"]
def xj2:cU zV mB (cG GQ):=dF
def TY(F:Fun K "_law_rows" "_law_rows" GQ f fd)(T:aV P w K mg base k "_law_take" qB gB)(R:aV P w K mg base k "_law_row" nD (KA n))(mr:mg "range"=none)(ah:mg "tuple"=none):
  bB P w K mg base cH (k+1) f fd mB (qT n):=by
 refine F.ok xj2 (λvs H Q E h=>?_) λai A outer s H vs Q E N h=>?_
 .obtain⟨hd,en,wd,A,D,t,r,L,mo,M,rfl,_⟩:=h;rfl
 obtain⟨hd,en,wd,WA,D,t,r,L,mo,M,rfl,ag,ak,aj,S,ae,ht,q⟩:=h;have hu:=gG N;exists _,aP (sL 6 xj2.nd<|cS aF)
  (aP (fQ eW rfl (vT rfl mr<|aC (aW T N rfl<|aC (pv 0)<|aC (bV jN (pv 5) aQ) aF) aF) (gL 7 xj2.nd)<|bE<|dS (cB mR (eI (pv 0) aQ) aQ<|cO _) (aP (kW (bV pH (eI (pv 0) aQ) aQ)<|vX (pv 0) aQ vW)<|bE<|gS<|hH hZ iX iN iK (pv 6)<|aC (aW R N rfl<|aC (pv 0)<|aC (pv 1)<|aC (pv 2)<|aC (pv 3)<|aC (pv 4) aF) aF) dW)<|bE<|bU<|dE gA rfl ah (by rfl')<|aC (pv 6) aF)
 ac_rfl
 refine⟨bO _,λe C=>?_⟩;have S1:=S.fr0<|FrS.new (S:=[]) (o:=.lst []) C;have aa:e∉Ms hd en WA:=S.notin C;obtain⟨d,m,hh⟩:=S1.hand;refine⟨_,rfl,_,rfl,_,_,rfl,rfl,hd,d,m,t,r,_,rfl,hh,by lia,by lia,by lia,λx d1 m1 t1 x0 x1 c1 e1=>?_⟩;have S2:=S1.setHand (r':=r) c1;have a7:e≠hd:=λz=>aa (by rw[z];simp)
 refine⟨_,rfl,by lia,by lia,?_⟩;refine HE (lo:=0) (n:=x.toNat) (λi σ j=>∃(O:Option V)(tx b:Int)(rs fs:List Addr),σ=[some<|.ref hd,some<|.ref wd,some<|.ref en,some<|.int L,some<|.int (M:Int),some<|.int mo,some<|.ref e,O]/\Sit j hd en wd WA D tx b/\FrS (Ms hd en WA) H j/\0<=b/\b<=r/\tx+25*b<=t+25*r+1/\j e=some (.lst<|rs.map V.ref)/\↑rs<=i/\Fl (fF D) j n rs fs/\(↑fs:Int)+b<=r)
  ⟨_,t1,r,[],[],rfl,S2,((FrS.new C).put'<|by trivial),ae,by lia,by lia,by rw[aI a7];exact aE,by simp,.nil,by show(0:Int)+r<=r;lia⟩ ?_ ?_
 .rintro i σ j hi ⟨O,tx,b,rs,fs,rfl,p,B,Y,G,J,a1,af,u,I⟩;obtain⟨d,m,W,ok⟩:=p.hand;exists _,rfl,hd,_,_,_,rfl,rfl,SqL.of W,CQ,_,_,rfl,rfl,_,rfl;refine bJ (λc=>?_) λc=>?_
  .have c':0<b:=cC c;exists _,rfl,hd,_,_,_,rfl,rfl,SqL.of W,CQ,_,_,rfl,rfl;exists _,rfl,hd,_,3,3,rfl,rfl,W,rfl;have S3:=p.setHand (r':=b-1) ok;have f3:=B.put' (a:=hd) (o:=hl d m tx<|b-1) (by trivial);have a8:aA j hd (hl d m tx<|b-1) e=some (.lst<|rs.map V.ref):=by rw[aI a7];exact a1
   refine⟨_,rfl,.inl ⟨rfl,_,SqL.of a8⟩,_,rfl,_,rfl,_,rfl,_,rfl,_,rfl,hd,en,wd,WA,D,tx,b-1,L,M,rfl,ag,S3,by lia,by lia,λv fv X t4 r4 ac al S4 Z h0 h1 h2=>?_⟩;have ab:=Z _ _ aa a8;have S7:=Sit.own (o:=.lst<|rs.map V.ref++[V.ref v]) S S4 (f3.trans Z) C;have a9:Tup X (aA X e<|.lst<|rs.map V.ref++[V.ref v]):=Tup.lst ab;have ad:Tup j X:=(p.tup<|FrS.chg<|.head _).trans<|S3.tup Z;exact⟨e,_,_,rfl,rfl,ab,bN (by rw[aG];lia),_,t4,r4,rs++[v],fs++fv,rfl,S7.1,S7.2,h0,by lia,by lia,by rw[aE,bP];rfl,by rw[bL,dY];lia,(u.keep<|ad.trans a9).app<|ac.keep a9,by rw[bL];lia⟩
  .exact⟨_,tx,b,rs,fs,rfl,p,B,Y,G,J,a1,by lia,u,I⟩
 .rintro σ j ⟨O,tx,b,rs,fs,rfl,p,B,Y,G,J,a1,af,u,I⟩;refine⟨_,rfl,e,_,rfl,.inl ⟨SqL.of a1,λl hl=>?_⟩⟩;exact q l rs fs _ tx b aE (u.keep<|Tup.new hl) I (p.fr0<|FrS.new hl) (B.trans<|FrS.new hl) Y G J
abbrev M0(hd:Addr)(A:WA):List Addr:=[hd,A.told,A.held]
structure Sit0(H:Hp)(hd wd:Addr)(A:WA)(D:WD)(t r:Int):Prop where
 hand:∃d m,Hand H hd d m t r
 told:∃kv,H A.told=some (.dK kv)/\DOk D.deeds D.names kv
 held:∃kv,H A.held=some (.dK kv)/\DOk D.fields D.names kv
 w:Wld (M0 hd A) H wd A D
 nd:(M0 hd A).Nodup
 ok:BS D
section
variable{H H':Hp}{hd en wd:Addr}{A:WA}{D:WD}{t r t' r':Int}
def Sit0.have_(S:Sit0 H hd wd A D t r):∀b∈M0 hd A,∃o,H b=some o:=by
 obtain⟨⟨d,m,h1,l⟩,⟨j,e,a1⟩,⟨h,f,n⟩,w,nd,i⟩:=S;intro b a;simp only[M0,vh3,aT,dJ]at a;rcases a with rfl | rfl | rfl
 .exact⟨_,h1⟩
 .exact⟨_,e⟩
 .exact⟨_,f⟩
def Sit0.notin(S:Sit0 H hd wd A D t r)(b:H p=none):p∉M0 hd A:=λz=>by
 obtain⟨o,a⟩:=S.have_ p z;rw[b]at a;cases a
def Sit0.ne(S:Sit0 H hd wd A D t r):hd≠A.told/\hd≠A.held/\A.told≠A.held:=by
 have:=S.nd;simp only[M0,vq2,vh3,aT,dJ,not_or]at this;exact⟨this.1.1,this.1.2,this.2.1⟩
def Sit0.fr0(S:Sit0 H hd wd A D t r)(f:FrS [] H H'):Sit0 H' hd wd A D t r:=by
 obtain⟨⟨d,m,h1,i⟩,⟨b,h,a⟩,⟨e,j,a1⟩,w,nd,ok⟩:=S;exact⟨⟨d,m,f _ _ (by trivial) h1,i⟩,⟨b,f _ _ (by trivial) h,a⟩,⟨e,f _ _ (by trivial) j,a1⟩,w.keep (f.mono<|by trivial),nd,ok⟩
def Sit0.setHand(S:Sit0 H hd wd A D t r)(ok:oV d' m' t'):Sit0 (aA H hd<|hl d' m' t' r') hd wd A D t' r':=by
 obtain⟨e,a,n⟩:=S.ne;obtain⟨⟨d,m,h1⟩,⟨f,i,a1⟩,⟨h,l,j⟩,w,nd,b⟩:=S;exact⟨⟨d',m',Hand.at ok⟩,⟨f,by rw[aI e.symm];exact i,a1⟩,⟨h,by rw[aI a.symm];exact l,j⟩,w.keep (FrS.chg<|by trivial),nd,b⟩
def Sit0.own(S:Sit0 H hd wd A D t r)(h:Sit0 H6 hd wd A D t6 r6)(f:FrS (M0 hd A) H H6)(a1:H pa=none):Sit0 (aA H6 pa o) hd wd A D t6 r6/\FrS (M0 hd A) H (aA H6 pa o):=by
 have p:pa∉M0 hd A:=S.notin a1;have u:∀b∈M0 hd A,aA H6 pa o b=H6 b:=λb i=>aI (λz=>p<|by rw[<-z];exact i)
 have a:FrS (M0 hd A) H (aA H6 pa o):=f.put a1;obtain⟨⟨d,m,h1,q⟩,⟨s,v,e⟩,⟨j,n,l⟩,w,nd,ok⟩:=h;exact⟨⟨⟨d,m,(u _<|by trivial).trans h1,q⟩,⟨s,(u _<|by trivial).trans v,e⟩,⟨j,(u _<|by trivial).trans n,l⟩,S.w.keep a,nd,ok⟩,a⟩
def Sit0.open(S:Sit0 H hd wd A D t r)(d:H en=none)(m:DOk D.U D.names kv):Sit (aA H en<|.dK kv) hd en wd A D t r:=by
 have b:=S.notin d;obtain⟨l,j,i⟩:=S.ne;have f:FrS [] H (aA H en<|.dK kv):=FrS.new d;have e:=S.fr0 f;refine⟨e.hand,⟨kv,aE,m⟩,e.told,e.held,S.w.map λa o h=>⟨λz=>?_,f _ _ (by trivial) h.2⟩,?_,S.ok⟩
 .simp only[Ms,vh3,aT,dJ]at z;rcases z with z | z | z | z
  .exact h.1 (by rw[z];simp)
  .exact aX h.2 d z
  .exact h.1 (by rw[z];simp)
  .exact h.1 (by rw[z];simp)
 .simp only[M0,vh3,aT,dJ,not_or]at b;simp only[Ms,vq2,vh3,aT,dJ,not_or];exact⟨⟨cW b.1,l,j⟩,⟨b.2.1,b.2.2⟩,i,not_false,kD⟩
def Sit.close(S:Sit H hd en wd A D t r):Sit0 H hd wd A D t r:=by
 obtain⟨f,e,d,j,i,b⟩:=S.ne;refine⟨S.hand,S.told,S.held,S.w.map λa o h=>h.sub (by simp +contextual),?_,S.ok⟩;simp only[M0,vq2,vh3,aT,dJ,not_or];exact⟨⟨e,d⟩,b,not_false,kD⟩
def FrS.close(d:H en=none)(f:FrS (Ms hd en A) (aA H en o) H1):FrS (M0 hd A) H H1:=λb u n e=>by
 have a:b≠en:=aX e d;refine f b u (λz=>?_) (by rw[aI a];exact e);simp only[Ms,vh3,aT,dJ]at z;rcases z with z | z | z | z
 .exact n (by rw[z];simp)
 .exact a z
 .exact n (by rw[z];simp)
 .exact n (by rw[z];simp)
theorem DOk.merge:∀(more:List (aL×V)){kvs:List (aL×V)},DOk U N kvs->(∀b∈more,∃x∈U,b.1=Sum.inr x/\(b.2=.non\/∃n∈N,b.2=.str n))->DOk U N (dX kvs more)
 | [],kvs,h,_=>h
 | a::l,kvs,h,hm=>by
  obtain⟨x,f,e,i⟩:=hm a<|rV ..;show DOk U N<|dX (aU kvs a.1 a.2) l;refine DOk.merge l ?_ λb d=>hm b<|iH _ d;rw[e];exact h.put f i
end
theorem Sit0.tup{A:WA}(S:Sit0 H hd wd A D t r)(f:FrS (M0 hd A) H H'):Tup H H':=by
 obtain⟨⟨d,m,h1,a1⟩,⟨o,h,n⟩,⟨i,e,l⟩,w,nd,j⟩:=S;refine FrS.tup f λb a xs=>?_;simp only[M0,vh3,aT,dJ]at a;rcases a with rfl | rfl | rfl
 .rw[h1];intro z;cases z
 .rw[h];intro z;cases z
 .rw[e];intro z;cases z
abbrev IK:Stmt:=top 40
inductive UM(vs:List V)(H:Hp)(Q:VK):Prop
 | mk(hd wd:Addr)(A:WA)(D:WD)(t r:Int)(kd:Str)(lv:Nat)(h1:vs=[.ref hd,.ref wd,.str kd,.int (lv:Int)])(h2:kd∈D.names)(h3:lv<D.deeds.length)(h4:Sit0 H hd wd A D t r)(h5:0<=r)(h6:t+25*r+20<1000000)(h7:∀(x:Addr)(dn:Str)(pv gv:V)(l:Addr)(rs fs:List Addr)(H':Hp)(t' r':Int),D.deeds[lv]?=some dn->H' x=some (.tup [.str dn,pv,.ref l,gv])->H' l=some (.tup<|rs.map V.ref)->Fl (fF D) H' 4 rs fs->(↑fs:Int)+r'<=r->Sit0 H' hd wd A D t' r'->FrS (M0 hd A) H H'->0<=r'->r'<=r->t'+25*r'<=t+25*r+15->Q (.ref x) H'):UM  vs H Q
def FE:Sp:=λvs H Q _=>UM  vs H Q
abbrev zK:List Str:=[qH,qW,"_law_kind","_law_level","_law_deed_here","_law_pool","_law_wanted","_law_params","_law_env","_law_rows_here","_law_gives"]
abbrev HV:List Str:=[qH,qW,"_law_kind","_law_level"]
def zw9:cU zK HV (cG IK):=dF
def Hm(F:Fun K "_law_deed" "_law_deed" IK f fd)(T:aV P w K mg base k "_law_take" qB gB)(O:aV P w K mg base k "_law_of" qC (cZ K))(V':aV P w K mg base k "_law_variable" qA qN)(R:aV P w K mg base k "_law_rows" mB (qT 4))(ml:mg "len"=none)(bl:mg "list"=none)(mz:mg "zip"=none)(bz:mg "dict"=none)(c0:mg "tuple"=none):
  bB P w K mg base cH (k+1) f fd HV FE:=by
 refine F.ok zw9 (λvs H Q E h=>?_) λcj A outer s H vs Q E L h=>?_
 .obtain⟨hd,wd,A,D,t,r,kd,J,rfl,_⟩:=h;rfl
 obtain⟨hd,wd,WA,D,t,r,kd,J,rfl,bd,ad,S,br,ht,q⟩:=h;have G:=gG L;have bm:(["_law_want","_law_pool",qH]:List Str).Nodup:=by rfl'
 exists _,aP (sL 4 zw9.nd<|eI (cT G (pv 1) cD λ_ _=>rfl)<|pv 3)
  (aP (iW (i:=5) zw9.nd rfl (Or.inr rfl)<|bV vP (cT G (pv 1) cD λ_ _=>rfl)<|nY wD (cT G (pv 1) cD λ_ _=>rfl) mY<|nN aQ) (aP (sL 6 zw9.nd<|cT G (cT G (pv 1) cD λ_ _=>rfl) (dQ<|aC (cT G (cT G (pv 1) cD λ_ _=>rfl) (pv 2) λ_ _=>rfl)<|aC (pv 4) aF) λ_ _=>rfl) (aP (nQ (i:=7) (N':=["_law_want","_law_pool",qH]) (src:=[none,some 5,some 0]) rfl zw9.nd rfl rfl eP (gM<|pv 6) (g:=bS 0) (λ_ _ _ _=>gL 0 bm) (λ_ _ _ _=>gR) (te:=wI K "list" SI (aJ 1)<|bG (fZ gB [] E0<|bG (aJ 2)<|bG (jT (λxs H Q=>∃p ys,xs=[.ref p]/\(SqL K H p ys\/SqT K H p ys)/\Q (.int ↑ys) H)<|bG (aJ 1) aY) aY) aY) λ_ _ _ _=>hH hZ PySem.F.slot_list_pop PySem.F.type_list_pop Ge (pv 1)<|aC (aW T L rfl<|aC (pv 2)<|aC (eU nJ rfl ml jA<|aC (pv 1) aF) aF) aF) (aP (sL 8 zw9.nd<|dE (IV rfl) rfl bz (by rfl')<|aC (bV vP (cS<|aC (dQ<|aC cD<|aC (pv 2) aF) aF)<|Gz rfl rfl bl rfl mz<|aC (pv 7)<|aC (pv 6) aF) aF)
  (aP (sL 9 zw9.nd<|aW R L rfl<|aC (pv 0)<|aC (pv 1)<|aC (pv 8)<|aC (pv 3)<|aC (aW T L rfl<|aC (pv 0)<|aC aQ aF)<|aC (aW O L rfl<|aC (pv 0)<|aC (cS<|aC aQ<|aC aQ<|aC aQ<|aC aQ<|aC aQ aF) aF) aF)<|aP (sL 10 zw9.nd<|aW O L rfl<|aC (pv 0)<|aC (cS<|aC xG<|aC (aW V' L rfl<|aC (pv 0)<|aC (pv 1)<|aC (pv 8) aF)<|aC (aW V' L rfl<|aC (pv 0)<|aC (pv 1)<|aC (pv 8) aF) aF) aF)<|aP (mU G (cT G (pv 1) cD λ_ _=>rfl) (pv 4) (WT G (pv 8) (pv 10) ⟨rfl,rfl,rfl,rfl⟩) rfl)<|bE<|bU<|dQ<|aC (pv 4)<|aC (dE gA rfl c0 (by rfl')<|aC (pv 7) aF)<|aC (pv 9)<|aC (pv 10) aF)))))
 ac_rfl
 have h6:=S.ok.d6;have hU:D.U.length=9:=by unfold WD.U;rw[cY,bL,S.ok.v4,S.ok.p4]
 have as:D.deeds[J]∈D.deeds:=fT ad;have c2:fK (D.deeds.map V.str) (J:Int)=some (.str D.deeds[J]):=uI (by rw[bD,bH ad];rfl);exists _,rfl,wd,_,rfl,S.w.g.2.2.1,_,rfl,WA.deeds,_,_,_,rfl,rfl,SqL.of S.w.deeds.2,c2;have ba:D.deeds[J]?=some D.deeds[J]:=bH ad;generalize D.deeds[J]=B at as ba;refine⟨_,rfl,wd,_,rfl,S.w.g.2.2.2.2.2.2.1,_,rfl,wd,_,rfl,S.w.g.2.2.2.2.2.1,_,rfl,WA.vars,_,rfl,SqL.of S.w.vars.2,λaj b4=>?_⟩;obtain⟨ds,ed,ci,bo⟩:=NN D.vars none<|some 2;rw[ed];rw[S.ok.v4]at ci;have S1:=S.fr0<|FrS.new (S:=[]) (o:=.lst<|ds.map V.str) b4;have f1:FrS (M0 hd WA) H (aA H aj<|.lst<|ds.map V.str):=FrS.new b4;refine⟨WA.params,aj,_,_,rfl,rfl,S1.w.params.2,aE,by rw[aG,aG,S.ok.p4];exact cM (bN<|by lia),λv ac=>?_⟩;generalize aA H aj (.lst<|ds.map V.str)=H1 at S1 f1 ac;rw[<-bP];have S2:=S1.fr0<|FrS.new (S:=[]) (o:=.lst<|(D.params++ds).map V.str) ac;have f2:FrS (M0 hd WA) H1 (aA H1 v<|.lst<|(D.params++ds).map V.str):=FrS.new ac;have a4:aA H1 v (.lst<|(D.params++ds).map V.str) v=some (.lst<|(D.params++ds).map V.str):=aE;generalize aA H1 v (.lst<|(D.params++ds).map V.str)=H2 at S2 f2 a4;have ar:↑(D.params++ds)=4+↑ds:=by rw[bL,S.ok.p4]
 have a9:∀x∈D.params++ds,x∈D.U:=λx Y=>by
  unfold WD.U;rcases vj5.mp Y with h | h
  .simp[h]
  .simp[bo x h]
 generalize D.params++ds=ps at a4 ar a9;obtain⟨rt,wp,ws,e1,e2,e3,e4,e5⟩:=S.w.wl kd bd B as;refine⟨_,rfl,wd,_,rfl,S2.w.g.2.2.2.1,_,rfl,wd,_,rfl,S2.w.g.2.2.2.2.2.2.2.2.2.2,_,rfl,WA.roots,_,rfl,.inl ⟨_,Sum.inr kd,.inl S2.w.roots.2,rfl,e1.symm⟩,_,rfl,dO rfl,λpk au=>?_⟩;have S3:=S2.fr0<|FrS.new (S:=[]) (o:=.tup [V.str rt,V.str B]) au;have f3:FrS (M0 hd WA) H1 (aA H2 pk<|.tup [V.str rt,V.str B]):=f2.trans<|FrS.new au;have a6:aA H2 pk (.tup [V.str rt,V.str B]) v=some (.lst<|ps.map V.str):=by rw[aI<|aX a4 au];exact a4
 exists WA.wants,.ref wp,rfl,.inr ⟨_,[Sum.inr rt,Sum.inr B],pk,.inl S3.w.wants.2,rfl,aE,e2.symm⟩;generalize aA H2 pk (.tup [V.str rt,V.str B])=H3 at S3 f3 a6;have w3:=e3.keep<|f1.trans f3;have aw:v∉M0 hd WA:=S1.notin ac;refine⟨_,rfl,wp,rfl,⟨_,SqL.of w3.2⟩,λC ab=>?_⟩;have a8:C∉M0 hd WA:=S3.notin ab;have cd:H1 C=none:=f3.old S3.have_ ab;have ag:v≠C:=aX a6 ab;refine mI (xs:=ws.map V.str) (λi σ I=>∃(kx:Option V)(tx:Int)(u l:List Str),σ=[kx,some<|.ref v,some<|.ref hd]/\Sit0 I hd wd WA D tx r/\FrS (M0 hd WA) H1 I/\tx<=t+i/\I v=some (.lst<|u.map V.str)/\↑u+i=↑ps/\(∀x∈u,x∈D.U)/\I C=some (.lst<|l.map V.str)/\↑l=i/\∀x∈l,x∈D.U)
  ⟨_,t,ps,[],rfl,S3.fr0<|FrS.new ab,f3.trans<|FrS.new ab,by lia,by rw[aI ag];exact a6,by lia,a9,aE,rfl,by simp⟩ ?_ ?_ ?_
 .rintro i σ I hi ⟨_,_,_,_,_,_,fx,_⟩;exact SqL.of (e3.keep<|f1.trans fx).2
 .rintro i x σ I Y ⟨kx,tx,u,l,rfl,Sx,fx,co,ak,c4,b1,bq,af,an⟩;obtain⟨hi,_⟩:=vg4.mp Y;rw[aG]at hi;obtain⟨d,m,W⟩:=Sx.hand;have bj:v≠hd:=λz=>aw (by rw[z];simp)
  refine⟨_,rfl,.inl ⟨rfl,_,SqL.of ak⟩,_,rfl,_,rfl,v,_,rfl,.inl<|SqL.of ak,hd,d,m,tx,r,_,rfl,W,by lia,by rw[aG];lia,by rw[aG];lia,λy d' m' ty y0 y1 c e=>?_⟩;rw[aG]at y1;have Sy:=Sx.setHand (r':=r) c;have fy:=fx.put' (a:=hd) (o:=hl d' m' ty r) (by trivial);have b3:aA I hd (hl d' m' ty r) v=some (.lst<|u.map V.str):=by rw[aI bj];exact ak
  have be:aA I hd (hl d' m' ty r) C=some (.lst<|l.map V.str):=by rw[aI λz=>a8<|by rw[z];simp];exact bq
  generalize aA I hd (hl d' m' ty r)=Hy at Sy fy b3 be;have ay:y.toNat<↑u:=by lia
  have bt:seqIndex? y ↑(u.map V.str)=some y.toNat:=by
   unfold seqIndex?;rw[aG];have g1:¬y<0:=by lia
   simp only[g1,gI];rw[aR<|by simp;lia]
  refine⟨v,_,y,y.toNat,.str u[y.toNat],rfl,rfl,b3,by lia,by lia,bt,by rw[bD,bH ay];rfl,?_⟩;have bx:(u.map V.str).eraseIdx y.toNat=(u.eraseIdx y.toNat).map V.str:=by rw[List.eraseIdx_eq_take_drop_succ,List.eraseIdx_eq_take_drop_succ,bP,oF,tN]
  rw[bx];have S7:=Sit0.own (o:=.lst<|(u.eraseIdx y.toNat).map V.str) S1 Sy fy ac;have bn:aA Hy v (.lst<|(u.eraseIdx y.toNat).map V.str) C=some (.lst<|l.map V.str):=by rw[aI ag.symm];exact be
  have S8:=Sit0.own (o:=.lst<|l.map V.str++[V.str u[y.toNat]]) S1 S7.1 S7.2 cd;refine⟨_,bn,by rw[aG];exact bN (by lia),_,ty,u.eraseIdx y.toNat,l++[u[y.toNat]],rfl,S8.1,S8.2,by lia,by rw[aI ag];exact aE,?_,λx Y=>b1 x<|List.mem_of_mem_eraseIdx Y,by rw[aE,bP];rfl,by rw[bL,af];rfl,λx Y=>?_⟩
  .rw[MT ay];lia
  .rcases vj5.mp Y with h | h
   .exact an x h
   .rw[vh7.mp h];exact b1 _<|fT ay
 rintro σ N ⟨kx,t4,u,l,rfl,S4,f4,c8,cn,_,_,ah,af,an⟩;rw[aG]at c8 af;have bf:FrS (M0 hd WA) H N:=f1.trans f4;have w4:=e3.keep bf;refine⟨_,rfl,dO rfl,λpt bi=>⟨dO rfl,λpo b9=>?_⟩⟩;have f5:FrS [] N (aA (aA N pt<|.tup [V.str "own",V.str kd]) po<|.lst [V.ref pt]):=(FrS.new bi).trans<|FrS.new b9;have aa:aA (aA N pt<|.tup [V.str "own",V.str kd]) po (.lst [V.ref pt]) po=some (.lst [V.ref pt]):=aE;have a5:aA (aA N pt<|.tup [V.str "own",V.str kd]) po (.lst [V.ref pt]) pt=some (.tup [V.str "own",V.str kd]):=by rw[aI<|aX (o:=.tup [V.str "own",V.str kd]) aE b9];exact aE
 generalize aA (aA N pt<|.tup [V.str "own",V.str kd]) po (.lst [V.ref pt])=H5 at f5 aa a5;refine⟨_,rfl,_,rfl,C,wp,l.map V.str,ws.map V.str,rfl,SqL.of<|f5 _ _ (by trivial) ah,SqL.of<|f5 _ _ (by trivial) w4.2,by rw[aG,aG];exact af,λzl ts H6 fz ck bw bk ch=>?_⟩;have f6:FrS [] N H6:=f5.trans λb o _ e=>fz b o e;rw[aG]at bk;refine⟨po,zl,_,_,rfl,rfl,fz _ _ aa,bw,by rw[aG];show 1+↑ts<=sizeLine;exact cM (bN<|by lia),λpc av=>?_⟩;have f7:FrS [] N (aA H6 pc<|.lst<|[V.ref pt]++ts.map V.ref):=f6.trans<|FrS.new av;have S7:=S4.fr0 f7;refine⟨pc,pt::ts,(Sum.inr "own",.str kd)::(l.zip ws).map (λp=>((Sum.inr p.1:aL),V.str p.2)),rfl,SqL.of aE,?_,?_,λj t' Z b7 a7=>?_,λen ai=>?_⟩
 .rw[cY,cY,aG,wW];lia
 .rw[cY,aG,wW];exact bN (by lia)
 .cases j with
  | zero=>
   have a1:pt=t':=by simpa using b7
   have a2:((Sum.inr "own":aL),V.str kd)=Z:=by simpa using a7
   subst a1 a2;exact SqT.of (by rw[aI<|aX (fz _ _ a5) av];exact fz _ _ a5)
  | succ j=>
   have a1:ts[j]?=some t':=by simpa using b7
   have a2:((l.zip ws).map λp=>((Sum.inr p.1:aL),V.str p.2))[j]?=some Z:=by simpa using a7
   obtain⟨x,y,g1,g2,g3⟩:=ch j t' a1;rw[bD]at g1 g2 a2;obtain⟨x',c1,rfl⟩:=vg8.mp g1;obtain⟨y',bv,rfl⟩:=vg8.mp g2;obtain⟨p,hp,rfl⟩:=vg8.mp a2;rw[ub2]at hp;obtain⟨z1,z2⟩:=hp;rw[c1]at z1;rw[bv]at z2;cases z1;cases z2;exact SqT.of (by rw[aI<|aX g3 av];exact g3)
 have b0:C≠en:=aX (f7 _ _ (by trivial) ah) ai;have a7:DOk D.U D.names (dX []<|(Sum.inr "own",.str kd)::(l.zip ws).map (λp=>((Sum.inr p.1:aL),V.str p.2))):=by
  refine DOk.merge _ DOk.nil λZ a7=>?_;rcases vh3.mp a7 with rfl | h
  .exact⟨"own",by unfold WD.U;simp,rfl,.inr ⟨kd,bd,rfl⟩⟩
  .obtain⟨p,hp,rfl⟩:=vh6.mp h;have:=xC hp;exact⟨p.1,an _ this.1,rfl,.inr ⟨p.2,e5 _ this.2,rfl⟩⟩
 have S8:=S7.open ai a7;have b2:Stt (Ms hd en WA) (aA (aA H6 pc<|.lst<|[V.ref pt]++ts.map V.ref) en<|.dK<|dX []<|(Sum.inr "own",.str kd)::(l.zip ws).map (λp=>((Sum.inr p.1:aL),V.str p.2))) C (.lst<|l.map V.str):=by
  refine⟨λz=>?_,by rw[aI b0];exact f7 _ _ (by trivial) ah⟩;simp only[Ms,vh3,aT,dJ]at z;simp only[M0,vh3,aT,dJ,not_or]at a8;rcases z with z | z | z | z
  .exact a8.1 z
  .exact b0 z
  .exact a8.2.1 z
  .exact a8.2.2 z
 have b8:∀Hf:Hp,FrS (Ms hd en WA) (aA (aA H6 pc<|.lst<|[V.ref pt]++ts.map V.ref) en<|.dK<|dX []<|(Sum.inr "own",.str kd)::(l.zip ws).map (λp=>((Sum.inr p.1:aL),V.str p.2))) Hf->FrS (M0 hd WA) H Hf:=λHf ff=>(bf.trans<|f7.mono<|by trivial).trans<|FrS.close ai ff
 generalize aA (aA H6 pc<|.lst<|[V.ref pt]++ts.map V.ref) en (.dK<|dX []<|(Sum.inr "own",.str kd)::(l.zip ws).map (λp=>((Sum.inr p.1:aL),V.str p.2)))=H8 at S8 b2 b8;obtain⟨d,m,W⟩:=S8.hand;refine⟨_,rfl,_,rfl,_,rfl,_,rfl,_,rfl,hd,d,m,t4,r,3,rfl,W,by lia,by decide,by decide,λx d9 m9 t9 x0 x1 c9 e9=>?_⟩;obtain⟨dp,rfl⟩:∃dp:Nat,x=(dp:Int):=⟨x.toNat,by lia⟩;have S9:=S8.setHand (r':=r) c9;have f9:FrS (Ms hd en WA) H8 (aA H8 hd<|hl d9 m9 t9 r):=FrS.chg (by trivial);refine⟨_,rfl,dO rfl,λpi am=>?_⟩;have Sa:=S9.fr0<|FrS.new (S:=[]) (o:=.lst [V.int 1,V.int 2,V.int 3,V.int 4,V.int 6]) am;have fa:=f9.trans<|FrS.new (o:=.lst [V.int 1,V.int 2,V.int 3,V.int 4,V.int 6]) am;have ao:pi≠hd:=λz=>S9.notin am (by rw[z];simp)
 obtain⟨d,m,W⟩:=Sa.hand;refine⟨hd,pi,d,m,t9,r,_,rfl,W,by lia,ao,SqL.of aE,by simp,by show 5<1000;decide,λy db mb tb hy cb eb=>?_⟩;obtain⟨mo,rfl,cf,bu⟩:∃mo:Int,y=.int mo/\0<=mo/\mo<=100:=by
  simp only[vh3,aT,dJ]at hy;rcases hy with rfl | rfl | rfl | rfl | rfl
  .exact⟨1,rfl,by decide,by decide⟩
  .exact⟨2,rfl,by decide,by decide⟩
  .exact⟨3,rfl,by decide,by decide⟩
  .exact⟨4,rfl,by decide,by decide⟩
  .exact⟨6,rfl,by decide,by decide⟩
 have Sb:=Sa.setHand (r':=r) cb;have fb:=fa.put' (a:=hd) (o:=hl db mb tb r) (by trivial);refine⟨hd,en,wd,WA,D,tb,r,(J:Int),mo,dp,rfl,by lia,cf,bu,Sb,br,by lia,λrv c7 c5 Hc tc M cc bg ad Sc fc bs c3 cp=>?_⟩;have bh:=fb.trans fc;refine⟨_,rfl,_,rfl,_,rfl,_,rfl,hd,en,wd,WA,D,tc,M,rfl,Sc,by lia,λx1 Hd td Sd b5 cm _=>?_⟩;refine⟨_,rfl,_,rfl,_,rfl,hd,en,wd,WA,D,td,M,rfl,Sd,by lia,λx2 He te Se fe cl _=>?_⟩;have c6:=(bh.trans b5).trans fe;refine⟨dO rfl,λpg ae=>?_⟩;have Sf:=Se.fr0<|FrS.new (S:=[]) (o:=.lst [V.non,V.str x1,V.str x2]) ae;have ff:=c6.trans<|FrS.new (o:=.lst [V.non,V.str x1,V.str x2]) ae;have al:pg≠hd:=λz=>Se.notin ae (by rw[z];simp)
 obtain⟨d,m,W⟩:=Sf.hand;refine⟨hd,pg,d,m,te,M,_,rfl,W,by lia,al,SqL.of aE,by simp,by show 3<1000;decide,λgv dg ap tg b6 cg eg=>?_⟩;have Sg:=Sf.setHand (r':=M) cg;have fg:=ff.put' (a:=hd) (o:=hl dg ap tg M) (by trivial);obtain⟨Z,a3,hk⟩:=Sg.env;obtain⟨kt,ca,bc⟩:=Sg.told;obtain⟨X,az,bp⟩:∃X:Option V,nP (aA (aA He pg<|.lst [V.non,V.str x1,V.str x2]) hd<|hl dg ap tg M) en gv X/\(X.getD .non=.non\/∃n∈D.names,X.getD .non=.str n):=by
  simp only[vh3,aT,dJ]at b6;rcases b6 with rfl | rfl | rfl
  .exact⟨none,⟨Z,.inl a3,.inl ⟨rfl,rfl⟩⟩,.inl rfl⟩
  .exact⟨_,⟨Z,.inl a3,.inr ⟨Sum.inr x1,rfl,rfl⟩⟩,hk.get _⟩
  .exact⟨_,⟨Z,.inl a3,.inr ⟨Sum.inr x2,rfl,rfl⟩⟩,hk.get _⟩
 exists _,rfl,en,rfl,.inl ⟨_,.inl a3⟩,_,rfl,X,az,_,rfl,wd,_,rfl,Sg.w.g.2.2.2.2.2.2.2.2.1,_,rfl,WA.told,_,rfl,DPut.k (k:=(Sum.inr B:aL)) ca<|bN (by have:=bc.len;lia);have Sh:=Sg.setTold<|bc.put as bp;have fh:=fg.put' (a:=WA.told) (o:=.dK<|aU kt (Sum.inr B)<|X.getD .non) (by trivial);have ce:=b2.keep fh;refine⟨_,rfl,_,rfl,C,_,rfl,.inl ⟨SqL.of ce.2,λpq ax=>?_⟩⟩;refine⟨_,rfl,_,rfl,dO rfl,λpr aq=>?_⟩;have fk:FrS (Ms hd en WA) Hc (aA (aA (aA He pg<|.lst [V.non,V.str x1,V.str x2]) hd<|hl dg ap tg M) WA.told<|.dK<|aU kt (Sum.inr B)<|X.getD .non):=(((b5.trans fe).trans<|FrS.new ae).put'<|.head _).put'<|.tail _<|.tail _<|.head _;have bb:=(Sc.tup fk).trans<|(Tup.new ax).trans<|Tup.new (o:=.tup [V.str B,V.ref pq,V.ref rv,gv]) aq;exact q pr B _ gv rv c7 c5 _ tg M ba aE (bb _ _ cc) (bg.keep bb) ad ((Sh.fr0<|FrS.new ax).fr0<|FrS.new aq).close (b8 _<|(fh.trans<|FrS.new ax).trans<|FrS.new aq) bs c3 (by lia)
def Dd{K:Fg}{a:Addr}{xs:List V}{g:TG}{tb:TS}{D:dU}{σ:St}{H:Hp}(b:Nat->St->Hp->Prop)(n:b 0 σ H)(hl:∀i σ H,i<=↑xs->b i σ H->SqL K H a xs)
  (j:∀i x p σ H,xs[i]?=some x->b i σ H->H p=none->g (.ref p) σ (aA H p<|.tup [.int (i:Nat),x]) λσ2 H2=>tb {D with nx:=b<|i+1,ct:=b<|i+1,bk:=D.nx} σ2 H2) (hd:∀σ H,b ↑xs σ H->D.nx σ H):
  ∃W:Nat->Nat->St->Hp->Prop,(∃m,W 0 m σ H)/\∀i m σ H,W i m σ H->
   ((xU K a).stop i H/\D.nx σ H)\/((xU K a).go i H/\∃N:St->Hp->Prop,(∀σ' H',N σ' H'->∃m',m'<m/\W (i+1) m' σ' H')/\∀x H',(xU K a).yld i H x H'->g x σ H' λσ2 H2=>tb {D with nx:=N,ct:=N,bk:=D.nx} σ2 H2):=by
 exists λi m σ H=>m=↑xs-i/\i<=↑xs/\b i σ H,⟨↑xs,by simp,bO _,n⟩;rintro i m σ H ⟨rfl,hi,p⟩;have q:=hl i σ H hi p
 by_cases d:i<↑xs
 .refine .inr ⟨⟨xs,xs[i],q,by simp[d]⟩,b<|i+1,λσ' H' h=>⟨↑xs-(i+1),by lia,rfl,d,h⟩,λx H' y=>?_⟩;obtain⟨p2,l,a1,rfl,rfl,f⟩:=y;exact j i l p2 σ _ (f xs q) p a1
 .have e:i=↑xs:=by lia
  subst e;exact .inl ⟨⟨xs,q,aO _⟩,hd σ H p⟩
inductive wQ(H:Hp)(hd pn pt pl:Addr)(n:Nat)(way t r:Int)(ws:List Str)(i:Nat)(σ:St)(Hx:Hp):Prop
 | mk(kx nx ex:Option V)(dx mx tx:Int)(tr:Tr)(ts:List Addr)(late:List Str)(h1:σ=[some<|.ref hd,some<|.int (n:Int),some<|.ref pn,some<|.int way,some<|.ref pt,some<|.ref pl,kx,nx,ex])
   (h2:FrS [hd] H Hx) (h3:Hand Hx hd dx mx tx r) (h4:tx<=t+12+3*(i:Int)) (h5:Hx pn=some (.lst<|ws.map V.str)) (h6:Hx pt=some (.lst<|ts.map V.ref)) (h7:Hx pl=some (.lst<|late.map V.str)) (h8:↑ts=i) (h9:tr.map (·.1)=ws.take i) (h10:TrOk tr)
   (h11:∀(j:Nat) t x,ts[j]?=some t->tr[j]?=some x->Hx t=some (.tup [.str x.1,bF x.2])) (h12:↑late<=i) (h13:∀x∈late,∃j,1<=j/\j<i/\ws[j]?=some x) (h14:CL tr late):wQ H hd pn pt pl n way t r ws i σ Hx
abbrev JU:Stmt:=top 28
inductive UV(vs:List V)(H:Hp)(Q:VK):Prop
 | mk(hd:Addr)(d m t r:Int)(h1:vs=[.ref hd])(h2:Hand H hd d m t r)(h3:t+100<1000000)(h4:∀(a tp lp:Addr)(ts:List Addr)(tr:Tr)(late:List Str)(d' m' t':Int)(H':Hp),FrS [hd] H H'->Hand H' hd d' m' t' r->t'<=t+60->H' a=some (.tup [.ref tp,.ref lp])->H tp=none->H lp=none->H' tp=some (.lst<|ts.map V.ref)->↑ts=↑tr->(∀(j:Nat) t x,ts[j]?=some t->tr[j]?=some x->H' t=some (.tup [.str x.1,bF x.2]))->TrOk tr->tr≠[]->↑tr<=12->H' lp=some (.lst<|late.map V.str)->CL tr late->↑late<=12->(∃x∈tr.map (·.1),x∉late)->Q (.ref a) H'):UV  vs H Q
def LV:Sp:=λvs H Q _=>UV  vs H Q
abbrev BL:List Str:=[qH,"_law_many","_law_names","_law_way","_law_tree_here","_law_late","_law_k","_law_name","_law_elder"]
def zp7:cU BL [qH] (cG JU):=dF
def Az(F:Fun K "_law_tree" "_law_tree" JU f fd)(T:aV P w K mg base k "_law_take" qB gB)(O:aV P w K mg base k "_law_of" qC (cZ K))(W:aV P w K mg base k "_law_words" qB FB)(ml:mg "len"=none)(me:mg "enumerate"=none):bB P w K mg base cH (k+1) f fd [qH] LV:=by
 refine F.ok zp7 (λvs H Q E h=>?_) λcw A outer s H vs Q E hr h=>?_
 .obtain⟨hd,d,m,t,r,rfl,_⟩:=h;rfl
 obtain⟨hd,d,m,t,r,rfl,hh,ht,q⟩:=h;have hu:=gG hr;exists _,aP (sL 1 zp7.nd<|aW O hr rfl<|aC (pv 0)<|aC (cS<|dL<|dL<|dL<|dL<|dL<|dL<|dL<|dL aF) aF)
  (aP (sL 2 zp7.nd<|aW W hr rfl<|aC (pv 0)<|aC (pv 1) aF)<|aP (sL 3 zp7.nd<|aW T hr rfl<|aC (pv 0)<|aC aQ aF)<|aP (sL 4 zp7.nd<|cS aF)<|aP (sL 5 zp7.nd<|cS aF)<|aP (fQ eW rfl (YF rfl me<|aC (pv 2) aF) (fG (n:=2) rfl<|bR (gL 6 zp7.nd)<|bR (gL 7 zp7.nd) fE)<|aP (sL 8 zp7.nd xG)<|aP (dS (PW.pt<|kL (cB mR (pv 6) aQ<|cO _)<|lW<|cB mR (aW T hr rfl<|aC (pv 0)<|aC aQ aF) aQ<|cO _) (bE<|sL 8 zp7.nd<|eI (pv 2)<|eI (cS<|aC (bV pH (pv 6) aQ)<|aC aQ<|aC (bV zJ (bV pH (pv 6) aQ) aQ)<|aC (aW T hr rfl<|aC (pv 0)<|aC (pv 6) aF) aF)<|pv 3) dW)<|aP (dS (PW.pt<|kL (cB mJ (pv 8) (pv 5) rfl)<|lW<|cB iL (eU nJ rfl ml jA<|aC (pv 5) aF) aQ<|cO _) (bE<|sL 8 zp7.nd xG) dW)<|aP (dS (PW.pt<|CF (cB mJ (pv 8) (pv 5) rfl)<|BW<|PW.pt<|kL (cB vL (eU nJ rfl ml jA<|aC (pv 5) aF) aQ<|cO _)<|kL (cB mR (pv 6) aQ<|cO _)<|lW<|cB iL (aW T hr rfl<|aC (pv 0)<|aC aQ aF) aQ<|cO _) (bE<|gS<|hH hZ iX iN iK (pv 5)<|aC (pv 7) aF) dW)<|bE<|gS<|hH hZ iX iN iK (pv 4)<|aC (dQ<|aC (pv 7)<|aC (pv 8) aF) aF)<|bE<|bU<|dQ<|aC (pv 4)<|aC (pv 5) aF)
 ac_rfl
 refine⟨_,rfl,dO rfl,λp0 bf=>?_⟩;have ct:p0≠hd:=λz=>by rw[z,hh.1]at bf;cases bf
 have cj:Hand (aA H p0<|.lst [V.int 1,V.int 2,V.int 3,V.int 4,V.int 5,V.int 6,V.int 8,V.int 12]) hd d m t r:=hh.new bf;have f0:FrS [hd] H (aA H p0<|.lst [V.int 1,V.int 2,V.int 3,V.int 4,V.int 5,V.int 6,V.int 8,V.int 12]):=FrS.new bf;have ce:aA H p0 (.lst [V.int 1,V.int 2,V.int 3,V.int 4,V.int 5,V.int 6,V.int 8,V.int 12]) p0=some (.lst [V.int 1,V.int 2,V.int 3,V.int 4,V.int 5,V.int 6,V.int 8,V.int 12]):=aE;generalize aA H p0 (.lst [V.int 1,V.int 2,V.int 3,V.int 4,V.int 5,V.int 6,V.int 8,V.int 12])=H0 at cj f0 ce;refine⟨hd,p0,d,m,t,r,_,rfl,cj,by lia,ct,SqL.of ce,by simp,by show 8<1000;decide,λx d1 m1 t1 u c1 e1=>?_⟩;obtain⟨n,rfl,n1,cl⟩:∃n:Nat,x=.int (n:Int)/\1<=n/\n<=12:=by
  simp only[vh3,aT,dJ]at u;rcases u with rfl | rfl | rfl | rfl | rfl | rfl | rfl | rfl
  .exact⟨1,rfl,by decide,by decide⟩
  .exact⟨2,rfl,by decide,by decide⟩
  .exact⟨3,rfl,by decide,by decide⟩
  .exact⟨4,rfl,by decide,by decide⟩
  .exact⟨5,rfl,by decide,by decide⟩
  .exact⟨6,rfl,by decide,by decide⟩
  .exact⟨8,rfl,by decide,by decide⟩
  .exact⟨12,rfl,by decide,by decide⟩
 have f1:FrS [hd] H (aA H0 hd<|hl d1 m1 t1 r):=f0.put' (by trivial);have ch:Hand (aA H0 hd<|hl d1 m1 t1 r) hd d1 m1 t1 r:=Hand.at c1;generalize aA H0 hd (hl d1 m1 t1 r)=H1 at f1 ch;refine⟨_,rfl,_,rfl,hd,d1,m1,t1,r,n,rfl,ch,by lia,cl,λpn ws d2 m2 t2 H2 f2 cf cy cz b6 d4 c9=>?_⟩;have cs:=f1.trans f2;refine⟨_,rfl,hd,d2,m2,t2,r,4,rfl,cf,by lia,by decide,by decide,λway d3 m3 t3 w0 w1 c3 e3=>?_⟩;have bt:FrS [hd] H (aA H2 hd<|hl d3 m3 t3 r):=cs.put' (by trivial);have bq:Hand (aA H2 hd<|hl d3 m3 t3 r) hd d3 m3 t3 r:=Hand.at c3;have ag:aA H2 hd (hl d3 m3 t3 r) pn=some (.lst<|ws.map V.str):=by rw[aI<|iS b6 cf];exact b6
 generalize aA H2 hd (hl d3 m3 t3 r)=H3 at bt bq ag;refine⟨bO _,λpt b5=>?_⟩;have bw:=bq.new (o:=.lst []) b5;have c7:FrS [hd] H (aA H3 pt<|.lst []):=bt.trans<|FrS.new b5;have ae:aA H3 pt (.lst []) pn=some (.lst<|ws.map V.str):=by rw[aI<|aX ag b5];exact ag
 have am:aA H3 pt (.lst []) pt=some (.lst []):=aE;have ai:H pt=none:=oQ bt bq b5;have c5:pn≠pt:=aX ag b5;generalize aA H3 pt (.lst [])=H4 at bw c7 ae am;refine⟨bO _,λB b1=>?_⟩;have bk:=bw.new (o:=.lst []) b1;have cc:FrS [hd] H (aA H4 B<|.lst []):=c7.trans<|FrS.new b1;have aj:aA H4 B (.lst []) pn=some (.lst<|ws.map V.str):=by rw[aI<|aX ae b1];exact ae
 have bc:aA H4 B (.lst []) pt=some (.lst []):=by rw[aI<|aX am b1];exact am
 have b8:aA H4 B (.lst []) B=some (.lst []):=aE;have an:H B=none:=oQ c7 bw b1;have bs:pn≠B:=aX ae b1;have b3:pt≠B:=aX am b1;generalize aA H4 B (.lst [])=H5 at bk cc aj bc b8;have ax:pn≠hd:=iS aj bk;have aq:pt≠hd:=λz=>by rw[z,hh.1]at ai;cases ai
 have ah:B≠hd:=λz=>by rw[z,hh.1]at an;cases an
 exists _,rfl,pn,_,rfl,SqL.of aj;refine Dd (xs:=ws.map V.str) (wQ H hd pn pt B n way t r ws)
  ⟨_,_,_,d3,m3,t3,[],[],[],rfl,cc,bk,by lia,aj,bc,b8,rfl,rfl,TrOk.nil,(λj t x h=>by simp at h),by simp,by simp,λ_ h=>nomatch h⟩ ?_ ?_ ?_
 .rintro i σ Hx hi ⟨_,_,_,_,_,_,_,_,_,_,_,_,_,ad,_⟩;exact SqL.of ad
 .rintro i x p σ Hx u ⟨kx,nx,ex,dx,mx,tx,tr,ts,l,rfl,fx,bi,cg,ad,az,b0,bj,ap,hok,bz,ci,b9,bg⟩ hp;obtain⟨hi,_⟩:=vg4.mp u;rw[aG]at hi;rw[bD,bH hi]at u;cases u;have ca:ws[i]?=some ws[i]:=bH hi;exists p,_,rfl,SqT.of aE,rfl,_,_,rfl,_,_,rfl,rfl;have keep:∀b o,Hx b=some o->aA Hx p (.tup [V.int (i:Nat),V.str ws[i]]) b=some o:=λb o e=>by rw[aI<|aX e hp];exact e
  have bh:FrS [hd] H (aA Hx p<|.tup [V.int (i:Nat),V.str ws[i]]):=fx.trans<|FrS.new hp;have ab:Hand (aA Hx p<|.tup [V.int (i:Nat),V.str ws[i]]) hd dx mx tx r:=bi.new hp;have ao:∀(j:Nat) t x,ts[j]?=some t->tr[j]?=some x->aA Hx p (.tup [V.int (i:Nat),V.str ws[i]]) t=some (.tup [.str x.1,bF x.2]):=λj t x a b=>keep _ _<|bz j t x a b;have af:=keep _ _ ad;have ar:=keep _ _ az;have ak:=keep _ _ b0;generalize aA Hx p (.tup [V.int (i:Nat),V.str ws[i]])=Hy at bh ab ao af ar ak;have b7:ws[i]∉tr.map (·.1):=by
   rw[ap];intro hm;obtain⟨j,hj,ej⟩:=mP hm;rw[dI]at hj;rw[List.getElem_take]at ej;have:=(yZ c9).mp ej;lia
  have cb:∀(e:Option Str)(a6:List Str)(v:Hp)(X N L:Int),(∀x,e=some x->x∈ws.take i)->FrS [hd] H v->Hand v hd X N L r->L<=t+12+3*((i+1:Nat):Int)->v pn=some (.lst<|ws.map V.str)->v pt=some (.lst<|ts.map V.ref)->v B=some (.lst<|a6.map V.str)->
    (∀(j:Nat) t x,ts[j]?=some t->tr[j]?=some x->v t=some (.tup [.str x.1,bF x.2]))->↑a6<=i+1->(∀x∈a6,∃j,1<=j/\j<i+1/\ws[j]?=some x)->CL (tr++[(ws[i],e)]) a6->
    AS (wI K "list" xB (aJ 4)<|bG (gD<|bG (aJ 7)<|bG (aJ 8) aY) aY)
    ⟨wQ H hd pn pt B n way t r ws<|i+1,λ_ _=>False,λ_ _=>False,λ_ _=>False⟩
    [some<|.ref hd,some<|.int (n:Int),some<|.ref pn,some<|.int way,some<|.ref pt,some<|.ref B,some<|.int (i:Nat),some<|.str ws[i],some<|bF e] v:=by
   intro e a6 v X N L he fz ac bm a7 a5 M a8 cq c8 bu;refine⟨_,rfl,.inl ⟨rfl,_,SqL.of a5⟩,_,rfl,_,rfl,dO rfl,λpp as=>?_⟩;have ba:aA v pp (.tup [V.str ws[i],bF e]) pt=some (.lst<|ts.map V.ref):=by rw[aI<|aX a5 as];exact a5
   have bp:pp≠pt:=λz=>by rw[z,a5]at as;cases as
   refine⟨pt,_,_,rfl,rfl,ba,by rw[aG];exact bN (by lia),_,_,_,X,N,L,tr++[(ws[i],e)],ts++[pp],a6,rfl,(fz.trans<|FrS.new as).put ai,?_,bm,?_,?_,?_,?_,?_,?_,?_,cq,c8,bu⟩
   .exact⟨by rw[aI aq.symm,aI<|aX ac.1 as];exact ac.1,ac.2⟩
   .rw[aI c5,aI<|aX a7 as];exact a7
   .rw[aE,bP];rfl
   .rw[aI b3.symm,aI<|aX M as];exact M
   .rw[bL,bj];rfl
   .rw[bP,ap,dG,ca];rfl
   .exact hok.snoc b7 λx u=>by rw[ap];exact he x u
   .intro j t' x au u;have bv:↑tr=↑ts:=by
     have:=cR List.length ap;rw[aG,dI]at this;lia
    by_cases hj:j<↑ts
    .rw[nW hj]at au;rw[nW<|by lia]at u;have J:=a8 j t' x au u;have h4:aA v pp (.tup [V.str ws[i],bF e]) t'=some (.tup [.str x.1,bF x.2]):=by rw[aI<|aX J as];exact J
     rw[aI λz=>by rw[z,ba]at h4;cases h4];exact h4
    .rw[oG<|by lia]at au;rw[oG (by lia),bv]at u;have h0:j-↑ts=0:=by
      cases hz:j-↑ts with
      | zero=>rfl
      | succ k=>rw[hz]at au;simp at au
     rw[h0]at au u;simp only[FY,AX]at au u;subst au u;rw[aI bp];exact aE
  have c6:∀(e:Option Str)(v:Hp)(X N L:Int),(∀x,e=some x->x∈ws.take i)->(i=0->e=none)->FrS [hd] H v->Hand v hd X N L r->L<=t+14+3*(i:Int)->v pn=some (.lst<|ws.map V.str)->v pt=some (.lst<|ts.map V.ref)->v B=some (.lst<|l.map V.str)->
    (∀(j:Nat) t x,ts[j]?=some t->tr[j]?=some x->v t=some (.tup [.str x.1,bF x.2]))->
    gT (iO (AA (gH<|cJ (iG K false) (aJ 8)<|aJ 5)<|iU (gH<|cJ (iT λi j=>.bl<|decide<|i<j) (jT (λxs H Q=>∃p ys,xs=[.ref p]/\(SqL K H p ys\/SqT K H p ys)/\Q (.int ↑ys) H)<|bG (aJ 5) aY)<|tC<|.int 6)<|iU (gH<|cJ (iT λi j=>.bl<|decide<|j<i) (aJ 6)<|tC<|.int 0)<|gH<|cJ nU (fZ gB [] E0<|bG (aJ 0)<|bG (tC<|.int 4) aY)<|tC<|.int 0) (AS<|wI K "list" xB (aJ 5)<|bG (aJ 7) aY) sP)
    (AS<|wI K "list" xB (aJ 4)<|bG (gD<|bG (aJ 7)<|bG (aJ 8) aY) aY)
    ⟨wQ H hd pn pt B n way t r ws<|i+1,λ_ _=>False,λ_ _=>False,λ_ _=>False⟩
    [some<|.ref hd,some<|.int (n:Int),some<|.ref pn,some<|.int way,some<|.ref pt,some<|.ref B,some<|.int (i:Nat),some<|.str ws[i],some<|bF e] v:=by
   intro e v X N L he be fz ac bm a7 a5 M a8;have fl:lI (bF e)=true:=by cases e <;> rfl
   have app:1<=i->∀(I:Hp)(G C tv:Int),FrS [hd] H I->Hand I hd G C tv r->tv<=t+15+3*(i:Int)->I pn=some (.lst<|ws.map V.str)->I pt=some (.lst<|ts.map V.ref)->I B=some (.lst<|l.map V.str)->
     (∀(j:Nat) t x,ts[j]?=some t->tr[j]?=some x->I t=some (.tup [.str x.1,bF x.2]))->_:=λh1 I G C tv fv Y ck a3 a4 a1 a2=>
    cb e (l++[ws[i]]) (aA I B<|.lst<|l.map V.str++[V.str ws[i]]) G C tv he (fv.put an) ⟨by rw[aI ah.symm];exact Y.1,Y.2⟩ (by lia) (by rw[aI bs];exact a3) (by rw[aI b3];exact a4) (by rw[aE,bP];rfl)
     (λj t x a b=>by have J:=a2 j t x a b;rw[aI λz=>by rw[z,a1]at J;cases J];exact J) (by rw[bL,dY];lia)
     (λx u=>by
      rcases vj5.mp u with h | h
      .obtain⟨j,j1,j2,j3⟩:=b9 x h;exact⟨j,j1,by lia,j3⟩
      .rw[vh7.mp h];exact⟨i,h1,by lia,ca⟩)
     (λx u Z e1 e2=>by
      rcases vj5.mp u with u | u
      .rcases vj5.mp e2 with e2 | e2
       .exact mQ _<|bg x u Z e1 e2
       .exact absurd (hok.elder u e1) (by rw[vh7.mp e2];exact b7)
      .rw[vh7.mp u];exact fR _<|.head _)
   have bx:(∀Z,e=some Z->Z∉l)->∀(I:Hp)(G C tv:Int),FrS [hd] H I->Hand I hd G C tv r->tv<=t+15+3*(i:Int)->I pn=some (.lst<|ws.map V.str)->I pt=some (.lst<|ts.map V.ref)->I B=some (.lst<|l.map V.str)->
     (∀(j:Nat) t x,ts[j]?=some t->tr[j]?=some x->I t=some (.tup [.str x.1,bF x.2]))->_:=λb4 I G C tv fv Y ck a3 a4 a1 a2=>
    cb e l I G C tv he fv Y (by lia) a3 a4 a1 a2 (by lia) (λx u=>by
      obtain⟨j,j1,j2,j3⟩:=b9 x u;exact⟨j,j1,by lia,j3⟩) (λx u Z e1 e2=>by
      rcases vj5.mp u with u | u
      .exact bg x u Z e1 e2
      .rw[vh7.mp u]at e1;exact absurd e2<|b4 Z e1)
   exists _,rfl,_,rfl,B,_,rfl,.inl<|SqL.of M,fl,jB _,_,rfl;refine bJ (λc=>?_) λc=>?_
   .have h1:1<=i:=by
     rcases Nat.eq_zero_or_pos i with h | h
     .exfalso;rw[be h]at c;have:l=[]:=vt4.mp (by lia);rw[this]at c;cases c
     .exact h
    exact⟨_,rfl,.inl ⟨rfl,_,SqL.of M⟩,_,rfl,B,_,_,rfl,rfl,M,by rw[aG];exact bN (by lia),app h1 v X N L fz ac (by lia) a7 a5 M a8⟩
   .have b4:∀Z,e=some Z->Z∉l:=λZ z hm=>c (by
     rw[z];show hX (.str Z) (l.map V.str)=true;rw[kJ];exact cI hm)
    exists _,rfl,B,_,rfl,.inl<|SqL.of M,_,_,rfl,rfl,_,rfl;refine bJ (λc2=>?_) λc2=>bx b4 v X N L fz ac (by lia) a7 a5 M a8;exists _,rfl,_,_,rfl,rfl,_,rfl;refine bJ (λc3=>?_) λc3=>bx b4 v X N L fz ac (by lia) a7 a5 M a8;have h1:(0:Int)<(i:Int):=cC c3;refine⟨_,rfl,hd,X,N,L,r,4,rfl,ac,by lia,by decide,by decide,λy G C tv y0 y1 cv ev=>⟨rfl,_,rfl,?_⟩⟩;have Y:Hand (aA v hd<|hl G C tv r) hd G C tv r:=Hand.at cv;have fv:FrS [hd] H (aA v hd<|hl G C tv r):=fz.put' (by trivial);have a3:aA v hd (hl G C tv r) pn=some (.lst<|ws.map V.str):=by rw[aI ax];exact a7
    have a4:aA v hd (hl G C tv r) pt=some (.lst<|ts.map V.ref):=by rw[aI aq];exact a5
    have a1:aA v hd (hl G C tv r) B=some (.lst<|l.map V.str):=by rw[aI ah];exact M
    have a2:∀(j:Nat) t x,ts[j]?=some t->tr[j]?=some x->aA v hd (hl G C tv r) t=some (.tup [.str x.1,bF x.2]):=λj t x a b=>by
     have J:=a8 j t x a b;rw[aI λz=>by rw[z,ac.1]at J;cases J];exact J
    refine bJ (λc4=>?_) λc4=>bx b4 _ G C tv fv Y (by lia) a3 a4 a1 a2;exact⟨_,rfl,.inl ⟨rfl,_,SqL.of a1⟩,_,rfl,B,_,_,rfl,rfl,a1,by rw[aG];exact bN (by lia),app (by lia) _ G C tv fv Y (by lia) a3 a4 a1 a2⟩
  have b2:∀(e:Option Str)(v:Hp)(X N L:Int),(∀x,e=some x->x∈ws.take i)->(i=0->e=none)->FrS [hd] H v->Hand v hd X N L r->L<=t+14+3*(i:Int)->v pn=some (.lst<|ws.map V.str)->v pt=some (.lst<|ts.map V.ref)->v B=some (.lst<|l.map V.str)->
    (∀(j:Nat) t x,ts[j]?=some t->tr[j]?=some x->v t=some (.tup [.str x.1,bF x.2]))->∀R:TS,(∀e':Option Str,(∀x,e'=some x->x∈ws.take i)->(i=0->e'=none)->R ⟨wQ H hd pn pt B n way t r ws<|i+1,λ_ _=>False,λ_ _=>False,λ_ _=>False⟩ [some<|.ref hd,some<|.int (n:Int),some<|.ref pn,some<|.int way,some<|.ref pt,some<|.ref B,some<|.int (i:Nat),some<|.str ws[i],some<|bF e'] v)->
    gT (iO (iU (gH<|cJ (iG K false) (aJ 8)<|aJ 5)<|gH<|cJ nU (jT (λxs H Q=>∃p ys,xs=[.ref p]/\(SqL K H p ys\/SqT K H p ys)/\Q (.int ↑ys) H)<|bG (aJ 5) aY)<|tC<|.int 6) (gC (tC .non)<|bS 8) sP) R
    ⟨wQ H hd pn pt B n way t r ws<|i+1,λ_ _=>False,λ_ _=>False,λ_ _=>False⟩
    [some<|.ref hd,some<|.int (n:Int),some<|.ref pn,some<|.int way,some<|.ref pt,some<|.ref B,some<|.int (i:Nat),some<|.str ws[i],some<|bF e] v:=by
   intro e v X N L he be fz ac bm a7 a5 M a8 R hR;have fl:lI (bF e)=true:=by cases e <;> rfl
   exists _,rfl,_,rfl,B,_,rfl,.inl<|SqL.of M,fl,jB _,_,rfl;refine bJ (λc=>?_) λc=>hR e he be;exists _,rfl,B,_,rfl,.inl<|SqL.of M,rfl,_,rfl;refine bJ (λc=>?_) λc=>hR e he be;exact hR none (λx u=>nomatch u) λ_=>rfl
  exists _,rfl,_,_,rfl,rfl,_,rfl;refine bJ (λc=>?_) λc=>?_
  rotate_left
  .exact b2 none Hy dx mx tx (λx u=>nomatch u) (λ_=>rfl) bh ab (by lia) af ar ak ao _ λe' bd aa=>c6 e' Hy dx mx tx bd aa bh ab (by lia) af ar ak ao
  have d0:(0:Int)<(i:Int):=cC c;refine⟨_,rfl,hd,dx,mx,tx,r,6,rfl,ab,by lia,by decide,by decide,λy G C tv y0 y1 cv ev=>⟨_,_,rfl,rfl,_,rfl,?_⟩⟩;have Y:Hand (aA Hy hd<|hl G C tv r) hd G C tv r:=Hand.at cv;have fv:FrS [hd] H (aA Hy hd<|hl G C tv r):=bh.put' (by trivial);have a3:aA Hy hd (hl G C tv r) pn=some (.lst<|ws.map V.str):=by rw[aI ax];exact af
  have a4:aA Hy hd (hl G C tv r) pt=some (.lst<|ts.map V.ref):=by rw[aI aq];exact ar
  have a1:aA Hy hd (hl G C tv r) B=some (.lst<|l.map V.str):=by rw[aI ah];exact ak
  have a2:∀(j:Nat) t x,ts[j]?=some t->tr[j]?=some x->aA Hy hd (hl G C tv r) t=some (.tup [.str x.1,bF x.2]):=λj t x a b=>by
   have J:=ao j t x a b;rw[aI λz=>by rw[z,ab.1]at J;cases J];exact J
  generalize aA Hy hd (hl G C tv r)=I at Y fv a3 a4 a1 a2;refine bJ (λc=>?_) λc=>?_
  rotate_left
  .exact b2 none I G C tv (λx u=>nomatch u) (λ_=>rfl) fv Y (by lia) a3 a4 a1 a2 _ λe' bd aa=>c6 e' I G C tv bd aa fv Y (by lia) a3 a4 a1 a2
  refine⟨_,rfl,_,rfl,_,_,rfl,rfl,_,rfl,_,_,rfl,rfl,_,_,rfl,rfl,⟨by decide,by decide⟩,_,rfl,_,rfl,hd,G,C,tv,r,_,rfl,Y,by lia,by lia,by lia,λz du mu tu z0 z1 cu eu=>⟨dO rfl,λp4 br=>?_⟩⟩;have bn:Hand (aA I hd<|hl du mu tu r) hd du mu tu r:=Hand.at cu;have cm:FrS [hd] H (aA I hd<|hl du mu tu r):=fv.put' (by trivial);have kp:∀b o,b≠hd->I b=some o->aA (aA I hd<|hl du mu tu r) p4 (.lst [V.int<|(i:Int)-1,V.int 0,V.int<|((i:Int)-1) / 2,V.int z]) b=some o:=λb o n e=>by
   have h1:aA I hd (hl du mu tu r) b=some o:=by rw[aI n];exact e
   rw[aI<|aX h1 br];exact h1
  have c0:=bn.new (o:=.lst [V.int<|(i:Int)-1,V.int 0,V.int<|((i:Int)-1) / 2,V.int z]) br;have fu:FrS [hd] H (aA (aA I hd<|hl du mu tu r) p4<|.lst [V.int<|(i:Int)-1,V.int 0,V.int<|((i:Int)-1) / 2,V.int z]):=cm.trans<|FrS.new br;have cd:aA (aA I hd<|hl du mu tu r) p4 (.lst [V.int<|(i:Int)-1,V.int 0,V.int<|((i:Int)-1) / 2,V.int z]) p4=some (.lst [V.int<|(i:Int)-1,V.int 0,V.int<|((i:Int)-1) / 2,V.int z]):=aE;have al:=kp _ _ ax a3;have av:=kp _ _ aq a4;have aw:=kp _ _ ah a1;have ay:∀(j:Nat) t x,ts[j]?=some t->tr[j]?=some x->aA (aA I hd<|hl du mu tu r) p4 (.lst [V.int<|(i:Int)-1,V.int 0,V.int<|((i:Int)-1) / 2,V.int z]) t=some (.tup [.str x.1,bF x.2]):=λj t x a b=>by
   have J:=a2 j t x a b;exact kp _ _ (λw=>by rw[w,Y.1]at J;cases J) J
  generalize aA (aA I hd<|hl du mu tu r) p4 (.lst [V.int<|(i:Int)-1,V.int 0,V.int<|((i:Int)-1) / 2,V.int z])=Hu at c0 fu cd al av aw ay;obtain⟨ix,cr,cx,cp⟩:∃ix:Nat,fK [V.int<|(i:Int)-1,V.int 0,V.int<|((i:Int)-1) / 2,V.int z] way=some (.int (ix:Int))/\0<=ix/\ix<i:=by
   have hc:way=0\/way=1\/way=2\/way=3:=by lia
   rcases hc with rfl | rfl | rfl | rfl
   .exact⟨i-1,by rw[EU];congr 2;lia,by lia,by lia⟩
   .exact⟨0,by rw[NO];rfl,by lia,by lia⟩
   .exact⟨(((i:Int)-1) / 2).toNat,by rw[LU];congr 2;lia,by lia,by lia⟩
   .exact⟨z.toNat,by rw[CQ];congr 2;lia,by lia,by lia⟩
  have co:fK (ws.map V.str) (ix:Int)=some (.str<|ws[ix]'(by lia)):=uI (by rw[bD,bH<|by lia];rfl);exists _,rfl,p4,_,_,_,rfl,rfl,SqL.of cd,cr,pn,_,_,_,rfl,rfl,SqL.of al,co;have cn:∀x,some (ws[ix]'(by lia))=some x->x∈ws.take i:=λx u=>by
   cases u;have:(ws.take i)[ix]?=some (ws[ix]'(by lia)):=by rw[GZ cp];exact bH (by lia)
   exact cX this
  exact b2 (some<|ws[ix]'(by lia)) Hu du mu tu cn (λh=>by lia) fu c0 (by lia) al av aw ay _ λe' bd aa=>c6 e' Hu du mu tu bd aa fu c0 (by lia) al av aw ay
 .rintro σ Hx ⟨kx,nx,ex,dx,mx,tx,tr,ts,l,rfl,fx,bi,cg,ad,az,b0,bj,ap,hok,bz,ci,b9,bg⟩;rw[aG]at cg bj ap ci b9;rw[dD<|aO _]at ap;have bb:↑tr=↑ws:=by rw[<-ap,aG]
  refine⟨_,rfl,_,rfl,dO rfl,λpa bo=>?_⟩;have kp:∀b o,Hx b=some o->aA Hx pa (.tup [V.ref pt,V.ref B]) b=some o:=λb o e=>by rw[aI<|aX e bo];exact e
  refine q pa pt B ts tr l dx mx tx _ (fx.trans<|FrS.new bo) (bi.new bo) (by lia) aE ai an (kp _ _ az) (by lia) (λj t x a b=>kp _ _<|bz j t x a b) hok ?_ (by lia) (kp _ _ b0) ?_ (by lia) ?_
  .intro z;rw[z]at bb;simp at bb;lia
  .exact bg
  .have h0:0<↑ws:=by lia
   refine⟨ws[0],by rw[ap];exact fT h0,λhm=>?_⟩;obtain⟨j,j1,j2,j3⟩:=b9 _ hm;obtain⟨j4,j5⟩:=vg4.mp j3;have:=(yZ c9).mp j5;lia
inductive VF where
 | var (x:Str)
 | cut (x:Str) (lo hi:Option Int)
 | dict0
deriving DecidableEq
def sE:Option Expr->Option (Option Int)
 | none=>some none
 | some (.Constant (.int i) _ _)=>some<|some i
 | _=>none
def EB:Expr->Option VF
 | .Name x _=>some<|.var x
 | .Subscript (.Name x _) (.Slice lo hi none _) _=>match sE lo,sE hi with
  | some a,some b=>some<|.cut x a b
  | _,_=>none
 | .Dict [] [] _=>some .dict0
 | _=>none
def xH:List (Option Expr)->List Expr->Option (List<|Str×VF)
 | [],[]=>some []
 | some (.Constant (.str x) _ _)::ks,v::vs=>match EB v,xH ks vs with
  | some f,some r=>some<|(x,f)::r
  | _,_=>none
 | _,_=>none
def PF:Expr->Option (List<|Str×VF)
 | .Dict ks vs _=>xH ks vs
 | _=>none
def FH:List Stmt->Expr
 | [.Return (some v) _]=>v
 | _::r=>FH r
 | []=>.Constant .none 0 ⟨0,0,0,0⟩
def TM:List Stmt->Expr->List Stmt
 | [.Return (some _) p],v=>[.Return (some v) p]
 | a::r,v=>a::TM r v
 | [],_=>[]
section
variable{X:Cx}
structure pA(X:Cx)(i:Nat)(x:Str):Prop where
 n:X.N[i]?=some x
 v:DG X.env.scope x
 d:(x == ("__debug__":Str))=false
 c:(x == ("__classdict__":Str))=false
def uZ:Option Int->TO
 | none=>UZ
 | some i=>oS<|tC<|.int i
def TN(h:sE e=some o):PO X e (uZ o):=by
 cases e with
 | none=>cases h;exact mY
 | some e=>
  cases e with
  | Constant c j pos=>
   cases c with
   | int i=>cases h;exact nN aQ
   | _=>cases h
  | _=>cases h
inductive CJ(X:Cx):VF->TE->Prop
 | var {i:Nat} {x:Str} (h:pA X i x):CJ X (.var x) (aJ i)
 | cut {i:Nat} {x:Str} {lo hi:Option Int} (h:pA X i x):CJ X (.cut x lo hi) (WP (BV X.K) (aJ i) (uZ lo)<|uZ hi)
 | dict0:CJ X .dict0 UO
def XT{f:VF}(h:EB e=some f)(i:CJ X f t):PE X e t:=by
 cases e with
 | Name x p=>
  cases h;cases i with
  | var h=>exact IB h.n h.v h.d h.c
 | Subscript a b pos=>
  cases a with
  | Name x p=>
   cases b with
   | Slice lo hi st p2=>
    cases st with
    | some z=>cases h
    | none=>
     have h:(match sE lo,sE hi with | some a,some b=>some (VF.cut x a b) | _,_=>none)=some f:=h;cases h1:sE lo with
     | none=>rw[h1]at h;cases h
     | some a=>
      cases h2:sE hi with
      | none=>rw[h1,h2]at h;cases h
      | some b=>
       rw[h1,h2]at h;cases h;cases i with
       | cut q=>exact nY wD (IB q.n q.v q.d q.c) (TN h1)<|TN h2
   | _=>cases h
  | _=>cases h
 | Dict ks vs pos=>
  cases ks with
  | nil=>
   cases vs with
   | nil=>
    cases h;cases i;exact wH
   | cons _ _=>cases h
  | cons _ _=>cases h
 | _=>cases h
inductive CI(X:Cx):List (Str×VF)->List (TE×TE)->Prop
 | nil:CI X [] []
 | cons {x:Str} {f:VF} {t:TE} {fs:List (Str×VF)} {ts:List (TE×TE)} (h:CJ X f t) (r:CI X fs ts):CI X ((x,f)::fs) ((tC<|.str x,t)::ts)
theorem OE:∀(ks:List (Option Expr))(e:List Expr)(fs:List (Str×VF))(ts:List (TE×TE)),xH ks e=some fs->CI X fs ts->wY X pos ks e ts/\ks.all (·.isSome)=true/\↑ks=↑e/\↑ks=↑fs
 | [],[],fs,ts,h,q=>by
  cases h;cases q;exact⟨WE,rfl,rfl,rfl⟩
 | [],_::_,fs,ts,h,q=>by cases h
 | none::_,_,fs,ts,h,q=>by
  cases h
 | some k::ks,[],fs,ts,h,q=>by
  cases k with
  | Constant c j p=>cases c <;> cases h
  | _=>cases h
 | some k::ks,v::e,fs,ts,h,q=>by
  cases k with
  | Constant c j p=>
   cases c with
   | str x=>
    have h:(match EB v,xH ks e with | some f,some r=>some ((x,f)::r) | _,_=>none)=some fs:=h;cases h1:EB v with
    | none=>rw[h1]at h;cases h
    | some f=>
     cases h2:xH ks e with
     | none=>rw[h1,h2]at h;cases h
     | some r=>
      rw[h1,h2]at h;cases h;cases q with
      | cons ht hr=>
       obtain⟨a,b,c,d⟩:=OE ks e r _ h2 hr;exact⟨OH cD (XT h1 ht) a,by rw[List.all_cons,b];rfl,by rw[cY,cY,c],by rw[cY,cY,d]⟩
   | _=>cases h
  | _=>cases h
def YO(h:PF e=some fs)(q:CI X fs ts)(f:fs≠[])(i:↑fs<=15):PE X e (pW ts):=by
 cases e with
 | Dict ks vs pos=>
  obtain⟨a,b,c,d⟩:=OE (pos:=pos) ks vs fs ts h q;refine XP a b c (λz=>f ?_) (by lia);rw[z]at d;exact vt4.mp d.symm
 | _=>cases h
end
def ZC{κ:Type}[DecidableEq κ]{kvs:List (κ×V)}{k:κ}{v:V}(h:aN kvs k=some v):(k,v)∈kvs:=by
 unfold aN at h;obtain⟨p,a,e⟩:=vg8.mp h;have h1:=zF a;have b:=List.find?_some a;have h2:p.1=k:=cC b;rw[<-h2,<-e];exact h1
theorem NK{κ:Type}[DecidableEq κ]:∀{kvs:List (κ×V)}{i:Nat}{k:κ}{v:V},(kvs.map (·.1)).Nodup->kvs[i]?=some (k,v)->aN kvs k=some v
 | [],i,k,v,_,h=>by simp at h
 | a::l,0,k,v,_,h=>by
  have:a=(k,v):=by simpa using h
  rw[this];exact kN rfl
 | a::l,i+1,k,v,nd,h=>by
  have h':l[i]?=some (k,v):=by simpa using h
  rw[eM,vq2]at nd;rw[jZ λe=>nd.1<|by rw[e];exact vh6.mpr ⟨_,cX h',rfl⟩];exact NK nd.2 h'
theorem WR:∀(more kvs:List (aL×V)),((kvs++more).map (·.1)).Nodup->dX kvs more=kvs++more
 | [],kvs,_=>by rw[iA];rfl
 | a::l,kvs,nd=>by
  have b:aN kvs a.1=none:=by
   cases e:aN kvs a.1 with
   | none=>rfl
   | some v=>
    have h1:=EG e;rw[bP,eM]at nd;have:=(List.nodup_append.mp nd).2.2 a.1 h1 a.1<|rV ..;exact absurd rfl this
  show dX (aU kvs a.1 a.2) l=_;rw[GS _ b,WR l (kvs++[(a.1,a.2)]) (by rw[dR];exact nd),dR];rfl
theorem UE:∀(more kvs:List (aL×V)),(∀k,k∈(dX kvs more).map (·.1)↔k∈kvs.map (·.1)\/k∈more.map (·.1))
 | [],kvs,k=>by simp[dX]
 | a::l,kvs,k=>by
  show k∈(dX (aU kvs a.1 a.2) l).map (·.1)↔_;rw[UE l (aU kvs a.1 a.2) k,eM,vh3];rcases II kvs a.1 a.2 with ⟨e,h⟩ | ⟨e,h⟩
  .rw[e]
   constructor
   .rintro(h1 | h1)
    .exact .inl h1
    .exact .inr<|.inr h1
   .rintro(h1 | h1 | h1)
    .exact .inl h1
    .rw[h1];exact .inl h
    .exact .inr h1
  .rw[e,vj5,vh7]
   constructor
   .rintro((h1 | h1) | h1)
    .exact .inl h1
    .exact .inr<|.inl h1
    .exact .inr<|.inr h1
   .rintro(h1 | h1 | h1)
    .exact .inl<|.inl h1
    .exact .inl<|.inr h1
    .exact .inr h1
def Eo(rs:List Str)(v:V):∃b:List Str,(dX []<|rs.map λr=>((Sum.inr r:aL),v)).map (λj=>kV j.1)=b.map V.str/\↑b<=↑rs/\∀r∈rs,r∈b:=by
 have f:=UE (rs.map λr=>((Sum.inr r:aL),v)) [];have m:∀l:List (aL×V),(∀k∈l.map (·.1),∃x,k=Sum.inr x)->∃b:List Str,l.map (λj=>kV j.1)=b.map V.str/\↑b=↑l/\∀x,(Sum.inr x:aL)∈l.map (·.1)->x∈b:=by
  intro l
  induction l with
  | nil=>intro _;exact⟨[],rfl,rfl,by simp⟩
  | cons a l ih=>
   intro h;obtain⟨b,e,n,i⟩:=ih λk f=>h k<|iH _ f;obtain⟨x,ex⟩:=h a.1 (by simp);refine⟨x::b,by rw[eM,eM,e,ex];rfl,by simp[n],λy d=>?_⟩;rw[eM,vh3]at d;rcases d with d | d
   .rw[ex]at d;rw[pR d];exact rV ..
   .exact iH _<|i y d
 obtain⟨b,e,n,i⟩:=m (dX []<|rs.map λr=>((Sum.inr r:aL),v)) λk h=>by
  rcases(f k).mp h with h | h
  .simp at h
  .rw[kO]at h;obtain⟨x,_,ex⟩:=vh6.mp h;exact⟨x,ex.symm⟩
 refine⟨b,e,?_,λr o=>i r<|(f _).mpr<|.inr ?_⟩
 .have:=wG (rs.map λr=>((Sum.inr r:aL),v)) [];rw[aG,jX]at this;lia
 .rw[kO];exact vh6.mpr ⟨r,o,rfl⟩
def WantsOk(M:List Addr)(H:Hp)(N:List Str)(wk:List (List aL×V))(dn:Str->Str->Prop):Prop:=∀r d,dn r d->∃(p:Addr)(ws:List Str),aN wk [Sum.inr r,Sum.inr d]=some (.ref p)/\Stt M H p (.lst<|ws.map V.str)/\↑ws<=4/\∀x∈ws,x∈N
theorem WantsOk.keep(h:WantsOk M H N wk dn)(f:FrS M H H'):WantsOk M H' N wk dn:=λr d q=>by
 obtain⟨p,ws,a,b,c⟩:=h r d q;exact⟨p,ws,a,b.keep f,c⟩
def WantsOk.put{M:List Addr}{H:Hp}{N:List Str}{f:List (List aL×V)}{i:Str->Str->Prop}{r d:Str}{p:Addr}{ws:List Str}(h:WantsOk M H N f i)(j:Stt M H p (.lst<|ws.map V.str))(hl:↑ws<=4)(m:∀x∈ws,x∈N):
  WantsOk M H N (aU f [Sum.inr r,Sum.inr d]<|.ref p) (λa b=>i a b\/(a=r/\b=d)):=λa b q=>by
 by_cases e:([Sum.inr a,Sum.inr b]:List aL)=[Sum.inr r,Sum.inr d]
 .exact⟨p,ws,by rw[pQ,aR e],j,hl,m⟩
 .rcases q with q | ⟨rfl,rfl⟩
  .obtain⟨l,o,a1,b1,n⟩:=h a b q;exact⟨l,o,by rw[pQ,aK e];exact a1,b1,n⟩
  .exact absurd rfl e
def WantsOk.mono(h:WantsOk M H N wk dn)(f:∀r d,dn' r d->dn r d):WantsOk M H N wk dn':=λr d q=>h r d<|f r d q
def OwnOk(M:List Addr)(H:Hp)(N:List Str)(ok:List (aL×V))(dn:Str->Prop):Prop:=∀d,dn d->∃(p:Addr)(os:List Str),aN ok (Sum.inr d)=some (.ref p)/\Stt M H p (.lst<|os.map V.str)/\(∀x∈os,x∈N)/\↑os<=13
theorem OwnOk.keep(h:OwnOk M H N ok dn)(f:FrS M H H'):OwnOk M H' N ok dn:=λd q=>by
 obtain⟨p,os,a,b,c⟩:=h d q;exact⟨p,os,a,b.keep f,c⟩
def OwnOk.put{M:List Addr}{H:Hp}{N:List Str}{ok:List (aL×V)}{b:Str->Prop}{d:Str}{p:Addr}{os:List Str}(h:OwnOk M H N ok b)(f:Stt M H p (.lst<|os.map V.str))(j:∀x∈os,x∈N)(hl:↑os<=13):
  OwnOk M H N (aU ok (Sum.inr d)<|.ref p) (λa=>b a\/a=d):=λa q=>by
 by_cases e:(Sum.inr a:aL)=Sum.inr d
 .exact⟨p,os,by rw[pQ,aR e],f,j,hl⟩
 .rcases q with q | rfl
  .obtain⟨i,m,a1,b1,l⟩:=h a q;exact⟨i,m,by rw[pQ,aK e];exact a1,b1,l⟩
  .exact absurd rfl e
def OwnOk.mono'(h:OwnOk M H N ok dn)(f:∀d,dn' d->dn d):OwnOk M H N ok dn':=λd q=>h d<|f d q
def RootsOk(tr:Tr)(i:Nat)(rk:List (aL×V)):Prop:=rk.map (·.1)=(tr.take i).map (λz=>(Sum.inr z.1:aL))/\∃rs:List Str,rk.map (·.2)=rs.map V.str
def RootsOk.step(ok:TrOk tr)(h:RootsOk tr i rk)(hi:tr[i]?=some (n,e)):RootsOk tr (i+1) (aU rk (Sum.inr n)<|.str r)/\↑(aU rk (Sum.inr n)<|.str r)=i+1\/i > ↑tr:=by
 left
 have p:n∉(tr.take i).map (·.1):=λb=>by
  obtain⟨z,hz,a⟩:=vh6.mp b;obtain⟨j,d,m⟩:=mP hz;rw[dI]at d;have l:tr[j]?=some (n,z.2):=by rw[bH (by lia),<-a,<-m,List.getElem_take]
  have:=ok.one hi l;lia
 have o:aN rk (Sum.inr n)=none:=by
  cases q:aN rk (Sum.inr n)with
  | none=>rfl
  | some v=>
   have:=EG q;rw[h.1]at this;obtain⟨z,hz,a⟩:=vh6.mp this;exact absurd (vh6.mpr ⟨z,hz,pR a⟩) p
 obtain⟨rs,f⟩:=h.2;have a1:i<↑tr:=(vg4.mp hi).1;rw[GS _ o];exists ⟨?_,rs++[r],?_⟩
 .rw[bP,h.1,dG,hi,bP];rfl
 .rw[bP,f,bP];rfl
 .have:=cR List.length h.1;rw[aG,aG,dI]at this;rw[bL,dY];lia
def RootsOk.val{tr:Tr}{i:Nat}{a:List (aL×V)}(h:RootsOk tr i a){k:aL}{v:V}(f:aN a k=some v):∃r,v=.str r/\V.str r∈a.map (·.2):=by
 have d:=ZC f;obtain⟨rs,e⟩:=h.2;have:v∈a.map (·.2):=vh6.mpr ⟨_,d,rfl⟩;have h2:=this;rw[e]at this;obtain⟨r,_,b⟩:=vh6.mp this;exact⟨r,b.symm,by rw[b];exact h2⟩
def Du(xs:List V)(h:b<=↑xs)(d:a<=b):dC xs (some (a:Int)) (some (b:Int))=(xs.drop a).take (b-a):=by
 unfold dC;rw[HT.HG,HT.HG,yW h,yW<|by lia]
inductive DF(Hb:Hp)(hd tp lp pn pd px pw po pr:Addr)(r t6:Int)(rk:List (aL×V))(rs ds:List Str)(tr:Tr)(i:Nat)(σ:St)(Hx:Hp):Prop
 | mk(nx ex dx sx:Option V)(da ma ta:Int)(wk:List (List aL×V))(ok:List (aL×V))(h1:σ=[some<|.ref hd,some<|.ref tp,some<|.ref lp,some<|.ref pn,some<|.ref pd,some<|.ref px,some<|.ref pw,some<|.ref po,some<|.ref pr,nx,ex,dx,sx])
   (h2:FrS [hd,pw,po,pr] Hb Hx) (h3:Hand Hx hd da ma ta r) (h4:ta<=t6+80*(i:Int)) (h5:Hx pr=some (.dK rk)) (h6:Hx pw=some (.dT wk)) (h7:↑wk<=12*i) (h8:WantsOk [hd,pw,po,pr] Hx (tr.map (·.1)) wk (λa b=>a∈rs/\b∈ds.take i)) (h9:Hx po=some (.dK ok)) (h10:↑ok<=i) (h11:OwnOk [hd,pw,po,pr] Hx (tr.map (·.1)) ok (λb=>b∈ds.take i)):DF Hb hd tp lp pn pd px pw po pr r t6 rk rs ds tr i σ Hx
inductive DI(H9:Hp)(hd tp lp pn pd px pw po pr:Addr)(r ta:Int)(rk ok:List (aL×V))(rs qs:List Str)(tr:Tr)(dsi:List Str)(di:Str)(ex sx:Option V)(i j:Nat)(σ:St)(Hz:Hp):Prop
 | mk(nx:Option V)(dz mz tz:Int)(wz:List (List aL×V))(h1:σ=[some<|.ref hd,some<|.ref tp,some<|.ref lp,some<|.ref pn,some<|.ref pd,some<|.ref px,some<|.ref pw,some<|.ref po,some<|.ref pr,nx,ex,some<|.str di,sx])
   (h2:FrS [hd,pw,po,pr] H9 Hz) (h3:Hand Hz hd dz mz tz r) (h4:tz<=ta+5*(j:Int)) (h5:Hz pr=some (.dK rk)) (h6:Hz pw=some (.dT wz)) (h7:↑wz<=12*i+j) (h8:WantsOk [hd,pw,po,pr] Hz (tr.map (·.1)) wz (λa b=>(a∈rs/\b∈dsi)\/(a∈qs.take j/\b=di))) (h9:Hz po=some (.dK ok)):DI H9 hd tp lp pn pd px pw po pr r ta rk ok rs qs tr dsi di ex sx i j σ Hz
inductive BX(H10:Hp)(hd tp lp pn pd px pw po pr ps:Addr)(r tA:Int)(tr:Tr)(di:Str)(j:Nat)(σ:St)(Hz:Hp):Prop
 | mk(nz ez:Option V)(dz mz tz:Int)(ss:List Str)(h1:σ=[some<|.ref hd,some<|.ref tp,some<|.ref lp,some<|.ref pn,some<|.ref pd,some<|.ref px,some<|.ref pw,some<|.ref po,some<|.ref pr,nz,ez,some<|.str di,some<|.ref ps])(h2:FrS [hd] H10 Hz)(h3:Hand Hz hd dz mz tz r)(h4:tz<=tA+(j:Int))(h5:Hz ps=some (.lst<|ss.map V.str))(h6:↑ss<=j)(h7:∀x∈ss,x∈tr.map (·.1)):BX H10 hd tp lp pn pd px pw po pr ps r tA tr di j σ Hz
abbrev pI:Stmt:=top 29
def HX:gU pI=TM (gU pI) (FH<|gU pI):=rfl
def WO:List (Str×VF):=[("tree",.var "_law_tree_here"),("late",.var "_law_late"),("deeds",.var "_law_deeds"),("wants",.var "_law_wants"),("owners",.var "_law_owners"),("vars",.cut "_law_words_here" none<|some 4),("params",.cut "_law_words_here" (some 4)<|some 8),("fields",.cut "_law_words_here" (some 6) none),("told",.dict0),("held",.dict0),("roots",.var "_law_roots")]
def BZ:PF (FH<|gU pI)=some WO:=by rfl'
inductive SF(vs:List V)(H:Hp)(Q:VK):Prop
 | mk(hd:Addr)(d m t r:Int)(h1:vs=[.ref hd])(h2:Hand H hd d m t r)(h3:t+1000<1000000)(h4:∀(wd:Addr)(A:WA)(D:WD)(H':Hp)(t':Int),Sit0 H' hd wd A D t' r->FrS [hd] H H'->H A.told=none->H A.held=none->t'<=t+900->Q (.ref wd) H'):SF  vs H Q
def LY:Sp:=λvs H Q _=>SF  vs H Q
def kA(h:N σ H):({nx:=N,rt:=r,bk:=b,ct:=c}:dU).nx σ H:=h
def gN(h:Q (σ.set i<|some v) H):bS i v σ H Q:=h
def fL(h:∀N:St->Hp->Prop,u D=N->t {D with nx:=N} σ H):gT t u D σ H:=h _ rfl
abbrev rD:List Str:=[qH,"_law_tree_here","_law_late","_law_names","_law_deeds","_law_words_here","_law_wants","_law_owners","_law_roots","_law_name","_law_elder","_law_deed_here","_law_some"]
def zh1:cU rD [qH] (cG pI):=dF
def Gq(F:Fun K "_law_world" "_law_world" pI f fd)(T:aV P w K mg base k "_law_take" qB gB)(O:aV P w K mg base k "_law_of" qC (cZ K))(W:aV P w K mg base k "_law_words" qB FB)(TR:aV P w K mg base k "_law_tree" [qH] LV)(gl:mg "dict"=none)(mr:mg "range"=none)(mi:mg "int"=none):bB P w K mg base cH (k+1) f fd [qH] LY:=by
 refine F.ok zh1 (λvs H Q E h=>?_) λil A outer s H vs Q E hr h=>?_
 .obtain⟨hd,d,m,t,r,rfl,_⟩:=h;rfl
 obtain⟨hd,d,m,t,r,rfl,hh,ht,q⟩:=h;have hu:=gG hr;have gh:(["_law_name","_law_elder"]:List Str).Nodup:=by rfl'
 have gs:(["_law_root"]:List Str).Nodup:=by rfl'
 have hn:(["_law_k",qH,"_law_names"]:List Str).Nodup:=by rfl'
 have hO:=BZ;rw[HX];generalize FH (gU pI)=L at hO;exists _,aP (kW (aW TR hr rfl<|aC (pv 0) aF)<|fG (n:=2) rfl<|bR (gL 1 zh1.nd)<|bR (gL 2 zh1.nd) fE)
  (aP (iW (i:=3) zh1.nd rfl (Or.inr rfl)<|hV (N':=["_law_name","_law_elder"]) (src:=[none,none]) rfl eP (gM<|pv 1) (g:=eA K 2<|eC (bS 0)<|eC (bS 1) dZ) (λ_ _ _ _=>fG (n:=2) rfl<|bR (gL 0 gh)<|bR (gL 1 gh) fE) (λ_ _ _ _=>gR) λ_ _ _ _=>pv 0) (aP (sL 4 zh1.nd<|aW W hr rfl<|aC (pv 0)<|aC (aW O hr rfl<|aC (pv 0)<|aC (cS<|dL<|dL<|dL<|dL<|dL<|dL<|dL<|dL aF) aF) aF) (aP (sL 5 zh1.nd<|aW W hr rfl<|aC (pv 0)<|aC aQ aF) (aP (sL 6 zh1.nd YI) (aP (sL 7 zh1.nd wH) (aP (sL 8 zh1.nd wH) (aP (fQ eW rfl (gM<|pv 1) (fG (n:=2) rfl<|bR (gL 9 zh1.nd)<|bR (gL 10 zh1.nd) fE)<|bE<|mU hu (pv 8) (pv 9) (XB hu (pv 8) (pv 10) (pv 9) ⟨rfl,rfl,rfl,rfl⟩) rfl) (aP (fQ eW rfl (gM<|pv 4) (gL 11 zh1.nd) (aP (fQ eW rfl (EE (dE (IV rfl) rfl gl (by rfl') (aC (NV (hV (N':=["_law_root"]) (src:=[none]) rfl eP
     (ZG<|pv 8) (g:=bS 0) (λ_ _ _ _=>gL 0 gs) (λ_ _ _ _=>gR) (λ_ _ _ _=>dQ<|aC (pv 0)<|aC kZ aF))) aF))) (gL 9 zh1.nd)
    (bE<|mU hu (pv 6) (dQ<|aC (pv 9)<|aC (pv 11) aF) (hV (N':=["_law_k",qH,"_law_names"]) (src:=[none,some 0,some 3]) rfl eP (vT rfl mr<|aC (aW O hr rfl<|aC (pv 0)<|aC (cS<|dL<|dL<|dL<|dL<|dL aF) aF) aF) (g:=bS 0) (λ_ _ _ _=>gL 0 hn) (λ_ _ _ _=>gR) λ_ _ _ _=>aW O hr rfl<|aC (pv 1)<|aC (pv 2) aF) rfl))
   (aP (sL 12 zh1.nd<|cS aF) (aP (fQ eW rfl (gM<|pv 1) (fG (n:=2) rfl<|bR (gL 9 zh1.nd)<|bR (gL 10 zh1.nd) fE) (bE (dS (cB iL (aW T hr rfl<|aC (pv 0)<|aC (eI (cS<|dL<|dL aF)<|dE FZ rfl mi (by rfl')<|aC (sQ<|LQ<|pv 10) aF) aF) aQ<|cO _)
     (bE<|gS<|hH hZ iX iN iK (pv 12)<|aC (pv 9) aF) dW)))
   (bE<|mU hu (pv 7) (pv 11) (bV vP (pv 12)<|bV uP (cS<|aC (eI (pv 3) aQ) aF)<|dE FZ rfl mi (by rfl')<|aC (pL (TL<|mN hu) (pv 12) (cS aF)<|cO _) aF) rfl)))))
  (bE (bU (YO hO (.cons (.var (i:=1) ⟨rfl,fH rfl,by decide,by decide⟩) (.cons (.var (i:=2) ⟨rfl,fH rfl,by decide,by decide⟩) (.cons (.var (i:=4) ⟨rfl,fH rfl,by decide,by decide⟩) (.cons (.var (i:=6) ⟨rfl,fH rfl,by decide,by decide⟩) (.cons (.var (i:=7) ⟨rfl,fH rfl,by decide,by decide⟩)
   (.cons (.cut (i:=5) ⟨rfl,fH rfl,by decide,by decide⟩)<|.cons (.cut (i:=5) ⟨rfl,fH rfl,by decide,by decide⟩)<|.cons (.cut (i:=5) ⟨rfl,fH rfl,by decide,by decide⟩)<|.cons .dict0<|.cons .dict0<|.cons (.var (i:=8) ⟨rfl,fH rfl,by decide,by decide⟩) .nil)))))) (by simp[WO]) (by decide))))))))))))
 ac_rfl
 refine fL λN X=>?_;refine⟨_,rfl,hd,d,m,t,r,rfl,hh,by lia,λa tp lp ts tr late d1 m1 t1 H1 f1 ge iv ha bp bw b2 ew gb hok fp fo dl i0 ig hq=>?_⟩;exists a,_,rfl,SqT.of ha,rfl,_,_,rfl,_,_,rfl,rfl;subst X
 first | refine kA ?_ | skip
 refine fL λN X=>?_;refine⟨_,rfl,tp,rfl,⟨_,SqL.of b2⟩,λpn i4=>?_⟩;refine IN (tr:=tr) b2 ew gb i4 (by lia) λH2 f2 bj=>?_
 subst X
 first | refine kA ?_ | skip
 refine fL λN X=>?_;have cd:Hand H2 hd d1 m1 t1 r:=⟨f2 _ _ (by trivial) ge.1,ge.2⟩;have h5:FrS [hd] H H2:=f1.trans (f2.mono<|by trivial);have dt:=f2 _ _ (by trivial) b2;have ee:=f2 _ _ (by trivial) dl;have c8:∀(j:Nat) t x,ts[j]?=some t->tr[j]?=some x->H2 t=some (.tup [.str x.1,bF x.2]):=λj t x a b=>f2 _ _ (by trivial)<|gb j t x a b
 have ax:tp≠hd:=λz=>by rw[z,hh.1]at bp;cases bp
 have b3:lp≠hd:=λz=>by rw[z,hh.1]at bw;cases bw
 refine⟨_,rfl,_,rfl,dO rfl,λp0 cj=>?_⟩;have id:p0≠hd:=λz=>by rw[z,cd.1]at cj;cases cj
 have fs:=cd.new (o:=.lst [V.int 1,V.int 2,V.int 2,V.int 3,V.int 3,V.int 4,V.int 4,V.int 6]) cj;have f3:FrS [] H2 (aA H2 p0<|.lst [V.int 1,V.int 2,V.int 2,V.int 3,V.int 3,V.int 4,V.int 4,V.int 6]):=FrS.new cj;have fw:aA H2 p0 (.lst [V.int 1,V.int 2,V.int 2,V.int 3,V.int 3,V.int 4,V.int 4,V.int 6]) p0=some (.lst [V.int 1,V.int 2,V.int 2,V.int 3,V.int 3,V.int 4,V.int 4,V.int 6]):=aE;generalize aA H2 p0 (.lst [V.int 1,V.int 2,V.int 2,V.int 3,V.int 3,V.int 4,V.int 4,V.int 6])=H3 at fs f3 fw;refine⟨hd,p0,d1,m1,t1,r,_,rfl,fs,by lia,id,SqL.of fw,by simp,by show 8<1000;decide,λx d4 m4 t4 I c4 e4=>?_⟩;obtain⟨n,rfl,n1,n6⟩:∃n:Nat,x=.int (n:Int)/\1<=n/\n<=6:=by
  simp only[vh3,aT,dJ]at I;rcases I with rfl | rfl | rfl | rfl | rfl | rfl | rfl | rfl
  .exact⟨1,rfl,by decide,by decide⟩
  .exact⟨2,rfl,by decide,by decide⟩
  .exact⟨2,rfl,by decide,by decide⟩
  .exact⟨3,rfl,by decide,by decide⟩
  .exact⟨3,rfl,by decide,by decide⟩
  .exact⟨4,rfl,by decide,by decide⟩
  .exact⟨4,rfl,by decide,by decide⟩
  .exact⟨6,rfl,by decide,by decide⟩
 have f4:FrS [hd] H2 (aA H3 hd<|hl d4 m4 t4 r):=(f3.mono<|by trivial).put' (by trivial);have ga:Hand (aA H3 hd<|hl d4 m4 t4 r) hd d4 m4 t4 r:=Hand.at c4;generalize aA H3 hd (hl d4 m4 t4 r)=H4 at f4 ga;refine⟨hd,d4,m4,t4,r,n,rfl,ga,by lia,by lia,λpd ds d5 m5 t5 H5 f5 f0 j5 iy bq gi j4=>?_⟩;subst X
 first | refine kA ?_ | skip
 refine fL λN X=>?_;refine⟨_,rfl,hd,d5,m5,t5,r,9,rfl,f0,by lia,by decide,λpx xs d6 m6 t6 H6 f6 ah iw ip bi iu j2=>?_⟩;subst X
 first | refine kA ?_ | skip
 refine fL λN X=>?_;have c3:FrS [hd] H2 H6:=(f4.trans f5).trans f6;have cm:FrS [hd] H H6:=h5.trans c3;have b5:pd≠hd:=iS bq f0;have en:px≠hd:=iS bi ah;have a9:pn≠hd:=iS bj cd;have d0:∀(j:Nat) t x,ts[j]?=some t->tr[j]?=some x->t≠hd:=λj t x a b z=>by have h3:=c8 j t x a b;rw[z,cd.1]at h3;cases h3
 have eb:=c3 _ _ (by simpa using ax) dt;have es:=c3 _ _ (by simpa using b3) ee;have ep:=c3 _ _ (by simpa using a9) bj;have cx:=f6 _ _ (by simpa using b5) bq;have em:∀(j:Nat) t x,ts[j]?=some t->tr[j]?=some x->H6 t=some (.tup [.str x.1,bF x.2]):=λj t x a b=>c3 _ _ (by simpa using d0 j t x a b)<|c8 j t x a b
 intro G cn;subst X
 first | refine kA ?_ | skip
 refine fL λN X=>?_;intro C bf;subst X
 first | refine kA ?_ | skip
 refine fL λN X=>?_;intro u aw;subst X
 first | refine kA ?_ | skip
 refine fL λN X=>?_;have am:H6 C=none:=by rw[<-aI (H:=H6) (a:=G) (b:=C) (o:=.dT []) (λz=>by rw[z,aE]at bf;cases bf)];exact bf
 have ad:C≠G:=λz=>by rw[z,aE]at bf;cases bf
 have ai:u≠G:=λz=>by rw[z,aI ad.symm,aE]at aw;cases aw
 have af:u≠C:=λz=>by rw[z,aE]at aw;cases aw
 have an:H6 u=none:=by rw[aI af,aI ai]at aw;exact aw
 have g6:aA (aA (aA H6 G<|.dT []) C<|.dK []) u (.dK []) G=some (.dT []):=by rw[aI ai.symm,aI ad.symm];exact aE
 have fe:aA (aA (aA H6 G<|.dT []) C<|.dK []) u (.dK []) C=some (.dK []):=by rw[aI af.symm];exact aE
 have gd:aA (aA (aA H6 G<|.dT []) C<|.dK []) u (.dK []) u=some (.dK []):=aE;have fb:FrS [] H6 (aA (aA (aA H6 G<|.dT []) C<|.dK []) u<|.dK []):=((FrS.new cn).trans<|FrS.new bf).trans<|FrS.new aw;generalize aA (aA (aA H6 G<|.dT []) C<|.dK []) u (.dK [])=Hb at g6 fe gd fb;have ft:Hand Hb hd d6 m6 t6 r:=⟨fb _ _ (by trivial) ah.1,ah.2⟩;have cf:hd≠G:=aX ah.1 cn;have ch:hd≠C:=aX ah.1 am;have co:hd≠u:=aX ah.1 an;have a6:∀b o,b≠hd->H6 b=some o->Stt [hd,G,C,u] Hb b o:=λb o n e=>⟨by simp only[vh3,aT,dJ,not_or];exact⟨n,aX e cn,aX e am,aX e an⟩,fb _ _ (by trivial) e⟩
 have b7:=a6 _ _ ax eb;have i1:=a6 _ _ b3 es;have hf:=a6 _ _ a9 ep;have e5:=a6 _ _ b5 cx;have i6:=a6 _ _ en bi;have au:∀(j:Nat) t x,ts[j]?=some t->tr[j]?=some x->Stt [hd,G,C,u] Hb t (.tup [.str x.1,bF x.2]):=λj t x a b=>a6 _ _ (d0 j t x a b)<|em j t x a b;have gq:FrS [hd] H Hb:=cm.trans (fb.mono<|by trivial);have e9:H G=none:=oQ cm ah cn;have e8:H C=none:=oQ cm ah am;have dc:H u=none:=oQ cm ah an;have ea:∀B:Hp,FrS [hd,G,C,u] Hb B->FrS [hd] H B:=λB M b o n e=>M b o (by
  simp only[vh3,aT,dJ,not_or]at n ⊢;exact⟨n,aX e e9,aX e e8,aX e dc⟩) (gq b o n e)
 have cl:∀B:Hp,(∃o,B hd=some o)->(∃o,B G=some o)->(∃o,B C=some o)->(∃o,B u=some o)->∀p,B p=none->p∉[hd,G,C,u]:=λB a b c e p hp z=>by
  simp only[vh3,aT,dJ]at z;rcases z with z | z | z | z
  .obtain⟨o,ho⟩:=a;rw[<-z,hp]at ho;cases ho
  .obtain⟨o,ho⟩:=b;rw[<-z,hp]at ho;cases ho
  .obtain⟨o,ho⟩:=c;rw[<-z,hp]at ho;cases ho
  .obtain⟨o,ho⟩:=e;rw[<-z,hp]at ho;cases ho
 exists _,rfl,tp,rfl,⟨_,SqL.of b7.2⟩;refine vO (xs:=ts.map V.ref) (λi σ B=>∃(nx ex:Option V)(J:List (aL×V)),σ=[some<|.ref hd,some<|.ref tp,some<|.ref lp,some<|.ref pn,some<|.ref pd,some<|.ref px,some<|.ref G,some<|.ref C,some<|.ref u,nx,ex,none,none]/\FrS [u] Hb B/\B u=some (.dK J)/\RootsOk tr i J) ⟨_,_,[],rfl,FrS.refl,gd,rfl,[],rfl⟩ ?_ ?_ ?_
 .rintro i σ B hi ⟨_,_,_,_,M,_⟩;exact SqL.of (b7.keep<|M.mono<|by trivial).2
 .rintro i x σ B I ⟨nx,ex,J,rfl,M,a7,aq⟩;rw[bD]at I;obtain⟨tt,a8,rfl⟩:=vg8.mp I;obtain⟨hi,_⟩:=vg4.mp a8;have ca:tr[i]?=some tr[i]:=bH (by lia);have e3:=(au i tt _ a8 ca).keep (M.mono<|by trivial);exists tt,_,rfl,SqT.of e3.2,rfl,_,_,rfl,_,_,rfl,rfl;have ik:J.length<=12:=by
   have:=cR List.length aq.1;rw[aG,aG,dI]at this;lia
  obtain⟨ov,er,r',gy⟩:∃ov:Option V,nP B u (bF tr[i].2) ov/\∃r',ov.getD (.str tr[i].1)=.str r':=by
   cases he:tr[i].2 with
   | none=>exact⟨none,⟨J,.inl a7,.inl ⟨rfl,rfl⟩⟩,_,rfl⟩
   | some e=>
    exists _,⟨J,.inl a7,.inr ⟨Sum.inr e,rfl,rfl⟩⟩;cases hv:aN J (Sum.inr e)with
    | none=>exact⟨_,rfl⟩
    | some v=>
     obtain⟨r',rfl,_⟩:=aq.val hv;exact⟨r',rfl⟩
  exists _,rfl,u,rfl,.inl ⟨_,.inl a7⟩,_,rfl,_,rfl,ov,er,_,rfl,_,rfl,u,_,rfl,DPut.k (k:=(Sum.inr tr[i].1:aL)) a7 (bN<|by lia),_,_,_,rfl,M.put' (by trivial),aE;rw[gy];rcases RootsOk.step (r:=r') (n:=tr[i].1) (e:=tr[i].2) hok aq ca with h | h
  .exact h.1
  .lia
 rintro σ H7 ⟨io,im,J,rfl,f7,hm,aq⟩;subst X
 first | refine kA ?_ | skip
 refine fL λN X=>?_;rw[aG]at aq;have aa:=aq;unfold RootsOk at aa;rw[dD<|by lia]at aa;obtain⟨rs,cc⟩:=aa.2;have ib:↑rs=↑tr:=by
  have h1:=cR List.length aa.1;have h2:=cR List.length cc;rw[aG,aG]at h1 h2;lia
 have f9:FrS [hd,G,C,u] Hb H7:=f7.mono (by trivial);have gj:Hand H7 hd d6 m6 t6 r:=⟨f7 _ _ (by simpa using co) ft.1,ft.2⟩;have h4:=f7 _ _ (by simpa using ai.symm) g6;have i2:=f7 _ _ (by simpa using af.symm) fe;exists _,rfl,pd,rfl,⟨_,SqL.of (e5.keep f9).2⟩;refine vO (xs:=ds.map V.str) (DF Hb hd tp lp pn pd px G C u r t6 J rs ds tr)
  ⟨_,_,_,_,d6,m6,t6,[],[],rfl,f9,gj,by lia,hm,h4,by simp,(λr d h=>by simp at h),i2,by simp,(λd h=>by simp at h)⟩ ?_ ?_ ?_
 .rintro i σ B hi ⟨_,_,_,_,_,_,_,_,_,_,M,_⟩;exact SqL.of (e5.keep M).2
 .rintro i x σ B I ⟨nx,ex,dx,sx,da,ma,ta,wk,ok,rfl,M,al,g9,a7,ck,gu,c1,cg,hs,a5⟩;obtain⟨hi,_⟩:=vg4.mp I;rw[aG]at hi;rw[bD,bH hi]at I;cases I;have a0:∀Y:Hp,FrS [hd,G,C,u] Hb Y->Y pn=some (.lst<|(tr.map (·.1)).map V.str):=λY fy=>(hf.keep fy).2;have c9:(tr.map (·.1))≠[]:=by simpa using fp
  have gr:↑(tr.map (·.1))<=12:=by rw[aG];exact fo
  refine gN ?_;refine fL λN2 bo=>?_;exists u,J,a7;refine⟨_,rfl,u,J,rfl,a7,λo Dl be=>?_⟩;have gg:Dl≠u:=λz=>by rw[z,aE]at be;cases be
  have j0:B Dl=none:=by rw[aI gg]at be;exact be
  refine EY (xs:=J.map λkv=>kv.2) (λi' σ Y=>(∃x,σ=[x])/\FrS [] (aA B u<|.frz o<|.dK J) Y/\∃as:List Addr,↑as=i'/\Y Dl=some (.lst<|as.map V.ref)/\∀(j:Nat) a,as[j]?=some a->∃rt,rs[j]?=some rt/\Y a=some (.tup [.str rt,.bl true])) ⟨⟨_,rfl⟩,(FrS.refl).put be,[],rfl,aE,(λj a h=>by simp at h)⟩ ?_ ?_ ?_
  .rintro i' σ Y hi ⟨_,fy,_⟩;exact fy _ _ (by trivial) aE
  .rintro i' x σ Y I ⟨⟨x0,rfl⟩,fy,as,dy,cr,has⟩;rw[cc]at I;obtain⟨dn,_⟩:=vg4.mp I;rw[aG]at dn;rw[bD,bH dn]at I;cases I;refine⟨_,rfl,dO rfl,λtq dr=>?_⟩;have h8:Dl≠tq:=aX cr dr;have d3:aA Y tq (.tup [V.str rs[i'],V.bl true]) Dl=some (.lst<|as.map V.ref):=by rw[aI h8];exact cr
   refine⟨_,d3,by rw[aG];exact bN (by lia),⟨_,rfl⟩,(fy.trans<|FrS.new dr).put be,as++[tq],by rw[bL,dy];rfl,by rw[aE,bP];rfl,λj a' e=>?_⟩
   by_cases hj:j<↑as
   .rw[nW hj]at e;obtain⟨rt,e1,e2⟩:=has j a' e;have e3:aA Y tq (.tup [V.str rs[i'],V.bl true]) a'=some (.tup [.str rt,.bl true]):=by rw[aI<|aX e2 dr];exact e2
    exact⟨rt,e1,GL d3 _ _ e3⟩
   .rw[oG<|by lia]at e;have h0:j-↑as=0:=by
     cases hz:j-↑as with
     | zero=>rfl
     | succ k=>rw[hz]at e;simp at e
    rw[h0]at e;simp only[FY,AX]at e;subst e;have:j=i':=by lia
    subst this;exact⟨_,bH dn,GL d3 _ _ aE⟩
  rintro σ Y ⟨_,fy,as,dy,cr,has⟩;rw[aG]at dy;have gv:J.length=↑rs:=by
   have h2:=cR List.length cc;rw[aG,aG]at h2;exact h2
  exists o,fy _ _ (by trivial) aE;have f8:FrS [] B (aA Y u<|.dK J):=FrS.thaw a7 fy;have fc:aA Y u (.dK J) Dl=some (.lst<|as.map V.ref):=by rw[aI gg];exact cr
  have bm:∀(j:Nat) a,as[j]?=some a->∃rt,rs[j]?=some rt/\aA Y u (.dK J) a=some (.tup [.str rt,.bl true]):=λj a e=>by
   obtain⟨rt,e1,e2⟩:=has j a e;exact⟨rt,e1,by rw[aI λz=>by rw[z,fy _ _ (by trivial) aE]at e2;cases e2];exact e2⟩
  generalize aA Y u (.dK J)=H8 at f8 fc bm;refine⟨Dl,as,rs.map λr=>((Sum.inr r:aL),V.bl true),rfl,SqL.of fc,by rw[aG];lia,by rw[aG];exact bN (by lia),λj t' kv gp g7=>?_,λl fm=>?_⟩
  .obtain⟨rt,e1,e2⟩:=bm j t' gp;rw[bD,e1]at g7;cases g7;exact SqT.of e2
  refine⟨l,_,rfl,aE,λo2=>?_⟩;obtain⟨qs,eq,iq,hk⟩:=Eo rs<|.bl true;generalize dX [] (rs.map λr=>((Sum.inr r:aL),V.bl true))=b8 at eq;rw[vY];have ag:FrS [] B (aA H8 l<|.frz o2<|.dK b8):=f8.trans<|FrS.new fm;have gc:aA H8 l (.frz o2<|.dK b8) l=some (.frz o2<|.dK b8):=aE;generalize aA H8 l (.frz o2<|.dK b8)=H9 at ag gc;have gm:B l=none:=f8.old (by trivial) fm;have ic:l∉[hd,G,C,u]:=cl B ⟨_,al.1⟩ ⟨_,ck⟩ ⟨_,cg⟩ ⟨_,a7⟩ l gm;refine AF (xs:=b8.map λkv=>kV kv.1) (DI H9 hd tp lp pn pd px G C u r ta J ok rs qs tr (ds.take i) ds[i] ex sx i)
   ⟨_,da,ma,ta,wk,rfl,FrS.refl,⟨ag _ _ (by trivial) al.1,al.2⟩,by lia,ag _ _ (by trivial) a7,ag _ _ (by trivial) ck,by lia,(c1.keep<|ag.mono<|by trivial).mono (λa b h=>by rcases h with h | h;exact h;simp at h),ag _ _ (by trivial) cg⟩ ?_ ?_ ?_
  .rintro j σ Z hj ⟨_,_,_,_,_,_,fz,_⟩;exact fz _ _ ic gc
  .rintro j x σ Z I ⟨ir,dz,mz,tz,wz,rfl,fz,aj,cu,fi,g0,gx,eu,fh⟩;rw[eq]at I;obtain⟨hj,_⟩:=vg4.mp I;rw[aG]at hj;rw[bD,bH hj]at I;cases I;have gk:FrS [hd,G,C,u] Hb Z:=(M.trans<|ag.mono<|by trivial).trans fz;refine⟨_,rfl,dO rfl,λp5 b6=>?_⟩;have gn:p5≠hd:=λz=>by rw[z,aj.1]at b6;cases b6
   refine⟨hd,p5,dz,mz,tz,r,_,rfl,aj.new b6,by lia,gn,SqL.of aE,by simp,by show 5<1000;decide,λy dq mq tq hy cq j3=>?_⟩;obtain⟨jn,rfl,it⟩:∃jn:Nat,y=.int (jn:Int)/\jn<=4:=by
    simp only[vh3,aT,dJ]at hy;rcases hy with rfl | rfl | rfl | rfl | rfl
    .exact⟨0,rfl,by decide⟩
    .exact⟨1,rfl,by decide⟩
    .exact⟨1,rfl,by decide⟩
    .exact⟨2,rfl,by decide⟩
    .exact⟨4,rfl,by decide⟩
   have fq:FrS [hd] Z (aA (aA Z p5<|.lst [V.int 0,V.int 1,V.int 1,V.int 2,V.int 4]) hd<|hl dq mq tq r):=(FrS.new b6).put' (by trivial);have ce:Hand (aA (aA Z p5<|.lst [V.int 0,V.int 1,V.int 1,V.int 2,V.int 4]) hd<|hl dq mq tq r) hd dq mq tq r:=Hand.at cq;generalize aA (aA Z p5<|.lst [V.int 0,V.int 1,V.int 1,V.int 2,V.int 4]) hd (hl dq mq tq r)=Hq at fq ce;refine⟨(jn:Int),rfl,by lia,by lia,λDw bd=>?_⟩;have c6:Dw≠hd:=λz=>by rw[z,ce.1]at bd;cases bd
   have dd:Z Dw=none:=oQ fq ce bd;have bt:Dw∉[hd,G,C,u]:=cl Z ⟨_,aj.1⟩ ⟨_,g0⟩ ⟨_,fh⟩ ⟨_,fi⟩ Dw dd;refine TZ (lo:=0) (n:=(jn:Int).toNat) (λdh σ Hu=>(∃kx,σ=[kx,some<|.ref hd,some<|.ref pn])/\FrS [hd] Hq Hu/\∃(du mu tu:Int)(ws:List Str),Hand Hu hd du mu tu r/\tu<=tq+dh/\Hu Dw=some (.lst<|ws.map V.str)/\↑ws=dh/\∀x∈ws,x∈tr.map (·.1))
    ⟨⟨_,rfl⟩,FrS.new bd,dq,mq,tq,[],ce.new bd,by lia,aE,rfl,by simp⟩ ?_ ?_
   .rintro dh σ Hu ii ⟨⟨kx,rfl⟩,fu,du,mu,tu,ws,eg,hc,ci,bs,az⟩;have db:Hu pn=some (.lst<|(tr.map (·.1)).map V.str):=fu _ _ (by simpa using a9)<|fq _ _ (by simpa using a9)<|a0 Z gk;refine⟨_,rfl,_,rfl,hd,pn,du,mu,tu,r,_,rfl,eg,by lia,a9,SqL.of db,by simpa using c9,by rw[aG];lia,λv dv mv tv hv cv ev=>?_⟩;obtain⟨nm,hg,rfl⟩:=vh6.mp hv;refine⟨_,by rw[aI c6];exact ci,by rw[aG];exact bN (by lia),⟨_,rfl⟩,(fu.put'<|by trivial).put bd,dv,mv,tv,ws++[nm],⟨by rw[aI c6.symm];exact aE,cv⟩,by lia,by rw[aE,bP];rfl,by rw[bL,bs];rfl,λx I=>?_⟩;rcases vj5.mp I with h | h
    .exact az x h
    .rw[vh7.mp h];exact hg
   rintro σ Hu ⟨_,fu,du,mu,tu,ws,eg,hc,ci,bs,az⟩;have i3:FrS [hd] Z Hu:=fq.trans fu;refine⟨_,rfl,_,rfl,_,rfl,dO rfl,λpk df=>?_⟩;have ba:FrS [hd] Z (aA Hu pk<|.tup [V.str qs[j],V.str ds[i]]):=i3.trans<|FrS.new df;have fn:aA Hu pk (.tup [V.str qs[j],V.str ds[i]]) Dw=some (.lst<|ws.map V.str):=by rw[aI<|aX ci df];exact ci
   have d7:=eg.new (o:=.tup [V.str qs[j],V.str ds[i]]) df;have av:aA Hu pk (.tup [V.str qs[j],V.str ds[i]]) pk=some (.tup [V.str qs[j],V.str ds[i]]):=aE;generalize aA Hu pk (.tup [V.str qs[j],V.str ds[i]])=Hk at ba fn d7 av;have d9:=ba _ _ (by simpa using cf.symm) g0;have cy:Dw≠G:=λz=>bt (by rw[z];simp)
   refine⟨G,_,rfl,DPut.t (k:=[Sum.inr qs[j],Sum.inr ds[i]]) d9 av (bN<|by lia),_,du,mu,tu,_,rfl,fz.trans ((ba.mono<|by trivial).put'<|by trivial),⟨by rw[aI cf];exact d7.1,d7.2⟩,by lia,by rw[aI ai];exact ba _ _ (by simpa using co.symm) fi,aE,?_,?_,by rw[aI ad];exact ba _ _ (by simpa using ch.symm) fh⟩
   .have:=nM wz [Sum.inr qs[j],Sum.inr ds[i]]<|V.ref Dw;lia
   .have W1:=eu.keep ((ba.mono (T:=[hd,G,C,u])<|by trivial).put' (a:=G) (o:=.dT<|aU wz [Sum.inr qs[j],Sum.inr ds[i]]<|.ref Dw)<|by trivial);refine(W1.put (r:=qs[j]) (d:=ds[i]) (p:=Dw) (ws:=ws) ⟨bt,by rw[aI cy];exact fn⟩ (by lia) az).mono λa b h=>?_
    rcases h with h | ⟨h1,h2⟩
    .exact .inl<|.inl h
    .rw[dG,bH hj]at h1;rcases vj5.mp h1 with h1 | h1
     .exact .inl<|.inr ⟨h1,h2⟩
     .have:a=qs[j]:=by simpa using h1
      exact .inr ⟨this,h2⟩
  rintro σ ak ⟨iz,dA,mA,tA,wA,rfl,fA,ff,i7,g8,fj,dw,ar,fa⟩;subst bo
  first | refine kA ?_ | skip
  refine fL λN2 bo=>?_;have i9:↑(b8.map λkv=>kV kv.1)=↑qs:=by rw[eq,aG]
  rw[i9]at i7 dw ar;rw[dD<|aO _]at ar;have b4:FrS [hd,G,C,u] Hb ak:=(M.trans<|ag.mono<|by trivial).trans fA;have cs:OwnOk [hd,G,C,u] ak (tr.map (·.1)) ok (λb=>b∈ds.take i):=a5.keep<|(ag.mono<|by trivial).trans fA;refine⟨bO _,λps ap=>?_⟩;subst bo
  first | refine kA ?_ | skip
  refine fL λN2 bo=>?_;have dg:ps∉[hd,G,C,u]:=cl ak ⟨_,ff.1⟩ ⟨_,fj⟩ ⟨_,fa⟩ ⟨_,g8⟩ ps ap;have c5:ps≠hd:=λz=>dg (by rw[z];simp)
  have h7:ps≠pn:=λz=>by rw[z,a0 ak b4]at ap;cases ap
  exists _,rfl,tp,rfl,⟨_,SqL.of<|by rw[aI<|aX (b7.keep b4).2 ap];exact(b7.keep b4).2⟩;refine vO (xs:=ts.map V.ref) (BX ak hd tp lp pn pd px G C u ps r tA tr ds[i])
   ⟨_,_,dA,mA,tA,[],rfl,FrS.new ap,ff.new ap,by lia,aE,by simp,by simp⟩ ?_ ?_ ?_
  .rintro j σ Z hj ⟨_,_,_,_,_,_,_,fz,_⟩;exact SqL.of ((b7.keep b4).keep<|fz.mono<|by trivial).2
  .rintro j x σ Z I ⟨nz,ez,dz,mz,tz,ss,rfl,fz,aj,cu,c2,bx,ae⟩;rw[bD]at I;obtain⟨tt,a8,rfl⟩:=vg8.mp I;obtain⟨hj,_⟩:=vg4.mp a8;have ca:tr[j]?=some tr[j]:=bH (by lia);have e3:=((au j tt _ a8 ca).keep b4).keep (fz.mono<|by trivial);exists tt,_,rfl,SqT.of e3.2,rfl,_,_,rfl,_,_,rfl,rfl;refine⟨_,rfl,dO rfl,λp2 b1=>?_⟩;obtain⟨kk,av,i8,ix⟩:∃kk:Int,fK [V.int 3,V.int 2] (if decide (bF tr[j].2=V.non)=true then 1 else 0)=some (.int kk)/\0<kk/\kk<10:=by
    cases tr[j].2 with
    | none=>exact⟨2,rfl,by decide,by decide⟩
    | some e=>exact⟨3,rfl,by decide,by decide⟩
   refine⟨_,rfl,.inr ⟨_,rfl,p2,_,_,V.int kk,rfl,rfl,SqL.of aE,av,hd,dz,mz,tz,r,kk,rfl,aj.new b1,by lia,i8,by lia,λy dv mv tv y0 y1 cv ev=>⟨rfl,_,rfl,?_⟩⟩⟩;have ed:aA (aA Z p2<|.lst [V.int 3,V.int 2]) hd (hl dv mv tv r) ps=some (.lst<|ss.map V.str):=by rw[aI c5,aI<|aX c2 b1];exact c2
   have fv:FrS [hd] ak (aA (aA Z p2<|.lst [V.int 3,V.int 2]) hd<|hl dv mv tv r):=(fz.trans<|FrS.new b1).put' (by trivial);have dk:Hand (aA (aA Z p2<|.lst [V.int 3,V.int 2]) hd<|hl dv mv tv r) hd dv mv tv r:=Hand.at cv;refine bJ (λc=>?_) λc=>?_
   .refine⟨_,rfl,.inl ⟨rfl,_,SqL.of ed⟩,_,rfl,ps,_,_,rfl,rfl,ed,by rw[aG];exact bN (by lia),_,_,dv,mv,tv,ss++[tr[j].1],rfl,fv.put ap,⟨by rw[aI c5.symm];exact dk.1,dk.2⟩,by lia,by rw[aE,bP];rfl,by rw[bL,dY];lia,λx I=>?_⟩;rcases vj5.mp I with h | h
    .exact ae x h
    .rw[vh7.mp h];exact vh6.mpr ⟨_,cX ca,rfl⟩
   .exact⟨_,_,dv,mv,tv,ss,rfl,fv,dk,by lia,ed,by lia,ae⟩
  rintro σ ab ⟨nz,ez,dz,mz,tz,ss,rfl,fz,aj,cu,c2,bx,ae⟩;subst bo
  first | refine kA ?_ | skip
  rw[aG]at cu bx;have fl:FrS [hd,G,C,u] ak ab:=fz.mono (by trivial);have bg:=a0 ab<|b4.trans fl;have h0:0<↑(tr.map (·.1)):=uh7.mpr c9;have e7:fK ((tr.map (·.1)).map V.str) 0=some (.str (tr.map (·.1))[0]):=by
   have:=uI (xs:=(tr.map (·.1)).map V.str) (j:=0) (v:=.str (tr.map (·.1))[0]) (by rw[bD,bH h0];rfl);exact this
  refine⟨_,rfl,_,rfl,pn,_,_,_,rfl,rfl,SqL.of bg,e7,dO rfl,λp1 ef=>?_⟩;refine⟨_,rfl,bO _,λpe c7=>?_⟩;have ay:aA ab p1 (.lst [V.str (tr.map (·.1))[0]]) ps=some (.lst<|ss.map V.str):=by rw[aI<|aX c2 ef];exact c2
  have b0:ps≠pe:=aX ay c7;have ec:p1≠pe:=λz=>by rw[<-z,aE]at c7;cases c7
  refine⟨ps,pe,_,rfl,rfl,b0,SqL.of (by rw[aI b0];exact ay),SqL.of aE,.inr ⟨_,rfl,?_⟩⟩;obtain⟨kk,av,zs,h6,j1,ie⟩:∃kk:Int,(if ((ss.map V.str).isEmpty != false)=true then(1:Int) else 0)=kk/\∃zs:List Str,(List.replicate kk.toNat [V.str (tr.map (·.1))[0]]).flatten=zs.map V.str/\↑zs<=1/\∀x∈zs,x∈tr.map (·.1):=by
   cases ss with
   | nil=>exact⟨1,rfl,[(tr.map (·.1))[0]],rfl,by simp,λx I=>by rw[vh7.mp I];exact fT h0⟩
   | cons y ys=>exact⟨0,rfl,[],rfl,by simp,by simp⟩
  have go:kk=0\/kk=1:=by
   rw[<-av]
   split
   .exact .inr rfl
   .exact .inl rfl
  rw[av];refine⟨p1,kk,_,rfl,rfl,by rw[aI ec];exact aE,by lia,by lia,?_,λp2 b1=>?_⟩
  .rcases go with rfl | rfl
   .show 1*0<=sizeLine;lia
   .show 1*1<=sizeLine;exact cM (bN<|by lia)
  rw[h6];have bk:aA (aA ab p1<|.lst [V.str (tr.map (·.1))[0]]) pe (.lst []) ps=some (.lst<|ss.map V.str):=by rw[aI b0];exact ay
  refine⟨ps,p2,_,_,rfl,rfl,by rw[aI<|aX bk b1];exact bk,aE,by rw[aG,aG];exact cM (bN<|by lia),λp3 fr=>?_⟩;rw[<-bP];have bb:FrS [] ab (aA (aA (aA (aA ab p1<|.lst [V.str (tr.map (·.1))[0]]) pe<|.lst []) p2<|.lst<|zs.map V.str) p3<|.lst<|(ss++zs).map V.str):=by
   refine(((FrS.new ef).trans<|FrS.new c7).trans<|FrS.new b1).trans (FrS.new ?_);exact fr
  have bh:aA (aA (aA (aA ab p1<|.lst [V.str (tr.map (·.1))[0]]) pe<|.lst []) p2<|.lst<|zs.map V.str) p3 (.lst<|(ss++zs).map V.str) p3=some (.lst<|(ss++zs).map V.str):=aE;have ek:ab p3=none:=FrS.old (S:=[]) (((FrS.new ef).trans<|FrS.new c7).trans<|FrS.new b1) (by trivial) fr;generalize aA (aA (aA (aA ab p1<|.lst [V.str (tr.map (·.1))[0]]) pe<|.lst []) p2<|.lst<|zs.map V.str) p3 (.lst<|(ss++zs).map V.str)=ij at bb bh;have bu:=fz _ _ (by simpa using ch.symm) fa;have bz:=fz _ _ (by simpa using cf.symm) fj;have c0:=fz _ _ (by simpa using co.symm) g8;have br:p3∉[hd,G,C,u]:=cl ab ⟨_,aj.1⟩ ⟨_,bz⟩ ⟨_,bu⟩ ⟨_,c0⟩ p3 ek;have dp:p3≠C:=λz=>br (by rw[z];simp)
  exists _,rfl,_,rfl,C,_,rfl,DPut.k (k:=(Sum.inr ds[i]:aL)) (bb _ _ (by trivial) bu) (bN<|by lia);have dm:FrS [hd,G,C,u] ak (aA ij C<|.dK<|aU ok (Sum.inr ds[i])<|.ref p3):=(fl.trans<|bb.mono<|by trivial).put' (by trivial);exists _,_,_,_,dz,mz,tz,wA,aU ok (Sum.inr ds[i])<|.ref p3,rfl,b4.trans dm,⟨by rw[aI ch];exact bb _ _ (by trivial) aj.1,aj.2⟩,by lia,by rw[aI af];exact bb _ _ (by trivial) c0,by rw[aI ad.symm];exact bb _ _ (by trivial) bz,by lia,?_,aE,?_
  .refine(ar.keep dm).mono λa b h=>?_;rw[dG,bH hi]at h;rcases vj5.mp h.2 with h2 | h2
   .exact .inl ⟨h.1,h2⟩
   .exact .inr ⟨hk a h.1,by simpa using h2⟩
  .have:=nM ok (Sum.inr ds[i])<|V.ref p3;lia
  .refine((cs.keep dm).put (d:=ds[i]) (p:=p3) (os:=ss++zs) ⟨br,by rw[aI dp];exact bh⟩ (λx I=>?_)<|by rw[bL];lia).mono' λa h=>?_
   .rcases vj5.mp I with h | h
    .exact ae x h
    .exact ie x h
   .rw[dG,bH hi]at h;rcases vj5.mp h with h2 | h2
    .exact .inl h2
    .exact .inr (by simpa using h2)
 rintro σ B ⟨nx,ex,dx,sx,da,ma,ta,wk,ok,rfl,M,al,g9,a7,ck,gu,c1,cg,hs,a5⟩;subst X
 first | refine kA ?_ | skip
 rw[aG]at g9 c1 a5;rw[dD<|aO _]at c1 a5;intro p hp;have ac:=(i6.keep M).2;refine⟨_,rfl,_,rfl,_,rfl,_,rfl,_,rfl,_,rfl,_,rfl,px,_,rfl,SqL.of (by rw[aI<|aX ac hp];exact ac),λq1 cw=>?_⟩;have e1:dC (xs.map V.str) none (some 4)=(xs.take 4).map V.str:=by rw[oF];exact IF (xs.map V.str) (n:=4) (by rw[aG];lia)
 rw[e1];have g1:FrS [] B (aA (aA B p<|.dK []) q1<|.lst<|(xs.take 4).map V.str):=(FrS.new hp).trans<|FrS.new cw;have p1:aA (aA B p<|.dK []) q1 (.lst<|(xs.take 4).map V.str) p=some (.dK []):=by rw[aI<|aX (o:=.dK []) aE cw];exact aE
 have v1:aA (aA B p<|.dK []) q1 (.lst<|(xs.take 4).map V.str) q1=some (.lst<|(xs.take 4).map V.str):=aE;have i5:B q1=none:=(FrS.new (S:=[]) (o:=.dK []) hp).old (by trivial) cw;generalize aA (aA B p<|.dK []) q1 (.lst<|(xs.take 4).map V.str)=K1 at g1 p1 v1;refine⟨_,rfl,_,rfl,_,rfl,px,_,rfl,SqL.of<|g1 _ _ (by trivial) ac,λq2 de=>?_⟩;have e2:dC (xs.map V.str) (some 4) (some 8)=((xs.drop 4).take 4).map V.str:=by rw[oF,tN];exact Du (xs.map V.str) (a:=4) (b:=8) (by rw[aG];lia) (by lia)
 rw[e2];have g2:FrS [] K1 (aA K1 q2<|.lst<|((xs.drop 4).take 4).map V.str):=FrS.new de;have v2:aA K1 q2 (.lst<|((xs.drop 4).take 4).map V.str) q2=some (.lst<|((xs.drop 4).take 4).map V.str):=aE;have ih:B q2=none:=g1.old (by trivial) de;have ao:=de;generalize aA K1 q2 (.lst<|((xs.drop 4).take 4).map V.str)=K2 at g2 v2;refine⟨_,rfl,_,rfl,px,_,rfl,SqL.of<|g2 _ _ (by trivial)<|g1 _ _ (by trivial) ac,λq3 cp=>?_⟩;have e3:dC (xs.map V.str) (some 6) none=(xs.drop 6).map V.str:=by rw[tN];exact UU (xs.map V.str) (n:=6) (by rw[aG];lia)
 rw[e3];have g3:FrS [] K2 (aA K2 q3<|.lst<|(xs.drop 6).map V.str):=FrS.new cp;have v3:aA K2 q3 (.lst<|(xs.drop 6).map V.str) q3=some (.lst<|(xs.drop 6).map V.str):=aE;generalize aA K2 q3 (.lst<|(xs.drop 6).map V.str)=K3 at g3 v3;intro pt cb;have g4:FrS [] K3 (aA K3 pt<|.dK []):=FrS.new cb;have v4:aA K3 pt (.dK []) pt=some (.dK []):=aE;generalize aA K3 pt (.dK [])=K4 at g4 v4;intro ph bv;have g5:FrS [] K4 (aA K4 ph<|.dK []):=FrS.new bv;have v5:aA K4 ph (.dK []) ph=some (.dK []):=aE;generalize aA K4 ph (.dK [])=K5 at g5 v5;have et:FrS [] K1 K5:=((g2.trans g3).trans g4).trans g5;have gz:FrS [] B K5:=g1.trans et;have fk:FrS [] B K3:=(g1.trans g2).trans g3;have ia:FrS [] B K4:=fk.trans g4;have ei:B pt=none:=fk.old (by trivial) cb;have d2:B ph=none:=ia.old (by trivial) bv;have b6:=et _ _ (by trivial) p1;have dj:pt≠ph:=aX v4 bv;have fg:p≠pt:=λz=>by rw[<-z,(g2.trans g3) _ _ (by trivial) p1]at cb;cases cb
 have bn:p≠ph:=λz=>by rw[<-z,((g2.trans g3).trans g4) _ _ (by trivial) p1]at bv;cases bv
 refine⟨_,rfl,b6,[(Sum.inr "tree",.ref tp),(Sum.inr "late",.ref lp),(Sum.inr "deeds",.ref pd),(Sum.inr "wants",.ref G),(Sum.inr "owners",.ref C),(Sum.inr "vars",.ref q1),(Sum.inr "params",.ref q2),(Sum.inr "fields",.ref q3),(Sum.inr "told",.ref pt),(Sum.inr "held",.ref ph),(Sum.inr "roots",.ref u)],rfl,by show 11<=15;decide,?_⟩;have cz:(([(Sum.inr "tree",.ref tp),(Sum.inr "late",.ref lp),(Sum.inr "deeds",.ref pd),(Sum.inr "wants",.ref G),(Sum.inr "owners",.ref C),(Sum.inr "vars",.ref q1),(Sum.inr "params",.ref q2),(Sum.inr "fields",.ref q3),(Sum.inr "told",.ref pt),(Sum.inr "held",.ref ph),(Sum.inr "roots",.ref u)]:List (aL×V)).map (·.1)).Nodup:=by
  show([Sum.inr "tree",Sum.inr "late",Sum.inr "deeds",Sum.inr "wants",Sum.inr "owners",Sum.inr "vars",Sum.inr "params",Sum.inr "fields",Sum.inr "told",Sum.inr "held",Sum.inr "roots"]:List aL).Nodup
  rfl'
 rw[WR _ [] (by rw[List.nil_append];exact cz),List.nil_append];generalize hkvs:([(Sum.inr "tree",.ref tp),(Sum.inr "late",.ref lp),(Sum.inr "deeds",.ref pd),(Sum.inr "wants",.ref G),(Sum.inr "owners",.ref C),(Sum.inr "vars",.ref q1),(Sum.inr "params",.ref q2),(Sum.inr "fields",.ref q3),(Sum.inr "told",.ref pt),(Sum.inr "held",.ref ph),(Sum.inr "roots",.ref u)]:List (aL×V))=kvs at cz;have gt:∀(j:Nat)(k:aL)(v:V),kvs[j]?=some (k,v)->aN kvs k=some v:=λj k v h=>NK cz h;have kp:∀b o,K5 b=some o->b≠p->aA K5 p (.dK kvs) b=some o:=λb o e n=>by rw[aI n];exact e
 have kx:∀b o,B b=some o->aA K5 p (.dK kvs) b=some o:=λb o e=>kp b o (gz _ _ (by trivial) e)<|aX e hp
 have b9:=al.1;have st:∀b o,b≠hd->B b=some o->Stt [hd,pt,ph] (aA K5 p<|.dK kvs) b o:=λb o n e=>⟨by simp only[vh3,aT,dJ,not_or];exact⟨n,aX e ei,aX e d2⟩,kx b o e⟩
 have ct:q1≠p:=λz=>by rw[z,p1]at v1;cases v1
 have el:q2≠p:=λz=>by rw[z]at ao;rw[p1]at ao;cases ao
 have d8:q3≠p:=λz=>by rw[z,g2 _ _ (by trivial) p1]at cp;cases cp
 have gw:B q3=none:=(g1.trans g2).old (by trivial) cp;have w1:=et _ _ (by trivial) v1;have w2:=((g3.trans g4).trans g5) _ _ (by trivial) v2;have w3:=(g4.trans g5) _ _ (by trivial) v3;have w4:=g5 _ _ (by trivial) v4;have sl:∀(b:Addr)(zs:List Str),K5 b=some (.lst<|zs.map V.str)->b≠p->B b=none->Stt [hd,pt,ph] (aA K5 p<|.dK kvs) b (.lst<|zs.map V.str):=λb zs e n e0=>⟨by
  simp only[vh3,aT,dJ,not_or];exact⟨(λz=>by rw[z,b9]at e0;cases e0),(λz=>by rw[z,w4]at e;cases e),(λz=>by rw[z,v5]at e;cases e)⟩,kp b _ e n⟩
 have di:=co.symm;have eh:=cf.symm;have eo:=ch.symm;obtain⟨own,e6⟩:∃own:Str->List Str,∀d' (bc:d'∈ds),own d'=(a5 d' bc).choose_spec.choose:=by
  classical
  exact⟨λd'=>if h:d'∈ds then(a5 d' h).choose_spec.choose else [],λd' h=>dif_pos h⟩
 refine q p ⟨tp,lp,pd,G,C,q1,q2,q3,pt,ph,u⟩ ⟨tr,late,ds,xs.take 4,(xs.drop 4).take 4,xs.drop 6,wk,ok,J,own⟩ _ ta ⟨⟨da,ma,kx _ _ al.1,al.2⟩,⟨[],kp _ _ w4 fg.symm,DOk.nil⟩,⟨[],kp _ _ v5 bn.symm,DOk.nil⟩,⟨⟨kvs,⟨?_,aE⟩,?_⟩,⟨ts,st _ _ ax (b7.keep M).2,ew,λj t' x a b=>st _ _ (d0 j t' x a b) ((au j t' x a b).keep M).2⟩,st _ _ b3 (i1.keep M).2,st _ _ b5 (e5.keep M).2,sl _ _ w1 ct i5,sl _ _ w2 el ih,sl _ _ w3 d8 gw,st _ _ eh ck,st _ _ eo cg,st _ _ di a7,?_,?_⟩,?_,?_⟩ ?_ ?_ ?_ ?_
 .simp only[vh3,aT,dJ,not_or];exact⟨(λz=>by rw[z,b9]at hp;cases hp),fg,bn⟩
 .rw[<-hkvs]at gt ⊢;exact⟨gt 0 _ _ rfl,gt 1 _ _ rfl,gt 2 _ _ rfl,gt 3 _ _ rfl,gt 4 _ _ rfl,gt 5 _ _ rfl,gt 6 _ _ rfl,gt 7 _ _ rfl,gt 8 _ _ rfl,gt 9 _ _ rfl,gt 10 _ _ rfl⟩
 .intro n' h9 d' bc;have hw:(Sum.inr n':aL)∈J.map (·.1):=by
   rw[aa.1];obtain⟨z,hz,ez⟩:=vh6.mp h9;exact vh6.mpr ⟨z,hz,by rw[<-ez]⟩
  obtain⟨v,hv⟩:∃v,aN J (Sum.inr n')=some v:=by
   cases hv:aN J (Sum.inr n')with
   | some v=>exact⟨v,rfl⟩
   | none=>exact absurd hw<|FU hv
  obtain⟨rt,rfl,gf⟩:=aq.val hv;have ej:rt∈rs:=by
   rw[cc]at gf;obtain⟨y,hy,ey⟩:=vh6.mp gf;cases ey;exact hy
  obtain⟨pp,ws,a1,a2,a3,a4⟩:=c1 rt d' ⟨ej,bc⟩;exact⟨rt,pp,ws,hv,a1,st _ _ (λz=>a2.1<|by rw[z];simp) a2.2,a3,a4⟩
 .intro d' bc;have e0:=e6 d' bc;obtain⟨a1,a2,a3,a4⟩:=(a5 d' bc).choose_spec.choose_spec;rw[<-e0]at a2 a3 a4;exact⟨_,a1,st _ _ (λz=>a2.1<|by rw[z];simp) a2.2,a3,a4⟩
 .show([hd,pt,ph]:List Addr).Nodup;simp only[vq2,vh3,aT,dJ,not_or];exact⟨⟨aX b9 ei,aX b9 d2⟩,dj,not_false,kD⟩
 .exact⟨hok,fp,fo,i0,ig,hq,(by show ds≠[];intro z;rw[z]at gi;simp at gi;lia),by show ↑ds<=6;lia,by show(xs.take 4).length=4;rw[dI];lia,by show((xs.drop 4).take 4).length=4;rw[dI,mD];lia,by show(xs.drop 6).length=3;rw[mD];lia⟩
 .exact(ea B M).trans λb o n e=>kx b o e
 .show H pt=none;exact(ea B M).old (λb hb=>by rw[vh7.mp hb];exact⟨_,b9⟩) ei
 .show H ph=none;exact(ea B M).old (λb hb=>by rw[vh7.mp hb];exact⟨_,b9⟩) d2
 .lia
abbrev IP:Stmt:=top 41
abbrev Dz:=Str×Addr×List Addr×List Addr
inductive RowsIs(Z:Str->Str->Prop)(H:Hp)(z:Dz):Prop
 | mk(h2:H z.2.1=some (.tup<|z.2.2.1.map V.ref))(h3:Fl Z H 4 z.2.2.1 z.2.2.2)(h4:↑z.2.2.2<=80):RowsIs Z H z
theorem RowsIs.keep(h:RowsIs Z H z)(f:Tup H H'):RowsIs Z H' z:=by
 obtain⟨h2,b,a⟩:=h;exact⟨f _ _ h2,b.keep f,a⟩
inductive DeedIs(Z:Str->Str->Prop)(H:Hp)(f:Addr)(z:Dz):Prop
 | mk(pv gv:V)(h1:H f=some (.tup [.str z.1,pv,.ref z.2.1,gv]))(h2:RowsIs Z H z):DeedIs Z H f z
theorem DeedIs.keep(h:DeedIs Z H a z)(f:Tup H H'):DeedIs Z H' a z:=by
 obtain⟨pv,b,h1,h2⟩:=h;exact⟨pv,b,f _ _ h1,h2.keep f⟩
inductive KindIs(Z:Str->Str->Prop)(H:Hp)(u:Addr)(y:Str×List Dz):Prop
 | mk(e:V)(dt:Addr)(fs:List Addr)(h1:H u=some (.tup [.str y.1,e,.ref dt]))(h2:H dt=some (.tup<|fs.map V.ref))(h3:↑fs=↑y.2)(h4:∀(j:Nat) f z,fs[j]?=some f->y.2[j]?=some z->DeedIs Z H f z)(h5:↑fs<=80):KindIs Z H u y
theorem KindIs.keep(h:KindIs Z H a z)(f:Tup H H'):KindIs Z H' a z:=by
 obtain⟨e,d,fs,h1,h2,m,i,l⟩:=h;exact⟨e,d,fs,f _ _ h1,f _ _ h2,m,λj g z a b=>(i j g z a b).keep f,l⟩
inductive ProgIs(Z:Str->Str->Prop)(H:Hp)(p:Addr)(ks:List (Str×List Dz))(m0:Dz):Prop
 | mk(kt:Addr)(us:List Addr)(lt:V)(h1:H p=some (.tup [.ref kt,lt,.ref m0.2.1]))(h2:H kt=some (.tup<|us.map V.ref))(h3:↑us=↑ks)(h4:∀(j:Nat) u y,us[j]?=some u->ks[j]?=some y->KindIs Z H u y)(h5:RowsIs Z H m0)(h6:↑ks<=12):ProgIs Z H p ks m0
theorem ProgIs.keep(h:ProgIs Z H p ks m0)(f:Tup H H'):ProgIs Z H' p ks m0:=by
 obtain⟨d,m,lt,h1,h2,n,i,l,e⟩:=h;exact⟨d,m,lt,f _ _ h1,f _ _ h2,n,λj g z a b=>(i j g z a b).keep f,l.keep f,e⟩
def Tup.dk(a:H p=some (.dK kv)):Tup H (aA H p o):=λb xs h=>by
 rw[aI λz=>by rw[z,a]at h;cases h];exact h
inductive LateAt(H:Hp)(p:Addr)(tr:Tr)(late:List Str):Prop
 | mk(kt lt:Addr)(m:V)(h1:H p=some (.tup [.ref kt,.ref lt,m]))(h2:H lt=some (.tup<|late.map V.str))(h3:↑late<=64)(h4:CL tr late)(h5:∃x∈tr,x.1∉late):LateAt H p tr late
def LateAt.keep(h:LateAt H p tr late)(f:Tup H H'):LateAt H' p tr late:=by
 obtain⟨a,lt,m,h1,h2,e,b,d⟩:=h;exact⟨a,lt,m,f _ _ h1,f _ _ h2,e,b,d⟩
def KindsAt.keepT(h:KindsAt H p tr)(f:Tup H H'):KindsAt H' p tr:=by
 obtain⟨d,ts,x,y,h1,h2,l,e⟩:=h;refine⟨d,ts,x,y,f _ _ h1,f _ _ h2,l,λj t z a b=>?_⟩;obtain⟨v,i⟩:=e j t z a b;exact⟨v,f _ _ i⟩
structure nV(Z:Str->Str->Prop)(ks:List (Str×List Dz))(tr:Tr):Prop where
 nm:ks.map (·.1)=tr.map (·.1)
 hz:∀k d,Z k d->k∈tr.map (·.1)/\∃n l,Up tr k l/\n∈l/\∃y∈ks,y.1=n/\∃z∈y.2,z.1=d
 dl:∃ds:List Str,↑ds<=6/\∀k d,Z k d->d∈ds
inductive WF(vs:List V)(H:Hp)(Q:VK):Prop
 | mk(hd:Addr)(mo d m t r:Int)(h1:vs=[.ref hd,.int mo])(h0:0<=mo/\mo<=80)(h2:Hand H hd d m t r)(h3:t<=1000)
  (h4:∀(p:Addr)(ks:List (Str×List Dz))(m0:Dz)(tr:Tr)(late:List Str)(Z:Str->Str->Prop)(H':Hp)(d' m' t' r':Int),FrS [hd] H H'->ProgIs Z H' p ks m0->KindsAt H' p tr->TrOk tr->↑tr<=12->LateAt H' p tr late->nV Z ks tr->Hand H' hd d' m' t' r'->t'<=10000->Q (.ref p) H'):WF vs H Q
def KC:Sp:=λvs H Q _=>WF  vs H Q
def Heads(Z:Str->Str->Prop)(H:Hp)(fs:List Addr):Prop:=∀f∈fs,∃z,DeedIs Z H f z
theorem Heads.keep(h:Heads Z H fs)(g:Tup H H'):Heads Z H' fs:=λf b=>by
 obtain⟨z,a⟩:=h f b;exact⟨z,a.keep g⟩
inductive NZ(Z:Str->Str->Prop)(Hb H:Hp)(c:Nat)(v:V):Prop
 | mk(p:Addr)(fs:List Addr)(h1:v=.ref p)(h2:H p=some (.lst<|fs.map V.ref))(h3:↑fs<=c)(h4:Hb p=none)(h5:Heads Z H fs):NZ Z Hb H c v
def BK(Z:Str->Str->Prop)(Hb H:Hp)(kvs:List (aL×V))(c:Nat):Prop:=↑kvs<=c/\∀k v,aN kvs k=some v->NZ Z Hb H c v
theorem BK.keep(h:BK Z Hb H kvs c)(f:FrS M H H')(i:∀p,Hb p=none->p∉M)(tp:Tup H H'):BK Z Hb H' kvs c:=⟨h.1,λk v e=>by
 obtain⟨p,xs,a,b,c',d,g⟩:=h.2 k v e;exact⟨p,xs,a,f _ _ (i p d) b,c',d,g.keep tp⟩⟩
def BK.put(h:BK Z Hb H kvs c)(i:H p=some (.lst<|fs.map V.ref))(hl:↑fs<=c+1)(m:Hb p=none)(l:Heads Z H fs):BK Z Hb H (aU kvs k<|.ref p) (c+1):=by
 refine⟨by have:=nM kvs k<|V.ref p;have:=h.1;lia,λf v e=>?_⟩;rw[pQ]at e
 by_cases z:f=k
 .rw[aR z]at e;cases e;exact⟨p,fs,rfl,i,hl,m,l⟩
 .rw[aK z]at e;obtain⟨n,j,a,b,c',d,g⟩:=h.2 f v e;exact⟨n,j,a,b,by lia,d,g⟩
def BK.app(h:BK Z Hb H kvs c)(j:H p=some (.lst xs))(hl:↑gs<=c)(m:Heads Z H gs):BK Z Hb (aA H p<|.lst<|gs.map V.ref) kvs c:=by
 have i:Tup H (aA H p<|.lst<|gs.map V.ref):=Tup.lst j;refine⟨h.1,λk v e=>?_⟩;obtain⟨f,l,a,b,c',d,g⟩:=h.2 k v e
 by_cases z:f=p
 .subst z;exact⟨f,gs,a,aE,hl,d,m.keep i⟩
 .exact⟨f,l,a,by rw[aI z];exact b,c',d,g.keep i⟩
def BK.more(h:BK Z Hb H kvs c)(j:c<=c'):BK Z Hb H kvs c':=⟨by have:=h.1;lia,λk v e=>by
 obtain⟨i,f,a,b,a1,d,g⟩:=h.2 k v e;exact⟨i,f,a,b,by lia,d,g⟩⟩
theorem qL:∀fs:List Addr,Heads Z H fs->∃zs:List Dz,↑fs=↑zs/\∀(i:Nat) f z,fs[i]?=some f->zs[i]?=some z->DeedIs Z H f z
 | [],_=>⟨[],rfl,λi f d h=>by simp at h⟩
 | f::fs,h=>by
  obtain⟨d,e⟩:=h f<|.head _;obtain⟨ds,h1,h2⟩:=qL fs λg a=>h g<|.tail _ a;refine⟨d::ds,cR (·+1) h1,λi g d' a hd=>?_⟩;cases i with
  | zero=>cases a;cases hd;exact e
  | succ i=>exact h2 i g d' a hd
inductive KAt(Z Wn:Str->Str->Prop)(H:Hp)(u:Addr)(z:Str×Option Str):Prop
 | mk(dt:Addr)(fs:List Addr)(h1:H u=some (.tup [.str z.1,bF z.2,.ref dt]))(h2:H dt=some (.tup<|fs.map V.ref))(h3:↑fs<=80)(h4:Heads Z H fs)(h5:∀d,Wn z.1 d->∃f∈fs,∃y,DeedIs Z H f y/\y.1=d):KAt Z Wn H u z
theorem KAt.keep(h:KAt Z Wn H u z)(g:Tup H H'):KAt Z Wn H' u z:=by
 obtain⟨i,fs,h1,h2,m,j,l⟩:=h;exact⟨i,fs,g _ _ h1,g _ _ h2,m,j.keep g,λd hd=>by
  obtain⟨f,a,y,b,e⟩:=l d hd;exact⟨f,a,y,b.keep g,e⟩⟩
theorem qP:∀(l:List Addr)(tr:Tr),A2 (KAt Z Wn H) l tr->∃ks:List (Str×List Dz),↑l=↑ks/\(∀(j:Nat) u y,l[j]?=some u->ks[j]?=some y->KindIs Z H u y)/\ks.map (·.1)=tr.map (·.1)/\∀y∈ks,∀d,Wn y.1 d->∃z∈y.2,z.1=d
 | [],_,.nil=>⟨[],rfl,(λi f d h=>by simp at h),rfl,λ_ h=>nomatch h⟩
 | u::l,_,.cons (b:=z) g gt=>by
  obtain⟨C,fs,w,G,A,B,s⟩:=g;obtain⟨zs,o,p⟩:=qL fs B;obtain⟨ks,h1,h2,v,E⟩:=qP l _ gt;refine⟨(z.1,zs)::ks,cR (·+1) h1,λi g d' n hd=>?_,cR (z.1::·) v,λy m d hd=>?_⟩
  .cases i with
   | zero=>cases n;cases hd;exact⟨_,C,fs,w,G,o,p,A⟩
   | succ i=>exact h2 i g d' n hd
  .rcases vh3.mp m with rfl | m
   .obtain⟨f,r,y,m,e⟩:=s d hd;obtain⟨i,hi⟩:=vm3.mp r;have q:i<↑zs:=by rw[<-o];exact(vg4.mp hi).1
    obtain⟨_,_,x,_⟩:=p i f zs[i] hi<|bH q;obtain⟨_,_,a,_⟩:=m;rw[x]at a;exists zs[i],fT q;injection a with a;injection a with a;injection a with a _;exact(V.str.inj a).trans e
   .exact E y m d hd
def Got(Z:Str->Str->Prop)(H:Hp)(kvs:List (aL×V))(x d:Str):Prop:=∃(p:Addr)(fs:List Addr),aN kvs (Sum.inr x)=some (.ref p)/\H p=some (.lst<|fs.map V.ref)/\∃f∈fs,∃y,DeedIs Z H f y/\y.1=d
theorem Got.keep(h:Got Z H kvs x d)(i:BK Z Hb H kvs c)(f:FrS M H H')(b:∀p,Hb p=none->p∉M)(tp:Tup H H'):Got Z H' kvs x d:=by
 obtain⟨p,fs,e,a,g,j,y,l,m⟩:=h;obtain⟨q,_,n,_,_,o,_⟩:=i.2 _ _ e;cases n;exact⟨p,fs,e,f _ _ (b p o) a,g,j,y,l.keep tp,m⟩
theorem ET:∀{l a:List Addr},l.map V.ref=a.map V.ref->l=a
 | [],[],_=>rfl
 | [],_::_,h=>by cases h
 | _::_,[],h=>by cases h
 | x::l,y::a,h=>by
  rw[eM,eM]at h;injection h with h1 h2;rw[V.ref.inj h1,ET h2]
def Got.app(h:Got Z H kvs x d)(b:H pl=some (.lst<|gs.map V.ref)):Got Z (aA H pl<|.lst<|(gs++[g0]).map V.ref) kvs x d:=by
 obtain⟨p,fs,e,a,g,f,y,i,j⟩:=h;have tp:Tup H (aA H pl<|.lst<|(gs++[g0]).map V.ref):=Tup.lst b
 by_cases c:p=pl
 .subst c;rw[b]at a;injection a with a;injection a with a;have:=ET a;subst this;exact⟨p,gs++[g0],e,aE,g,mQ _ f,y,i.keep tp,j⟩
 .exact⟨p,fs,e,by rw[aI c];exact a,g,f,y,i.keep tp,j⟩
def Got.put(h:Got Z H kvs x d)(a:aN kvs (Sum.inr x')=none):Got Z H (aU kvs (Sum.inr x') v) x d:=by
 obtain⟨p,fs,e,r⟩:=h;refine⟨p,fs,?_,r⟩;rw[pQ,aK]
 .exact e
 .intro z;rw[z,a]at e;cases e
theorem Got.dk(h:Got Z H kvs x d)(f:H b=some (.dK kv)):Got Z (aA H b<|.dK kv') kvs x d:=by
 obtain⟨p,fs,e,a,g,i,y,j,l⟩:=h;exact⟨p,fs,e,by rw[aI λz=>by rw[z,f]at a;cases a];exact a,g,i,y,j.keep<|Tup.dk f,l⟩
def FV(D:WD)(x d:Str):Prop:=d∈D.deeds/\x∈D.own d
def jI(D:WD)(i:Nat)(H:Hp)(kvs:List (aL×V)):Prop:=∀j,j<i->∀dn,D.deeds[D.deeds.length-1-j]?=some dn->∀x∈D.own dn,Got (fF D) H kvs x dn
def JB(D:WD)(i j:Nat)(H:Hp)(kvs:List (aL×V)):Prop:=∀dn,D.deeds[D.deeds.length-1-i]?=some dn->∀jj,jj<j->∀x,(D.own dn)[jj]?=some x->Got (fF D) H kvs x dn
inductive yG(mo:Int)(H1:Hp)(hd wd bk:Addr)(WA:WA)(D:WD)(t1:Int)(i:Nat)(σ:St)(Hx:Hp):Prop
 | mk(lx kx:Option V)(tx rx:Int)(kvs:List (aL×V))(h1:σ=[some<|.ref hd,some<|.int mo,some<|.ref wd,some<|.ref bk,lx,kx,none,none])(h2:Sit0 Hx hd wd WA D tx rx)(h3:FrS (M0 hd WA) H1 Hx)(h4:0<=rx)(h5:rx<=54)(h6:tx+25*rx<=t1+1350+195*(i:Int))(h7:Hx bk=some (.dK kvs))(h8:BK (fF D) H1 Hx kvs (13*i))(h9:jI D i Hx kvs):yG mo H1 hd wd bk WA D t1 i σ Hx
inductive uE(mo:Int)(H1:Hp)(hd wd bk:Addr)(WA:WA)(D:WD)(t1 lv:Int)(i j:Nat)(σ:St)(Hy:Hp):Prop
 | mk(ky:Option V)(ty ry:Int)(kvs:List (aL×V))(h1:σ=[some<|.ref hd,some<|.int mo,some<|.ref wd,some<|.ref bk,some<|.int lv,ky,none,none])(h2:Sit0 Hy hd wd WA D ty ry)(h3:FrS (M0 hd WA) H1 Hy)(h4:0<=ry)(h5:ry<=54)(h6:ty+25*ry<=t1+1350+195*(i:Int)+15*(j:Int))(h7:Hy bk=some (.dK kvs))(h8:BK (fF D) H1 Hy kvs (13*i+j))(h9:jI D i Hy kvs)(h10:JB D i j Hy kvs):uE mo H1 hd wd bk WA D t1 lv i j σ Hy
abbrev xW:List Str:=[qH,"_law_most",qW,"_law_done_by","_law_level","_law_kind","_law_main","_law_kinds"]
def yf3:cU xW [qH,"_law_most"] (cG IP):=dF
def Cf(F:Fun K "_law_program" "_law_program" IP f fd)(T:aV P w K mg base k "_law_take" qB gB)(O:aV P w K mg base k "_law_of" qC (cZ K))(W:aV P w K mg base k "_law_world" [qH] LY)(DE:aV P w K mg base k "_law_deed" HV FE)(R:aV P w K mg base k "_law_rows" mB (qT 4))(ml:mg "len"=none)(mr:mg "range"=none)(bf:mg "tuple"=none)(e9:mg "sorted"=none):
  bB P w K mg base cH (k+1) f fd [qH,"_law_most"] KC:=by
 refine F.ok yf3 (λvs H Q E h=>?_) λfg A outer s H vs Q E hr h=>?_
 .obtain⟨hd,B,d,m,t,r,rfl,_⟩:=h;rfl
 obtain⟨hd,B,d,m,t,r,rfl,fr,hh,ht,q⟩:=h;have c2:0<=B-B / 3/\B-B / 3<=54:=by lia
 have g2:0<=B / 3/\B / 3<=26:=by lia
 have hu:=gG hr;have cg:(["_law_name","_law_elder","_law_done_by"]:List Str).Nodup:=by rfl'
 exists _,aP (sL 2 yf3.nd<|aW W hr rfl<|aC (pv 0) aF)
  (aP (iW (i:=3) yf3.nd rfl (Or.inr rfl) wH) (aP (kW (bV pH (pv 1)<|bV zJ (pv 1) aQ)<|vX (pv 0) aQ vW) (aP (fQ eW rfl (Dx rfl mr<|aC (bV pH (eU nJ rfl ml jA<|aC (cT hu (pv 2) cD λ_ _=>rfl) aF) aQ)<|aC (uR sG aQ)<|aC (uR sG aQ) aF) (gL 4 yf3.nd)<|bE<|fQ eW rfl (gM<|cT hu (cT hu (pv 2) cD λ_ _=>rfl) (eI (cT hu (pv 2) cD λ_ _=>rfl)<|pv 4) λ_ _=>rfl) (gL 5 yf3.nd)<|bE<|gS<|hH hZ iX iN iK (YK (pv 3) (pv 5) (cS aF) ⟨rfl,rfl,rfl,rfl⟩)<|aC (aW DE hr rfl<|aC (pv 0)<|aC (pv 2)<|aC (pv 5)<|aC (pv 4) aF) aF) (aP (kW (bV jN (eI (pv 0) aQ)<|bV zJ (pv 1) aQ)<|vX (pv 0) aQ vW) (aP (sL 6 yf3.nd<|aW R hr rfl<|aC (pv 0)<|aC (pv 2)<|aC wH<|aC (uR sG aQ)<|aC (aW T hr rfl<|aC (pv 0)<|aC aQ aF)<|aC (aW O hr rfl<|aC (pv 0)<|aC (cS<|dL<|dL<|dL<|dL aF) aF) aF) (aP (nQ (i:=7) (N':=["_law_name","_law_elder","_law_done_by"]) (src:=[none,none,some 3]) rfl yf3.nd rfl rfl eP (gM<|cT hu (pv 2) cD λ_ _=>rfl) (g:=eA K 2<|eC (bS 0)<|eC (bS 1) dZ) (λ_ _ _ _=>fG (n:=2) rfl<|bR (gL 0 cg)<|bR (gL 1 cg) fE) (λ_ _ _ _=>gR) (te:=gD<|bG (aJ 0)<|bG (aJ 1)<|bG (jT (λxs H Q=>∃p ys,xs=[.ref p]/\((SqL K H p ys/\∀l,H l=none->Q (.ref l) (aA H l<|.tup ys))\/(SqT K H p ys/\Q (.ref p) H)))<|bG (BU K (RU (aJ 2) (aJ 0)<|lN aY)<|SR (rU λi=>.int<|-i)<|tC<|.int 1) aY) aY) λ_ _ _ _=>dQ<|aC (pv 0)<|aC (pv 1)<|aC (dE gA rfl bf (by rfl')<|aC (VO (Et hu (pv 2) (pv 0) (cS aF) ⟨rfl,rfl,rfl,rfl⟩)<|uR sG aQ) aF) aF)
  (bE<|bU<|dQ<|aC (dE gA rfl bf (by rfl')<|aC (pv 7) aF)<|aC (dE gA rfl bf (by rfl')<|aC (eU DM rfl e9 (by rfl')<|aC (cT hu (pv 2) cD λ_ _=>rfl) aF) aF)<|aC (pv 6) aF)))))))
 ac_rfl
 refine⟨_,rfl,hd,d,m,t,r,rfl,hh,by lia,λwd WA D H1 t1 S1 f1 ap ao fo=>?_⟩;have h6:=S1.ok.d6;have e5:=S1.ok.l12;intro bk ba;have S2:=S1.fr0<|FrS.new (S:=[]) (o:=.dK []) ba;have ak:bk∉M0 hd WA:=S1.notin ba;obtain⟨d2,m2,ez,d0⟩:=S2.hand;exists _,rfl,_,rfl,_,_,rfl,rfl,⟨by lia,by decide⟩,_,_,rfl,rfl,_,rfl,hd,_,3,3,rfl,rfl,ez,rfl;have aq:bk≠hd:=λz=>ak (by rw[z];simp)
 have S3:Sit0 (aA (aA H1 bk<|.dK []) hd<|hl d2 m2 t1<|B-B / 3) hd wd WA D t1 (B-B / 3):=S2.setHand d0;have f3:FrS (M0 hd WA) H1 (aA (aA H1 bk<|.dK []) hd<|hl d2 m2 t1<|B-B / 3):=(FrS.new ba).put' (by trivial);have bi:aA (aA H1 bk<|.dK []) hd (hl d2 m2 t1<|B-B / 3) bk=some (.dK []):=by rw[aI aq];exact aE
 have hM:∀p,H1 p=none->p∉M0 hd WA:=λp hp=>S1.notin hp;exists _,rfl,wd,_,rfl,S3.w.g.2.2.1,WA.deeds,_,rfl,.inl<|SqL.of S3.w.deeds.2,_,_,rfl,rfl,_,rfl,_,rfl,_,_,rfl,?_
 .rw[aG];exact⟨by lia,by lia,by decide,by decide⟩
 have du:1<=D.deeds.length:=uh7.mpr S1.ok.d1;have en:((↑(D.deeds.map V.str):Int)-1-(-1)).toNat=D.deeds.length:=by rw[aG];lia
 rw[en];refine ZP (hi:=((↑(D.deeds.map V.str):Nat):Int)-1) (n:=D.deeds.length) (yG B H1 hd wd bk WA D t1)
  ⟨_,_,t1,B-B / 3,[],rfl,S3,f3,c2.1,c2.2,by lia,bi,⟨by simp,(λk v e=>nomatch e)⟩,λj hj=>absurd hj<|Nat.not_lt_zero _⟩ ?_ ?_
 .rintro i σ Hx hi ⟨lx,kx,tx,rx,kvs,rfl,Sx,fx,eh,et,f2,bb,eg,hG⟩;have bc:D.deeds.length-1-i<D.deeds.length:=by lia
  have ck:((↑(D.deeds.map V.str):Nat):Int)-1-(i:Int)=((D.deeds.length-1-i:Nat):Int):=by rw[aG];lia
  have de:fK (D.deeds.map V.str) (((↑(D.deeds.map V.str):Nat):Int)-1-(i:Int))=some (.str D.deeds[D.deeds.length-1-i]):=by
   rw[ck];exact uI (by rw[bD,bH bc];rfl)
  have ex:D.deeds[D.deeds.length-1-i]∈D.deeds:=fT bc;obtain⟨op,o1,o2,o3,o4⟩:=S1.w.ol _ ex;have bv:D.deeds[D.deeds.length-1-i]?=some D.deeds[D.deeds.length-1-i]:=bH bc;generalize hos:D.own D.deeds[D.deeds.length-1-i]=os at o2 o3 o4;have da:=o2.keep fx;exists _,rfl,wd,_,rfl,Sx.w.g.2.2.2.2.1,_,rfl,wd,_,rfl,Sx.w.g.2.2.1,_,rfl,WA.deeds,_,_,_,rfl,rfl,SqL.of Sx.w.deeds.2,de,WA.owners,_,rfl,.inl ⟨_,Sum.inr _,.inl Sx.w.owners.2,rfl,o1.symm⟩,op,rfl,⟨_,SqL.of da.2⟩;refine vO (xs:=os.map V.str) (uE B H1 hd wd bk WA D t1 (((↑(D.deeds.map V.str):Nat):Int)-1-(i:Int)) i)
   ⟨_,tx,rx,kvs,rfl,Sx,fx,eh,et,by lia,bb,eg,hG,λ_ _ jj hj=>absurd hj<|Nat.not_lt_zero _⟩ ?_ ?_ ?_
  .rintro j σ Hy hj ⟨_,_,_,_,_,_,fy,_⟩;exact SqL.of (o2.keep fy).2
  .rintro j x σ Hy C ⟨ky,ty,ry,kvs,rfl,Sy,fy,bn,c4,ch,b6,a8,bg,b9⟩;obtain⟨hj,_⟩:=vg4.mp C;rw[aG]at hj;rw[bD,bH hj]at C;cases C;have e6:os[j]∈D.names:=o3 _<|fT hj;refine⟨_,rfl,bk,rfl,.inl ⟨_,.inl b6⟩,_,rfl,bO _,λpe ac=>?_⟩;have Sz:=Sy.fr0<|FrS.new (S:=[]) (o:=.lst []) ac;have fz:FrS (M0 hd WA) H1 (aA Hy pe<|.lst []):=fy.trans<|FrS.new ac;have ae:aA Hy pe (.lst []) bk=some (.dK kvs):=by rw[aI<|aX b6 ac];exact b6
   have aa:BK (fF D) H1 (aA Hy pe<|.lst []) kvs (13*i+j):=a8.keep (FrS.new ac) hM<|Tup.new ac;have bh:jI D i (aA Hy pe<|.lst []) kvs:=λY X dn hd x C=>(bg Y X dn hd x C).keep a8 (FrS.new ac) hM<|Tup.new ac;have bw:JB D i j (aA Hy pe<|.lst []) kvs:=λdn hd jj X x C=>(b9 dn hd jj X x C).keep a8 (FrS.new ac) hM<|Tup.new ac;have au:H1 pe=none:=fy.old Sy.have_ ac;have ab:aA Hy pe (.lst []) pe=some (.lst []):=aE;generalize aA Hy pe (.lst [])=Hz at Sz fz ae aa ab bh bw;have go:∀(pl:Addr)(fs:List Addr)(af:List (aL×V))(Hv:Hp),Sit0 Hv hd wd WA D ty ry->FrS (M0 hd WA) H1 Hv->Hv bk=some (.dK af)->BK (fF D) H1 Hv af (13*i+j+1)->Hv pl=some (.lst<|fs.map V.ref)->↑fs<=13*i+j->H1 pl=none->Heads (fF D) Hv fs->jI D i Hv af->JB D i j Hv af->aN af (Sum.inr os[j])=some (.ref pl)->
     JQ K "list" xB (bG (fZ FE [] E0<|bG (aJ 0)<|bG (aJ 2)<|bG (aJ 5)<|bG (aJ 4) aY) aY) (.ref pl) [some<|.ref hd,some<|.int B,some<|.ref wd,some<|.ref bk,some<|.int<|((↑(D.deeds.map V.str):Nat):Int)-1-(i:Int),some<|.str os[j],none,none] Hv λ_ dj=>
      uE B H1 hd wd bk WA D t1 (((↑(D.deeds.map V.str):Nat):Int)-1-(i:Int)) i (j+1) [some<|V.ref hd,some<|.int B,some<|.ref wd,some<|.ref bk,some<|.int<|((↑(D.deeds.map V.str):Nat):Int)-1-(i:Int),some<|.str os[j],none,none] dj:=by
    intro pl fs af Hv Sv fv ds aj az fn ar ei d3 er e0;refine⟨.inl ⟨rfl,_,SqL.of az⟩,_,rfl,_,rfl,_,rfl,_,rfl,hd,wd,WA,D,ty,ry,os[j],D.deeds.length-1-i,by rw[ck];rfl,e6,bc,Sv,bn,by lia,λxn dn pv gv ln bl av Hw tw es c9 cx cp c3 g0 Sw fw dw f6 fi=>?_⟩;have a5:=fw _ _ (hM pl ar) az;have bs:=fw _ _ ak ds;have b7:Tup Hv Hw:=Sv.tup fw;have dr:Heads (fF D) Hw (fs++[xn]):=λf hf=>by
     rcases vj5.mp hf with hf | hf
     .exact(ei.keep b7) f hf
     .have e:f=xn:=by simpa using hf
      rw[e];exact⟨(dn,ln,bl,av),pv,gv,cx,cp,c3,by show ↑av<=80;lia⟩
    have So:=Sit0.own (o:=.lst<|(fs++[xn]).map V.ref) S1 Sw (fv.trans fw) ar;have ea:fs.map V.ref++[V.ref xn]=(fs++[xn]).map V.ref:=by rw[bP];rfl
    exists pl,_,_,rfl,rfl,a5,bN (by rw[aG];lia);rw[ea];have ev:=aj.keep fw hM b7;refine⟨_,tw,es,af,rfl,So.1,So.2,dw,by lia,by lia,?_,?_,λY X Z I x C=>((d3 Y X Z I x C).keep aj fw hM b7).app a5,λZ I jj X x C=>?_⟩
    .rw[aI λz=>by rw[z,a5]at bs;cases bs];exact bs
    .exact ev.app a5 (by rw[bL,dY];lia) dr
    .rcases iJ jj j with ay | ay
     .exact((er Z I jj ay x C).keep aj fw hM b7).app a5
     .have d9:jj=j:=by lia
      rw[bv]at I c9;cases I;cases c9;rw[hos,d9,bH hj]at C;cases C;exact⟨pl,fs++[xn],e0,aE,xn,fR _<|vh7.mpr rfl,(_,ln,bl,av),⟨pv,gv,(Tup.lst a5) _ _ cx,(⟨cp,c3,by show ↑av<=80;lia⟩:RowsIs (fF D) Hw (_,ln,bl,av)).keep<|Tup.lst a5⟩,rfl⟩
   refine⟨kvs,Sum.inr os[j],ae,rfl,bN (by have:=aa.1;lia),λv hv=>?_,λhv=>?_⟩
   .obtain⟨pl,xs,rfl,a1,a2,a3,a4⟩:=aa.2 _ _ hv;exact go pl xs kvs Hz Sz fz ae (aa.more<|by lia) a1 a2 a3 a4 bh bw hv
   .have So:=Sit0.own (o:=.dK<|aU kvs (Sum.inr os[j])<|.ref pe) S1 Sz fz ba;have dl:pe≠bk:=λz=>by rw[z,ae]at ab;cases ab
    refine go pe [] (aU kvs (Sum.inr os[j])<|.ref pe) _ So.1 So.2 aE ?_ (by rw[aI dl];exact ab) (bO _) au (λ_ h=>by cases h) (λY X Z I x C=>((bh Y X Z I x C).put hv).dk ae) (λZ I jj X x C=>((bw Z I jj X x C).put hv).dk ae) (by rw[pQ,aR rfl]);have h1:=aa.put (fs:=[]) (k:=(Sum.inr os[j]:aL)) ab (bO _) au (λ_ h=>by cases h);refine⟨h1.1,λk v e=>?_⟩;obtain⟨p',bq,b1,b2,b3,b4,b5⟩:=h1.2 k v e;exact⟨p',bq,b1,by rw[aI λz=>by rw[z,ae]at b2;cases b2];exact b2,b3,b4,b5.keep<|Tup.dk ae⟩
  .rintro σ Hy ⟨ky,ty,ry,kvs,rfl,Sy,fy,bn,c4,ch,b6,a8,bg,b9⟩;rw[aG]at ch a8 b9;refine⟨_,_,ty,ry,kvs,rfl,Sy,fy,bn,c4,by lia,b6,a8.more (by lia),λY X Z I x C=>?_⟩;rcases iJ Y i with c | c
   .exact bg Y c Z I x C
   .have ej:Y=i:=by lia
    subst ej;rw[bv]at I;cases I;rw[hos]at C;obtain⟨jj,ay⟩:=vm3.mp C;exact b9 _ bv jj (vg4.mp ay).1 x (by rw[hos];exact ay)
 rintro σ H4 ⟨lx,kx,t4,J,kvs,rfl,S4,f4,fl,fm,fe,f0,b0,dy⟩;obtain⟨d4,m4,c0,dv⟩:=S4.hand;exists _,rfl,hd,_,_,_,rfl,rfl,SqL.of c0,CQ,_,rfl,_,_,rfl,rfl,⟨by lia,by decide⟩,_,_,rfl,rfl,_,rfl,hd,_,3,3,rfl,rfl,c0,rfl;have S5:Sit0 (aA H4 hd<|hl d4 m4 t4<|J+B / 3) hd wd WA D t4 (J+B / 3):=S4.setHand dv;have f5:FrS (M0 hd WA) H1 (aA H4 hd<|hl d4 m4 t4<|J+B / 3):=f4.put' (by trivial);have ci:aA H4 hd (hl d4 m4 t4<|J+B / 3) bk=some (.dK kvs):=by rw[aI aq];exact f0
 have ai:BK (fF D) H1 (aA H4 hd<|hl d4 m4 t4<|J+B / 3) kvs (13*D.deeds.length):=b0.keep (M:=M0 hd WA) (FrS.chg<|.head _) hM<|S4.tup<|FrS.chg<|.head _;have c1:jI D D.deeds.length (aA H4 hd<|hl d4 m4 t4<|J+B / 3) kvs:=λY X Z I x C=>(dy Y X Z I x C).keep b0 (M:=M0 hd WA) (FrS.chg<|.head _) hM<|S4.tup<|FrS.chg<|.head _;have toS:∀{G:Hp->Prop},G (aA H4 hd<|hl d4 m4 t4<|J+B / 3)->G (aA H4 hd<|.lst<|[V.int d4,V.int m4,V.int t4,V.int J].set 3<|V.int<|J+B / 3):=λh=>h;refine toS ?_;generalize aA H4 hd (hl d4 m4 t4<|J+B / 3)=H5 at S5 f5 ci ai c1;refine⟨_,rfl,_,rfl,λad bm=>?_⟩;have dg:H1 ad=none:=f5.old S5.have_ bm;have Se:Sit (aA H5 ad<|.dK []) hd ad wd WA D t4 (J+B / 3):=S5.open bm DOk.nil;have cm:∀Hf:Hp,FrS (Ms hd ad WA) (aA H5 ad<|.dK []) Hf->FrS (M0 hd WA) H5 Hf:=λHf ff=>FrS.close bm ff;generalize aA H5 ad (.dK [])=H6 at Se cm;obtain⟨d,m,e4⟩:=Se.hand;refine⟨_,rfl,_,rfl,hd,d,m,t4,J+B / 3,5,rfl,e4,by lia,by decide,by decide,λx d7 m7 t7 x0 x1 c7 e7=>?_⟩;obtain⟨dp,rfl⟩:∃dp:Nat,x=(dp:Int):=⟨x.toNat,by lia⟩;have S7:=Se.setHand (r':=J+B / 3) c7;have f7:FrS (Ms hd ad WA) H6 (aA H6 hd<|hl d7 m7 t7<|J+B / 3):=FrS.chg (by trivial);refine⟨_,rfl,dO rfl,λpi br=>?_⟩;have Sa:=S7.fr0<|FrS.new (S:=[]) (o:=.lst [V.int 4,V.int 8,V.int 12,V.int 20]) br;have fa:=f7.trans<|FrS.new (o:=.lst [V.int 4,V.int 8,V.int 12,V.int 20]) br;have bt:pi≠hd:=λz=>S7.notin br (by rw[z];simp)
 obtain⟨d,m,cy⟩:=Sa.hand;refine⟨hd,pi,d,m,t7,J+B / 3,_,rfl,cy,by lia,bt,SqL.of aE,by simp,by show 4<1000;decide,λy db mb tb hy cb eb=>?_⟩;obtain⟨mq,rfl,dz,d8⟩:∃mq:Int,y=.int mq/\0<=mq/\mq<=100:=by
  simp only[vh3,aT,dJ]at hy;rcases hy with rfl | rfl | rfl | rfl
  .exact⟨4,rfl,by decide,by decide⟩
  .exact⟨8,rfl,by decide,by decide⟩
  .exact⟨12,rfl,by decide,by decide⟩
  .exact⟨20,rfl,by decide,by decide⟩
 have Sb:=Sa.setHand (r':=J+B / 3) cb;have fb:=fa.put' (a:=hd) (o:=hl db mb tb<|J+B / 3) (by trivial);refine⟨hd,ad,wd,WA,D,tb,J+B / 3,-1,mq,dp,rfl,by lia,dz,d8,Sb,by lia,by lia,λmv c8 bx Hc tc rc cz el cf Sc fc fh fk fp=>?_⟩;have f8:=cm _<|fb.trans fc;have S8:=Sc.close;have cv:=f8 _ _ ak ci;have ax:=ai.keep f8 hM<|S5.tup f8;have cl:jI D D.deeds.length Hc kvs:=λY X Z I x C=>(c1 Y X Z I x C).keep ai f8 hM<|S5.tup f8;have ct:RowsIs (fF D) Hc ("",mv,c8,bx):=⟨cz,el,by show ↑bx<=80;lia⟩;have cw:=f5.trans f8;generalize Hc=H8 at f8 S8 cv ax cw ct cl;obtain⟨ts,c6,ft,d5⟩:=S8.w.tree;refine⟨_,rfl,wd,_,rfl,S8.w.g.1,WA.tree,rfl,⟨_,SqL.of c6.2⟩,λDl cn=>?_⟩;refine mI (xs:=ts.map V.ref) (λi σ Hx=>(∃x y,σ=[x,y,some<|.ref bk])/\FrS [] H8 Hx/\∃N:List Addr,N.length=i/\Hx Dl=some (.lst<|N.map V.ref)/\A2 (KAt (fF D) (FV D) Hx) N (D.tr.take i)) ⟨⟨_,_,rfl⟩,(FrS.refl).put cn,[],rfl,aE,.nil⟩ ?_ ?_ ?_
 .rintro i σ Hx hi ⟨_,fx,_⟩;exact SqL.of<|fx _ _ (by trivial) c6.2
 .rintro i x σ Hx C ⟨⟨fq,g1,rfl⟩,fx,N,bo,ee,ag⟩;rw[bD]at C;obtain⟨tt,an,rfl⟩:=vg8.mp C;obtain⟨hi,_⟩:=vg4.mp an;have cu:D.tr[i]?=some D.tr[i]:=bH (by lia);have e3:=d5 i tt _ an cu;have bb:=fx _ _ (by trivial) cv;exists tt,_,rfl,SqT.of<|fx _ _ (by trivial) e3.2,rfl,_,_,rfl,_,_,rfl,rfl;refine⟨_,rfl,_,rfl,_,rfl,bk,rfl,.inl ⟨_,.inl bb⟩,_,rfl,bO _,λpd e8=>?_⟩;have f9:FrS [] Hx (aA Hx pd<|.lst []):=FrS.new e8;have c5:=f9 _ _ (by trivial) bb;have b8:=f9 _ _ (by trivial) ee;have cs:aA Hx pd (.lst []) pd=some (.lst []):=aE;generalize aA Hx pd (.lst [])=L at f9 c5 b8 cs;have be:FrS [] H8 L:=fx.trans f9;obtain⟨pz,zs,em,di,ek,eu,ec⟩:∃(pz:Addr)(zs:List Addr),(aN kvs<|Sum.inr D.tr[i].1).getD (.ref pd)=.ref pz/\L pz=some (.lst<|zs.map V.ref)/\↑zs<=80/\Heads (fF D) L zs/\∀d,FV D D.tr[i].1 d->∃f∈zs,∃y,DeedIs (fF D) L f y/\y.1=d:=by
   have as:∀d,FV D D.tr[i].1 d->Got (fF D) H8 kvs D.tr[i].1 d:=λd hd=>by
    obtain⟨j,hj⟩:=vm3.mp hd.1;have fj:=(vg4.mp hj).1;refine cl (D.deeds.length-1-j) (by lia) d ?_ _ hd.2;rw[show D.deeds.length-1-(D.deeds.length-1-j)=j by lia];exact hj
   cases hv:aN kvs (Sum.inr D.tr[i].1)with
   | none=>
    refine⟨pd,[],rfl,cs,bO _,(λ_ h=>by cases h),λd hd=>?_⟩;obtain⟨p',ef,e,_⟩:=as d hd;rw[hv]at e;cases e
   | some v=>
    obtain⟨p',bq,b1,b2,b3,_,b5⟩:=ax.2 _ _ hv;refine⟨p',bq,b1,be _ _ aT b2,by lia,b5.keep<|Tup.of0 be,λd hd=>?_⟩;obtain⟨p2,ef,e,e2,g,hg,y,hy,ey⟩:=as d hd;rw[hv,b1]at e;cases e;rw[b2]at e2;injection e2 with e2;injection e2 with e2;rw[<-ET e2]at hg;exact⟨g,hg,y,hy.keep<|Tup.of0 be,ey⟩
  refine⟨_,DGet.k (k:=(Sum.inr D.tr[i].1:aL)) c5,_,rfl,rfl,pz,_,em,SqL.of di,λal eo=>?_⟩;rw[<-List.map_reverse];refine⟨al,_,rfl,.inl ⟨SqL.of aE,λpu dd=>?_⟩⟩;refine⟨dO rfl,λpt am=>?_⟩;have fA:FrS [] L (aA (aA L al<|.lst<|zs.reverse.map V.ref) pu<|.tup<|zs.reverse.map V.ref):=(FrS.new eo).trans<|FrS.new dd;have aw:aA (aA L al<|.lst<|zs.reverse.map V.ref) pu (.tup<|zs.reverse.map V.ref) pu=some (.tup<|zs.reverse.map V.ref):=aE;have bj:=fA _ _ (by trivial) b8;have co:Heads (fF D) (aA (aA L al<|.lst<|zs.reverse.map V.ref) pu<|.tup<|zs.reverse.map V.ref) zs.reverse:=λf hf=>let ⟨z,e⟩:=eu f<|List.mem_reverse.mp hf;⟨z,e.keep<|Tup.of0 fA⟩
  have ca:∀d,FV D D.tr[i].1 d->∃f∈zs.reverse,∃y,DeedIs (fF D) (aA (aA L al<|.lst<|zs.reverse.map V.ref) pu<|.tup<|zs.reverse.map V.ref) f y/\y.1=d:=λd hd=>by
   obtain⟨f,hf,y,hy,ey⟩:=ec d hd;exact⟨f,List.mem_reverse.mpr hf,y,hy.keep<|Tup.of0 fA,ey⟩
  generalize aA (aA L al<|.lst<|zs.reverse.map V.ref) pu (.tup<|zs.reverse.map V.ref)=HA at fA bj am aw co ca;have dx:Dl≠pt:=aX bj am;have cr:aA HA pt (.tup [V.str D.tr[i].1,bF D.tr[i].2,V.ref pu]) Dl=some (.lst<|N.map V.ref):=by rw[aI dx];exact bj
  refine⟨_,cr,by rw[aG];exact bN (by lia),⟨_,_,rfl⟩,(((fx.trans f9).trans fA).trans<|FrS.new am).put cn,N++[pt],by rw[bL,bo];rfl,by rw[aE,bP];rfl,?_⟩;have tl:Tup (aA HA pt<|.tup [V.str D.tr[i].1,bF D.tr[i].2,V.ref pu]) (aA (aA HA pt<|.tup [V.str D.tr[i].1,bF D.tr[i].2,V.ref pu]) Dl<|.lst<|N.map V.ref++[V.ref pt]):=Tup.lst cr;have tn:=(Tup.new (o:=.tup [V.str D.tr[i].1,bF D.tr[i].2,V.ref pu]) am).trans tl;rw[dG,cu];exact(ag.imp λu z h=>h.keep<|((Tup.of0<|f9.trans fA).trans<|Tup.new am).trans tl).snoc ⟨pu,zs.reverse,tl _ _ aE,tn _ _ aw,by rw[BP];exact ek,co.keep tn,λd hd=>by
   obtain⟨f,hf,y,hy,ey⟩:=ca d hd;exact⟨f,hf,y,hy.keep tn,ey⟩⟩
 rintro σ L ⟨_,f9,N,bo,b8,ag⟩;rw[aG]at bo ag;rw[dD<|by lia]at ag;refine⟨_,rfl,Dl,_,rfl,.inl ⟨SqL.of b8,λkt dq=>?_⟩⟩;have fA:FrS [] L (aA L kt<|.tup<|N.map V.ref):=FrS.new dq;have ah:aA L kt (.tup<|N.map V.ref) kt=some (.tup<|N.map V.ref):=aE;generalize aA L kt (.tup<|N.map V.ref)=HA at fA ah;have SA:=(S8.fr0 f9).fr0 fA;refine⟨_,rfl,wd,_,rfl,SA.w.g.2.1,WA.late,D.late,rfl,SqL.of SA.w.late.2,by have:=SA.ok.lateLen;lia,λls bp ed a7 _=>?_⟩;refine⟨ls,_,rfl,.inl ⟨SqL.of aE,λlt ew=>?_⟩⟩;refine⟨_,rfl,dO rfl,λpr cc=>?_⟩;have fB:FrS [] HA (aA (aA (aA HA ls<|.lst<|bp.map V.str) lt<|.tup<|bp.map V.str) pr<|.tup [V.ref kt,V.ref lt,V.ref mv]):=((FrS.new ed).trans<|FrS.new ew).trans<|FrS.new cc;have bd:FrS [] H8 _:=(f9.trans fA).trans fB;obtain⟨ks,eq,df,cj,dm⟩:=qP (H:=L) N _ ag;have bu:=Tup.of0<|fA.trans fB;have dc:=(Tup.of0 f9).trans bu;have SB:=SA.fr0 fB;obtain⟨dh,mh,ep⟩:=SB.hand;refine q pr ks ("",mv,c8,bx) D.tr bp (fF D) _ dh mh tc rc ?_ ⟨kt,N,V.ref lt,aE,fB _ _ aT ah,eq,λj u z bz hz=>(df j u z bz hz).keep bu,ct.keep dc,by lia⟩ ⟨kt,N,V.ref lt,V.ref mv,aE,fB _ _ aT ah,ag.len,λj u z bz hz=>?_⟩ S1.ok.ok e5 ⟨kt,lt,_,aE,?_,by rw[a7.length_eq];have:=SA.ok.lateLen;lia,λx C e e1 e2=>a7.mem_iff.mpr<|SA.ok.lateIn x C e e1<|a7.mem_iff.mp e2,by
  obtain⟨x,C,hn⟩:=SA.ok.soon;obtain⟨z,hz,rfl⟩:=vh6.mp C;exact⟨z,hz,λh=>hn<|a7.mem_iff.mp h⟩⟩ ⟨cj,λk d cq=>⟨cq.1,?_⟩,D.deeds,S1.ok.d6,λk d h=>h.2.1⟩ ep (by lia)
 .intro b o n e;refine bd _ _ (by trivial)<|cw b o (λz=>?_)<|f1 b o n e;simp only[M0,vh3,aT,dJ]at z;rcases z with z | z | z
  .exact n (by rw[z];simp)
  .exact aX e ap z
  .exact aX e ao z
 .obtain⟨z',cd,dt,fs,e1,_⟩:=ag.get bz;rw[hz]at cd;cases cd;exact⟨_,bu _ _ e1⟩
 .exact(Tup.new cc) _ _ aE
 .obtain⟨_,I,n,l,ce,hn,ho⟩:=cq;have cf:n∈ks.map (·.1):=by
   rw[cj];exact ce.mem n hn
  obtain⟨y,hy,ey⟩:=vh6.mp cf;exact⟨n,l,ce,hn,y,hy,ey,dm y hy d ⟨I,by rw[ey];exact ho⟩⟩
abbrev HY:Stmt:=top 9
abbrev MR:Stmt:=top 10
abbrev nX:Stmt:=top 11
abbrev KN:Stmt:=top 12
abbrev IC:Stmt:=top 14
def uU(x:V)(xs:List V):fK (x::xs) 0=some x:=by
 unfold fK nA;simp
def lY{K:Fg}{a:Addr}{xs:List V}{g:TG}{tb:TS}{D:dU}{σ:St}{H:Hp}(b:Nat->St->Hp->Prop)(j:b 0 σ H)(hl:∀i σ H,i<=↑xs->b i σ H->SqT K H a xs)
  (h:∀i x σ H,xs[i]?=some x->b i σ H->g x σ H λσ2 H2=>tb {D with nx:=b<|i+1,ct:=b<|i+1,bk:=D.nx} σ2 H2) (hd:∀σ H,b ↑xs σ H->D.nx σ H):
  ∃W:Nat->Nat->St->Hp->Prop,(∃m,W 0 m σ H)/\∀i m σ H,W i m σ H->
   ((tE K a).stop i H/\D.nx σ H)\/((tE K a).go i H/\∃N:St->Hp->Prop,(∀σ' H',N σ' H'->∃m',m'<m/\W (i+1) m' σ' H')/\∀x H',(tE K a).yld i H x H'->g x σ H' λσ2 H2=>tb {D with nx:=N,ct:=N,bk:=D.nx} σ2 H2):=by
 exists λi m σ H=>m=↑xs-i/\i<=↑xs/\b i σ H,⟨↑xs,by simp,bO _,j⟩;rintro i m σ H ⟨rfl,hi,p⟩;have q:=hl i σ H hi p
 by_cases d:i<↑xs
 .refine .inr ⟨⟨xs,xs[i],q,bH d⟩,b<|i+1,λσ' H' f=>⟨↑xs-(i+1),by lia,rfl,d,f⟩,λx H' y=>?_⟩;obtain⟨e,y⟩:=y;subst e;exact h i x σ _ (y xs q) p
 .have e:i=↑xs:=by lia
  subst e;exact .inl ⟨⟨xs,q,aO _⟩,hd σ H p⟩
def rX(d:Nat->St->Hp->Prop)(n:d 0 σ0 H0)(hl:∀i σ H,i<=↑xs->d i σ H->SqT K H a xs)(l:∀i x σ H,xs[i]?=some x->d i σ H->g x σ H λσ2 H2=>tt σ2 H2 λb H3=>if b=true then te σ2 H3 λv f=>∃ys,f D=some (.lst ys)/\↑ys<sizeLine/\d (i+1) σ2 (aA f D<|.lst<|ys++[v]) else d (i+1) σ2 H3)(hd:∀σ H,d ↑xs σ H->Q H):mG (tE K a) g tt te D σ0 H0 Q:=by
 exists λi m σ H=>m=↑xs-i/\i<=↑xs/\d i σ H,⟨↑xs,by simp,bO _,n⟩;rintro i m σ H ⟨rfl,hi,p⟩;have q:=hl i σ H hi p
 by_cases h:i<↑xs
 .refine .inr ⟨⟨xs,xs[i],q,by simp[h]⟩,d<|i+1,λσ' H' j=>⟨↑xs-(i+1),by lia,rfl,h,j⟩,λx H' y=>?_⟩;obtain⟨e,y⟩:=y;subst e;exact l i x σ _ (y xs q) p
 .have e:i=↑xs:=by lia
  subst e;exact .inl ⟨⟨xs,q,aO _⟩,hd σ H p⟩
def wZ(h:n<=1000000):n<sizeLine:=Nat.lt_of_le_of_lt h (by decide)
def IL(x:V)(rest:List V):dC (x::rest) (some 1) none=rest:=by
 unfold dC HT.sIx;simp
def nG(w:Str)(rest:List V):List V:=if w="either"\/w="again" then rest else []
inductive UF(vs:List V)(H:Hp)(Q:VK):Prop
 | mk(a:Addr)(w:Str)(rest:List V)(h1:vs=[.ref a])(h2:H a=some (.tup<|.str w::rest))(h3:∀p,H p=none->Q (.ref p) (aA H p<|.tup<|nG w rest)):UF vs H Q
def IW:Sp:=λvs H Q _=>UF vs H Q
def Bx:cU ["row"] ["row"] (cG MR):=dF
def Ae(F:Fun K "rows_within" "rows_within" MR f fd)(i:mg "HOLDERS"=some (.ref ah))(j:∀H,SqT K H ah [.str "either",.str "again"]):bB P w K mg base cH (k+1) f fd ["row"] IW:=by
 refine F.ok Bx (λe H Q E h=>?_) λl A outer s H e Q E m h=>?_
 .obtain⟨a,w,rest,rfl,_⟩:=h;rfl
 obtain⟨a,w,rest,rfl,ha,q⟩:=h;exists _,aP (dS (cB mJ (eT (pv 0) aQ) (EW (v:=.ref ah) rfl i rfl) rfl) (bE<|bU<|nY sV (pv 0) (nN aQ) mY) dW)
  (bE<|bU<|dQ aF)
 ac_rfl
 have d:hX (.str w) [.str "either",.str "again"]=decide (w="either"\/w="again"):=by
  have:=kJ w ["either","again"];simpa using this
 exists _,rfl,a,_,_,.str w,rfl,rfl,SqT.of ha,uU _ _,ah,_,rfl,.inr<|j _,rfl,rfl,_,rfl;show if hX (.str w) [.str "either",.str "again"]=true then _ else _
 rw[d];refine bJ (λc=>?_) λc=>?_
 .have c':=cC c;refine⟨_,rfl,_,rfl,a,_,rfl,SqT.of ha,?_,λp b=>?_⟩
  .intro z;have:=z.1;unfold HT.sIx at this;simp at this
  .have:=q p b;unfold nG at this;rw[aR c']at this;rw[IL];exact this
 .have c':¬(w="either"\/w="again"):=λz=>c<|cI z;refine⟨bO _,λp b=>?_⟩;have:=q p b;unfold nG at this;rw[aK c']at this;exact this
abbrev Bz:=(Str×Str)×Dz
def iY(y:Str×List Dz):List Bz:=y.2.map λz=>((y.1,z.1),z)
def eE(ks:List (Str×List Dz))(m0:Dz):List Bz:=(("",""),m0)::ks.flatMap iY
def BT(K:Fg)(H:Hp)(bd:Addr)(n:Str×Str):Prop:=H bd=some (.tup [.str n.1,.str n.2])\/∀H',SqT K H' bd [.str n.1,.str n.2]
def BT.keep(h:BT K H bd n)(f:Tup H H'):BT K H' bd n:=h.imp (f _ _) id
def BT.sq(h:BT K H bd n):SqT K H bd [.str n.1,.str n.2]:=h.elim SqT.of λg=>g H
inductive BodyIs(K:Fg)(H:Hp)(q:Addr)(z:Bz):Prop
 | mk(bd:Addr)(h1:H q=some (.tup [.ref bd,.ref z.2.2.1]))(h2:BT K H bd z.1):BodyIs K H q z
theorem BodyIs.keep(h:BodyIs K H q z)(f:Tup H H'):BodyIs K H' q z:=by
 obtain⟨a,h1,h2⟩:=h;exact⟨a,f _ _ h1,h2.keep f⟩
def _root_.L2.A2.bkeep(h:A2 (BodyIs K H) qs L)(f:Tup H H'):A2 (BodyIs K H') qs L:=h.imp λ_ _ g=>g.keep f
inductive US(K:Fg)(vs:List V)(H:Hp)(Q:VK):Prop
 | mk(p:Addr)(ks:List (Str×List Dz))(m0:Dz)(h1:vs=[.ref p])(h2:ProgIs Z H p ks m0)(h3:∀(b:Addr)(qs:List Addr)(H':Hp),FrS [] H H'->H' b=some (.tup<|qs.map V.ref)->A2 (BodyIs K H') qs (eE ks m0)->↑qs<=1000->Q (.ref b) H'):US K vs H Q
def HH(K:Fg):Sp:=λvs H Q _=>US K vs H Q
inductive PD(K:Fg)(H1:Hp)(p fd:Addr)(L:List Bz)(c:Nat)(σ:St)(Hx:Hp):Prop
 | mk(a b d e g h i:Option V)(qs:List Addr)(hσ:σ=[some<|.ref p,some<|.ref fd,a,b,d,e,g,h,i])(fr:FrS [] H1 Hx)(hf:Hx fd=some (.lst<|qs.map V.ref))(ha:A2 (BodyIs K Hx) qs L)(hc:↑qs<=c):PD K H1 p fd L c σ Hx
inductive TQ(K:Fg)(H1:Hp)(p fd:Addr)(n:Str)(e:V)(dt:Addr)(L:List Bz)(c:Nat)(σ:St)(Hx:Hp):Prop
 | mk(a b d f:Option V)(qs:List Addr)(hσ:σ=[some<|.ref p,some<|.ref fd,some<|.str n,some e,some<|.ref dt,a,b,d,f])(fr:FrS [] H1 Hx)(hf:Hx fd=some (.lst<|qs.map V.ref))(ha:A2 (BodyIs K Hx) qs L)(hc:↑qs<=c):TQ K H1 p fd n e dt L c σ Hx
def zk1:cU ["program","found","name","elder","deeds","deed","params","rows","gives"] qK (cG HY):=dF
def YG(F:Fun K "bodies" "bodies" HY f fd)(mM:mg "MAIN"=some (.ref am))(hM:∀H,SqT K H am [.str "",.str ""])(aa:mg "tuple"=none):bB P w K mg base cH (k+1) f fd qK (HH K):=by
 refine F.ok zk1 (λvs H Q E h=>?_) λac A outer s H vs Q E hr h=>?_
 .obtain⟨p,ks,r,rfl,_⟩:=h;rfl
 obtain⟨p,ks,r,rfl,⟨kt,us,lt,hp,hk,a0,a9,hm,ae⟩,q⟩:=h;exists _,aP (sL 1 zk1.nd<|cS<|aC (dQ<|aC (EW (v:=.ref am) rfl mM rfl)<|aC (eT (pv 0) aQ) aF) aF)
  (aP (fQ eW rfl (gO<|eT (pv 0) aQ) (fG (n:=3) rfl<|bR (gL 2 zk1.nd)<|bR (gL 3 zk1.nd)<|bR (gL 4 zk1.nd) fE)<|bE<|fQ eW rfl (gO<|pv 4) (fG (n:=4) rfl<|bR (gL 5 zk1.nd)<|bR (gL 6 zk1.nd)<|bR (gL 7 zk1.nd)<|bR (gL 8 zk1.nd) fE)<|bE<|gS<|hH hZ iX iN iK (pv 1)<|aC (dQ<|aC (dQ<|aC (pv 2)<|aC (pv 5) aF)<|aC (pv 7) aF) aF)<|bE<|bU<|dE gA rfl aa (by rfl')<|aC (pv 1) aF)
 ac_rfl
 have s2:2<=sizeLine:=cM (bN<|by decide);have s0:1<=sizeLine:=cM (bN<|by decide);refine⟨_,rfl,p,_,_,_,rfl,rfl,SqT.of hp,rfl,s2,λpt W=>⟨s0,λd M=>?_⟩⟩;have O:FrS [] H (aA (aA H pt<|.tup [.ref am,.ref r.2.1]) d<|.lst<|[pt].map V.ref):=(FrS.new W).trans<|FrS.new M;have a5:H d=none:=JZ (FrS.new W) M;exists _,rfl,p,_,_,_,rfl,rfl,SqT.of<|O _ _ aT hp,rfl,kt,rfl,⟨_,SqT.of<|O _ _ aT hk⟩;refine lY (xs:=us.map V.ref) (λi=>PD K H p d (eE (ks.take i) r)<|1+80*i) ⟨_,_,_,_,_,_,_,[pt],rfl,O,aE,.cons ⟨am,(Tup.new M) _ _ aE,.inr hM⟩ .nil,aO _⟩ ?_ ?_ ?_
 .rintro i σ Hx hi ⟨_,_,_,_,_,_,_,_,_,l,_⟩;exact SqT.of<|l _ _ aT hk
 .rintro i x σ Hx I ⟨_,_,_,_,_,_,_,a,rfl,l,N,ha,B⟩;rw[bD,vg8]at I;obtain⟨u,hu,rfl⟩:=I;have hi:i<↑ks:=by rw[<-a0];exact(vg4.mp hu).1
  have hy:ks[i]?=some ks[i]:=bH hi;obtain⟨e,Z,ds,d1,d2,d3,T,d5⟩:=a9 i u _ hu hy;have eL:eE (ks.take<|i+1) r=eE (ks.take i) r++iY ks[i]:=by
   unfold eE;rw[dG,hy,GC,List.cons_append];simp
  rw[eL];generalize ks[i]=y at d1 d3 T;exists u,_,rfl,SqT.of<|l _ _ aT d1,rfl,_,_,rfl,_,_,rfl,_,_,rfl,rfl;exists _,rfl,Z,rfl,⟨_,SqT.of<|l _ _ aT d2⟩;refine lY (xs:=ds.map V.ref) (λj=>TQ K H p d y.1 e Z (eE (ks.take i) r++(iY y).take j)<|1+80*i+j) ⟨_,_,_,_,a,rfl,l,N,by rw[List.take_zero,iA];exact ha,B⟩ ?_ ?_ ?_
  .rintro j σ J hj ⟨_,_,_,_,_,_,C,_⟩;exact SqT.of<|C _ _ aT d2
  .rintro j x σ J I ⟨_,_,_,_,a,rfl,C,a1,ha,B⟩;rw[bD,vg8]at I;obtain⟨g,hg,rfl⟩:=I;have hj:j<↑y.2:=by rw[<-d3];exact(vg4.mp hg).1
   have hz:y.2[j]?=some y.2[j]:=bH hj;obtain⟨ad,ab,X,g2⟩:=T j g _ hg hz;have eD:(iY y).take (j+1)=(iY y).take j++[((y.1,y.2[j].1),y.2[j])]:=by
    have:(iY y)[j]?=some ((y.1,y.2[j].1),y.2[j]):=by unfold iY;rw[bD,hz];rfl
    rw[dG,this];rfl
   rw[eD,<-dR];generalize y.2[j]=z at X g2;exists g,_,rfl,SqT.of<|C _ _ aT X,rfl,_,_,rfl,_,_,rfl,_,_,rfl,_,_,rfl,rfl;refine⟨_,rfl,.inl ⟨rfl,_,SqL.of a1⟩,_,rfl,_,rfl,s2,λG a7=>⟨_,rfl,s2,λm L=>?_⟩⟩;have tn:=(Tup.new (o:=.tup [V.str y.1,V.str z.1]) a7).trans<|Tup.new (o:=.tup [.ref G,.ref z.2.1]) L;have Y:FrS [] J (aA (aA J G<|.tup [V.str y.1,V.str z.1]) m<|.tup [.ref G,.ref z.2.1]):=(FrS.new a7).trans<|FrS.new L;have a8:=Y _ _ aT a1;have tl:Tup _ (aA (aA (aA J G<|.tup [V.str y.1,V.str z.1]) m<|.tup [.ref G,.ref z.2.1]) d<|.lst<|(a++[m]).map V.ref):=Tup.lst a8;exists d,_,_,rfl,rfl,a8,bN (by rw[aG];lia);rw[show a.map V.ref++[V.ref m]=(a++[m]).map V.ref by rw[bP];rfl];exact⟨_,_,_,_,a++[m],rfl,(C.trans Y).put a5,aE,(ha.bkeep<|tn.trans tl).snoc ⟨G,tl _ _ aE,.inl<|((Tup.new L).trans tl) _ _ aE⟩,by rw[bL,dY];lia⟩
  .rintro σ J ⟨_,_,_,_,a,rfl,C,a1,ha,B⟩;have el:(iY y).take ↑(ds.map V.ref)=iY y:=dD (by unfold iY;rw[aG,aG];lia);rw[el]at ha;rw[aG]at B;exact⟨_,_,_,_,_,_,_,a,rfl,C,a1,ha,by lia⟩
 .rintro σ Hx ⟨_,_,_,_,_,_,_,a,rfl,l,N,ha,B⟩;rw[aG,a0]at ha B;rw[dD<|aO _]at ha;refine⟨_,rfl,d,_,rfl,.inl ⟨SqL.of N,λb hb=>?_⟩⟩;exact q b a _ (l.trans<|FrS.new hb) aE (ha.bkeep<|Tup.new hb) (by lia)
abbrev Lz:=Addr×List Addr×List Addr
inductive LotIs(H:Hp)(n:Nat)(z:Lz):Prop
 | mk(n':Nat)(hn:n=n'+1)(h1:H z.1=some (.tup<|z.2.1.map V.ref))(h2:Fl Z H n' z.2.1 z.2.2):LotIs H n z
theorem LotIs.keep(h:LotIs H n z)(f:Tup H H'):LotIs H' n z:=by
 obtain⟨a,b,h1,h2⟩:=h;exact⟨a,b,f _ _ h1,h2.keep f⟩
inductive zL(H:Hp)(n:Nat)(a:Addr)(rs fs:List Addr):Prop
 | mk(w:Str)(rest:List V)(ls:List Lz)(fs':List Addr)(h1:H a=some (.tup<|.str w::rest))(h2:nG w rest=ls.map λz=>V.ref z.1)(h3:∀z∈ls,LotIs H n z)(h4:fs=a::(ls.flatMap (·.2.2)++fs'))(h5:Fl Z H n rs fs')(h6:↑ls<=2):zL H n a rs fs
def Fl.hd(h:Fl Z H n (a::rs) fs):zL H n a rs fs:=by
 have b:¬(("call":Str)="either"\/("call":Str)="again"):=by rfl'
 cases h with
 | one h t=>
  rcases h with ⟨w,rest,h,n1,n2,n3⟩ | ⟨x,y,k,d,g,ss,h,_,_⟩
  .exact⟨w,rest,[],_,h,by unfold nG;rw[aK λz=>z.elim n2 n3];rfl,(λz h=>by cases h),rfl,t,bO _⟩
  .exact⟨"call",_,[],_,h,by unfold nG;rw[aK b];rfl,(λz h=>by cases h),rfl,t,bO _⟩
 | @again n a l rs1 fs1 rs fs h hl s t=>
  refine⟨"again",_,[(l,rs1,fs1)],_,h,by unfold nG;rw[aR<|.inr rfl];rfl,λz hz=>?_,by simp,t,by simp⟩;have e:z=(l,rs1,fs1):=by simpa using hz
  subst e;exact⟨n,rfl,hl,s⟩
 | @either n a l1 l2 rs1 fs1 rs2 fs2 rs fs h h1 h2 s1 s2 t=>
  refine⟨"either",_,[(l1,rs1,fs1),(l2,rs2,fs2)],_,h,by unfold nG;rw[aR<|.inl rfl];rfl,λz hz=>?_,by simp,t,by simp⟩;have e:z=(l1,rs1,fs1)\/z=(l2,rs2,fs2):=by simpa using hz
  rcases e with rfl | rfl
  .exact⟨n,rfl,h1,s1⟩
  .exact⟨n,rfl,h2,s2⟩
inductive En(H:Hp)(bd:Addr):Nat->List Addr->List Addr->Prop
 | nil {k:Nat}:En H bd k [] []
 | cons {k:Nat} {e a:Addr} {es as:List Addr} (h:H e=some (.tup [.int (k:Int),.ref bd,.ref a])) (t:En H bd (k+1) es as):En H bd k (e::es) (a::as)
def En.keep(h:En H bd k es as)(f:Tup H H'):En H' bd k es as:=by
 induction h with
 | nil=>exact .nil
 | cons h _ ih=>exact .cons (f _ _ h) ih
def En.app(h:En H bd k es as)(g:En H bd (k+↑es) es' as'):En H bd k (es++es') (as++as'):=by
 induction h with
 | nil=>exact g
 | cons h _ ih=>exact .cons h (ih<|by rw[cY]at g;rwa [Nat.add_assoc,Nat.add_comm 1])
def En.len(h:En H bd k es as):↑es=↑as:=by
 induction h with
 | nil=>rfl
 | cons _ _ ih=>exact cR (·+1) ih
def FrS.tup1(f:FrS [a] H H')(h:H a=some (.lst ys)):Tup H H':=FrS.tup f λb d xs e=>by
 have:b=a:=by simpa using d
 subst this;rw[h]at e;cases e
inductive pC(n:Nat)(vs:List V)(H:Hp)(Q:VK):Prop
 | mk(bd l fd:Addr)(rs fs es:List Addr)(h1:vs=[.ref bd,.ref l,.ref fd])(h2:H l=some (.tup<|rs.map V.ref))(h3:Fl Z H n rs fs)(h4:H fd=some (.lst<|es.map V.ref))(h5:↑es+↑fs<=1000000)
  (h6:∀(x:V)(ns:List Addr)(H':Hp),FrS [fd] H H'->H' fd=some (.lst<|(es++ns).map V.ref)->En H' bd ↑es ns fs->Q x H'):pC n vs H Q
def HI(n:Nat):Sp:=λvs H Q _=>pC n vs H Q
def JJ:Nat->Sp
 | 0=>λ_ _ _ _=>False
 | n+1=>HI n
inductive CP(n:Nat)(H:Hp)(bd l fd tl:Addr)(rs fs es:List Addr)(i:Nat)(σ:St)(Hx:Hp):Prop
 | mk(a b:Option V)(ts:List V)(ns f1 f2:List Addr)(hσ:σ=[some<|.ref bd,some<|.ref l,some<|.ref fd,some<|.ref tl,a,b])(fr:FrS [fd] H Hx)(hf:Hx fd=some (.lst<|(es++ns).map V.ref))(ht:Hx tl=some (.lst ts))(hn:↑ts<=i)(he:fs=f1++f2)(hl:Fl Z Hx n (rs.drop i) f2)(hE:En Hx bd ↑es ns f1):CP n H bd l fd tl rs fs es i σ Hx
inductive yO(H1 H2:Hp)(bd fd Dl:Addr)(es:List Addr)(ls:List Lz)(j:Nat)(σ:St)(Hx:Hp):Prop
 | mk(a:Option V)(zs:List V)(ns:List Addr)(hσ:σ=[a,some<|.ref bd,some<|.ref fd])(fr:FrS [fd] H1 Hx)(tp:Tup H2 Hx)(hf:Hx fd=some (.lst<|(es++ns).map V.ref))(hD:Hx Dl=some (.lst zs))(hn:↑zs<=j)(hE:En Hx bd ↑es ns ((ls.take j).flatMap (·.2.2))):yO H1 H2 bd fd Dl es ls j σ Hx
abbrev jV:List Str:=["body","rows","found"]
def wd4:cU ["body","rows","found","told","row","number"] jV (cG nX):=dF
def QG(F:Fun K "lay" "lay" nX f fd)(WI:aV P w K mg base k "rows_within" ["row"] IW)(LA:aV P w K mg base k "lay" jV (JJ n))(ml:mg "len"=none)(b1:mg "tuple"=none):bB P w K mg base cH (k+1) f fd jV (HI n):=by
 refine F.ok wd4 (λvs H Q E h=>?_) λbp A outer s H vs Q E hr h=>?_
 .obtain⟨u,l,p,rs,fs,es,rfl,_⟩:=h;rfl
 obtain⟨u,l,p,rs,fs,es,rfl,hl,hF,al,hb,q⟩:=h;have ba:(["inner","body","found"]:List Str).Nodup:=by rfl'
 exists _,aP (sL 3 wd4.nd<|cS aF)
  (aP (fQ eW rfl (gO<|pv 1) (gL 4 wd4.nd) (aP (sL 5 wd4.nd<|eU nJ rfl ml jA<|aC (pv 2) aF) (aP (gS<|hH hZ iX iN iK (pv 2)<|aC (dQ<|aC (pv 5)<|aC (pv 0)<|aC (pv 4) aF) aF) (bE (gS (hH hZ iX iN iK (pv 3) (aC (dQ (aC (pv 5) (aC (pv 4) (aC (dE gA rfl b1 (by rfl') (aC (hV (N':=["inner","body","found"]) (src:=[none,some 0,some 2]) rfl eP (gO<|aW WI hr rfl<|aC (pv 4) aF)
     (g:=bS 0) (λ_ _ _ _=>gL 0 ba) (λ_ _ _ _=>gR)
     (te:=fZ (JJ n) [] E0<|bG (aJ 1)<|bG (aJ 0)<|bG (aJ 2) aY)
     (λ_ _ _ _=>aW LA hr rfl<|aC (pv 1)<|aC (pv 0)<|aC (pv 2) aF)) aF)) aF)))) aF)))))))
  (bE<|bU<|dE gA rfl b1 (by rfl')<|aC (pv 3) aF))
 ac_rfl
 have s3:3<=sizeLine:=cM (bN<|by decide);refine⟨bO _,λtl aa=>?_⟩;have aw:Tup H (aA H tl<|.lst []):=Tup.new aa;have T:p≠tl:=aX al aa;exists _,rfl,l,rfl,⟨_,SqT.of<|aw _ _ hl⟩;refine lY (xs:=rs.map V.ref) (CP n H u l p tl rs fs es) ⟨_,_,[],[],[],fs,rfl,FrS.new aa,by rw[aI T,iA];exact al,aE,aO _,rfl,hF.keep aw,.nil⟩ ?_ ?_ ?_
 .rintro i σ v hi ⟨_,_,_,_,_,_,_,N,_⟩;exact SqT.of<|N.tup1 al _ _ hl
 .rintro i x σ v L ⟨a0,b0,ts,d,X,C,rfl,N,a1,Y,bo,rfl,O,hE⟩;rw[bD,vg8]at L;obtain⟨a,ha,rfl⟩:=L;obtain⟨hi,rfl⟩:=vg4.mp ha;rw[DS hi]at O;obtain⟨w,rest,r,be,h1,h2,h3,rfl,h5,h6⟩:=O.hd;generalize rs[i]=a at h1;have bq:=hE.len;have b7:=hF.len;rw[bL,cY,bL]at hb b7;have bn:p≠tl:=T;exists _,rfl,p,_,rfl,.inl<|SqL.of a1;refine⟨_,rfl,.inl ⟨rfl,_,SqL.of a1⟩,_,rfl,_,rfl,_,rfl,s3,λm M=>?_⟩;have bk:=(FrS.new (S:=[]) (o:=.tup [.int (↑((es++d).map V.ref):Nat),.ref u,.ref a]) M) _ _ aT a1;exists p,_,_,rfl,rfl,bk,wZ (by rw[aG,bL];lia);have ak:(↑((es++d).map V.ref):Nat)=↑es+↑d:=by rw[aG,bL]
  rw[ak];have ai:(es++d).map V.ref++[V.ref m]=((es++(d++[m])).map V.ref):=by rw[<-dR,bP (l₂:=[m])];rfl
  rw[ai];have a6:aA v m (.tup [.int ((↑es+↑d:Nat):Int),.ref u,.ref a]) p=some (.lst<|(es++d).map V.ref):=by rw[aI<|aX a1 M];exact a1
  have a9:Tup v (aA (aA v m<|.tup [.int ((↑es+↑d:Nat):Int),.ref u,.ref a]) p<|.lst<|(es++(d++[m])).map V.ref):=(Tup.new M).trans<|Tup.lst a6;have bh:aA (aA v m<|.tup [.int ((↑es+↑d:Nat):Int),.ref u,.ref a]) p (.lst<|(es++(d++[m])).map V.ref) m=some (.tup [.int ((↑es+↑d:Nat):Int),.ref u,.ref a]):=(Tup.lst a6) _ _ aE;have ay:FrS [p] H (aA (aA v m<|.tup [.int ((↑es+↑d:Nat):Int),.ref u,.ref a]) p<|.lst<|(es++(d++[m])).map V.ref):=(N.trans<|FrS.new M).put'<|.head _;have ad:aA (aA v m<|.tup [.int ((↑es+↑d:Nat):Int),.ref u,.ref a]) p (.lst<|(es++(d++[m])).map V.ref) tl=some (.lst ts):=by rw[aI<|cW T,aI<|aX Y M];exact Y
  have ae:aA (aA v m<|.tup [.int ((↑es+↑d:Nat):Int),.ref u,.ref a]) p (.lst<|(es++(d++[m])).map V.ref) p=some (.lst<|(es++(d++[m])).map V.ref):=aE;have b4:En _ u ↑es (d++[m]) (X++[a]):=(hE.keep a9).app<|.cons bh .nil;have ar:=h5.keep a9;have am:=a9 _ _ h1;have b2:∀z∈r,LotIs (aA (aA v m<|.tup [.int ((↑es+↑d:Nat):Int),.ref u,.ref a]) p<|.lst<|(es++(d++[m])).map V.ref) n z:=λz hz=>(h3 z hz).keep a9;generalize aA (aA v m<|.tup [.int ((↑es+↑d:Nat):Int),.ref u,.ref a]) p (.lst<|(es++(d++[m])).map V.ref)=H1 at ay ad ae b4 ar am b2;refine⟨_,rfl,.inl ⟨rfl,_,SqL.of ad⟩,_,rfl,_,rfl,_,rfl,a,w,rest,rfl,am,λJ au=>⟨J,rfl,⟨_,SqT.of aE⟩,λB W=>?_⟩⟩;rw[h2];have C:FrS [] H1 (aA (aA H1 J<|.tup<|nG w rest) B<|.lst []):=(FrS.new au).trans<|FrS.new W;have a4:H1 B=none:=JZ (FrS.new au) W;rw[h2]at C W;have b6:p≠B:=aX ae a4;have ax:aA (aA H1 J<|.tup<|r.map λz=>V.ref z.1) B (.lst []) J=some (.tup<|r.map λz=>V.ref z.1):=by rw[aI λz=>by rw[<-z,aE]at W;cases W];exact aE
  have ap:=C _ _ aT ae;have bj:=C _ _ aT ad;have ah:=Tup.of0 C;have b5:aA (aA H1 J<|.tup<|r.map λz=>V.ref z.1) B (.lst []) B=some (.lst []):=aE;generalize aA (aA H1 J<|.tup<|r.map λz=>V.ref z.1) B (.lst [])=H2 at C ax ap bj ah b5;refine rX (xs:=r.map λz=>V.ref z.1) (yO H1 H2 u p B (es++(d++[m])) r) ⟨_,[],[],rfl,C.mono λ_ h=>absurd h aT,(λ_ _ h=>h),by rw[iA];exact ap,b5,aO _,.nil⟩ ?_ ?_ ?_
  .rintro j σ I hj ⟨_,_,_,_,_,ty,_⟩;exact SqT.of<|ty _ _ ax
  .rintro j x σ I L ⟨x0,zs,Z,rfl,fy,ty,ab,aj,az,G⟩;rw[bD,vg8]at L;obtain⟨z,hz,rfl⟩:=L;have bb:Tup H1 I:=ah.trans ty;obtain⟨n',rfl,z1,z2⟩:=(b2 z<|cX hz).keep bb;have bi:j<↑r:=(vg4.mp hz).1;have bc:↑((r.take j).flatMap (·.2.2))+↑z.2.2<=↑(r.flatMap (·.2.2)):=by
    have e:r=r.take j++(z::r.drop (j+1)):=by
     rw[<-(vg4.mp hz).2,<-DS bi,uY]
    conv=>rhs;rw[e]
    rw[GC,FP,bL,bL];lia
   have bf:=G.len;refine⟨_,rfl,_,rfl,_,rfl,u,z.1,p,z.2.1,z.2.2,es++(d++[m])++Z,rfl,z1,z2,ab,by rw[bL,bL,bL,dY];lia,λx nx Hz fz bg ao=>?_⟩;have av:=fz _ _ (by simpa using cW b6) aj;have an:=fz.tup1 ab;have af:Tup Hz (aA Hz B<|.lst<|zs++[x]):=Tup.lst av;exists _,av,bN (by lia),_,_,Z++nx,rfl,(fy.trans fz).put a4,(ty.trans an).trans af,by rw[aI b6,<-dR];exact bg,aE,by rw[bL,dY];lia
   .have e:(r.take<|j+1).flatMap (·.2.2)=(r.take j).flatMap (·.2.2)++z.2.2:=by
     rw[dG,hz,GC];simp
    rw[e];refine(G.keep<|an.trans af).app ?_;rw[bL]at ao;exact ao.keep af
  .rintro σ I ⟨x0,zs,Z,rfl,fy,ty,ab,aj,az,G⟩;rw[aG]at az G;rw[dD<|aO _]at G;refine⟨B,_,rfl,.inl ⟨SqL.of aj,λpt b8=>⟨s3,λpu bm=>?_⟩⟩⟩;have b9:=fy _ _ (by simpa using cW T) ad;have fn:FrS [] I (aA (aA I pt<|.tup zs) pu<|.tup [.int ((↑es+↑d:Nat):Int),.ref a,.ref pt]):=(FrS.new b8).trans<|FrS.new bm;have aq:=fn _ _ aT b9;have bl:=fn _ _ aT ab;have b3:Tup _ (aA (aA (aA I pt<|.tup zs) pu<|.tup [.int ((↑es+↑d:Nat):Int),.ref a,.ref pt]) tl<|.lst<|ts++[.ref pu]):=Tup.lst aq;have as:=(ah.trans ty).trans<|(Tup.of0 fn).trans b3;exists tl,_,_,rfl,rfl,aq,wZ (by lia);exists _,_,_,d++[m]++Z,X++(a::r.flatMap (·.2.2)),be,rfl,((ay.trans fy).trans<|fn.mono λ_ h=>absurd h aT).put aa,by rw[aI T,<-dR];exact bl,aE,by rw[bL,dY];lia,by simp,ar.keep as;have e1:X++(a::r.flatMap (·.2.2))=X++[a]++r.flatMap (·.2.2):=by simp
   rw[e1];refine(b4.keep as).app ?_;rw[bL]at G;exact G.keep<|(Tup.of0 fn).trans b3
 .rintro σ v ⟨a0,b0,ts,d,X,C,rfl,N,a1,Y,bo,rfl,O,hE⟩;rw[aG,List.drop_of_length_le<|aO _]at O;cases O;rw[iA]at q;refine⟨_,rfl,tl,_,rfl,.inl ⟨SqL.of Y,λb ag=>?_⟩⟩;exact q _ d _ (N.trans<|FrS.new ag) (by rw[aI<|aX a1 ag];exact a1)<|hE.keep<|Tup.new ag
abbrev Fz:=(Str×Str)×Addr
def eQ(L:List Bz):List Fz:=L.flatMap λz=>z.2.2.2.2.map λa=>(z.1,a)
inductive CaIs(K:Fg)(H:Hp)(e:Addr)(q:Fz×Nat):Prop
 | mk(bd:Addr)(h:H e=some (.tup [.int (q.2:Int),.ref bd,.ref q.1.2]))(hb:BT K H bd q.1.1):CaIs K H e q
theorem CaIs.keep(h:CaIs K H e q)(f:Tup H H'):CaIs K H' e q:=by
 obtain⟨a,h,b⟩:=h;exact⟨a,f _ _ h,b.keep f⟩
def _root_.L2.A2.ckeep(h:A2 (CaIs K H) qs L)(f:Tup H H'):A2 (CaIs K H') qs L:=h.imp λ_ _ g=>g.keep f
def En.ca(b:BT K H bd n)(h:En H bd k es as):A2 (CaIs K H) es ((as.map λa=>(n,a)).zipIdx k):=by
 induction h with
 | nil=>exact .nil
 | cons h _ ih=>exact .cons ⟨bd,h,b⟩ ih
def ProgIs.rows(h:ProgIs Z H p ks m0):∀z∈eE ks m0,RowsIs Z H z.2:=by
 obtain⟨u,a,lt,_,_,s,o,q,_⟩:=h;intro z hz;unfold eE at hz;rcases vh3.mp hz with rfl | hz
 .exact q
 .obtain⟨y,n,hz⟩:=List.mem_flatMap.mp hz;unfold iY at hz;obtain⟨d,hd,rfl⟩:=vh6.mp hz;obtain⟨j,b⟩:=vm3.mp n;have m:j<↑a:=by rw[s];exact(vg4.mp b).1
  obtain⟨e,v,fs,_,_,l,f,_⟩:=o j a[j] y (bH m) b;obtain⟨i,hi⟩:=vm3.mp hd;have a1:i<↑fs:=by rw[l];exact(vg4.mp hi).1
  obtain⟨_,_,_,r⟩:=f i fs[i] d (bH a1) hi;exact r
theorem uL:∀{L:List Bz},(∀z∈L,RowsIs Z H z.2)->↑(eQ L)<=80*L.length
 | [],_=>bO _
 | z::L,h=>by
  have h1:=uL (L:=L) λy a=>h y<|.tail _ a;obtain⟨_,_,b⟩:=h z<|.head _;unfold eQ at h1 ⊢;rw[FP,bL,aG,cY];lia
def vE(h:∀z∈L,RowsIs Z H z.2):∀q∈eQ L,RowIs Z H q.2:=by
 intro q b;unfold eQ at b;obtain⟨z,hz,b⟩:=List.mem_flatMap.mp b;obtain⟨a,ha,rfl⟩:=vh6.mp b;obtain⟨_,d,_⟩:=h z hz;exact d.is a ha
def FrS.own(f:FrS [] H Hx)(g:FrS [a] Hx Hy)(h:H a=none):FrS [] H Hy:=λb o _ e=>g b o (by simpa using aX e h)<|f b o aT e
inductive RI(K:Fg)(vs:List V)(H:Hp)(Q:VK):Prop
 | mk(p:Addr)(ks:List (Str×List Dz))(m0:Dz)(h1:vs=[.ref p])(h2:ProgIs Z H p ks m0)(h3:∀(b:Addr)(ns:List Addr)(H':Hp),FrS [] H H'->H' b=some (.tup<|ns.map V.ref)->A2 (CaIs K H') ns ((eQ<|eE ks m0).zipIdx 0)->Q (.ref b) H'):RI K vs H Q
def FW(K:Fg):Sp:=λvs H Q _=>RI K vs H Q
inductive xI(K:Fg)(H H1:Hp)(p fd:Addr)(L:List Bz)(i:Nat)(σ:St)(Hx:Hp):Prop
 | mk(a b:Option V)(ns:List Addr)(hσ:σ=[some<|.ref p,some<|.ref fd,a,b])(fr:FrS [] H Hx)(tp:Tup H1 Hx)(hf:Hx fd=some (.lst<|ns.map V.ref))(ha:A2 (CaIs K Hx) ns ((eQ<|L.take i).zipIdx 0)):xI K H H1 p fd L i σ Hx
def xh7:cU ["program","found","body","rows"] qK (cG KN):=dF
def XG(F:Fun K "numbered" "numbered" KN f fd)(BO:aV P w K mg base k "bodies" qK (HH K))(LA:aV P w K mg base k "lay" jV (HI 4))(aa:mg "tuple"=none):bB P w K mg base cH (k+1) f fd qK (FW K):=by
 refine F.ok xh7 (λvs H Q E h=>?_) λad A outer s H vs Q E W h=>?_
 .obtain⟨p,ks,l,rfl,_⟩:=h;rfl
 obtain⟨p,ks,l,rfl,J,q⟩:=h;exists _,aP (sL 1 xh7.nd<|cS aF)
  (aP (fQ eW rfl (gO<|aW BO W rfl<|aC (pv 0) aF) (fG (n:=2) rfl<|bR (gL 2 xh7.nd)<|bR (gL 3 xh7.nd) fE)<|bE<|gS<|aW LA W rfl<|aC (pv 2)<|aC (pv 3)<|aC (pv 1) aF)<|bE<|bU<|dE gA rfl aa (by rfl')<|aC (pv 1) aF)
 ac_rfl
 refine⟨bO _,λd m=>?_⟩;have f0:FrS [] H (aA H d<|.lst []):=FrS.new m;refine⟨_,rfl,p,ks,l,rfl,J.keep<|Tup.new m,λb qs H1 T N o ac=>⟨b,rfl,⟨_,SqT.of N⟩,?_⟩⟩;have a9:=T _ _ aT aE;have M:=f0.trans T;have e:∀z∈eE ks l,RowsIs _ H1 z.2:=(J.keep<|Tup.of0 M).rows;have O:=o.len;generalize eE ks l=L at o e O q;have a7:=uL e;refine lY (xs:=qs.map V.ref) (xI K H H1 p d L) ⟨_,_,[],rfl,M,(λ_ _ h=>h),a9,.nil⟩ ?_ ?_ ?_
 .rintro i σ v hi ⟨_,_,_,_,_,tp,_⟩;exact SqT.of<|tp _ _ N
 .rintro i x σ v I ⟨a0,b0,j,rfl,r,tp,a1,ha⟩;rw[bD,vg8]at I;obtain⟨u,hu,rfl⟩:=I;obtain⟨z,hz,bd,X,u2⟩:=o.get hu;obtain⟨Z,r3,r4⟩:=(e z<|cX hz).keep tp;have eF:eQ (L.take<|i+1)=eQ (L.take i)++z.2.2.2.2.map λa=>(z.1,a):=by
   unfold eQ;rw[dG,hz,GC];simp
  have B:=ha.len;rw[BA]at B;have ab:↑(eQ<|L.take i)<=80*L.length:=by
   have:=uL (L:=L.take i) λy hy=>e y<|BH hy;have h2:↑(L.take i)<=L.length:=by rw[dI];lia
   lia
  exists u,_,rfl,SqT.of<|tp _ _ X,rfl,_,_,rfl,_,_,rfl,rfl;refine⟨_,rfl,_,rfl,_,rfl,bd,z.2.2.1,d,z.2.2.2.1,z.2.2.2.2,j,rfl,Z,r3,a1,by lia,λx nx Hy G a8 Y=>?_⟩;have ty:=G.tup1 a1;exists _,_,j++nx,rfl,r.own G m,tp.trans ty,a8;rw[eF,List.zipIdx_append];refine(ha.ckeep ty).app ?_;have:=Y.ca<|u2.keep<|tp.trans ty;rwa [B,<-mL ↑(eQ<|L.take i)]at this
 .rintro σ v ⟨a0,b0,j,rfl,r,tp,a1,ha⟩;rw[aG,O,dD<|aO _]at ha;refine⟨_,rfl,d,_,rfl,.inl ⟨SqL.of a1,λc C=>?_⟩⟩;exact q c j _ (r.trans<|FrS.new C) aE<|ha.ckeep<|Tup.new C
def ProgIs.many(h:ProgIs Z H p ks m0):↑(eE ks m0)<=1000:=by
 obtain⟨r,b,lt,_,_,f,m,_,o⟩:=h;have a:∀ks:List (Str×List Dz),(∀y∈ks,↑y.2<=80)->↑(ks.flatMap iY)<=80*↑ks:=by
  intro ks
  induction ks with
  | nil=>intro _;exact bO _
  | cons y ks ih=>
   intro h;have h1:=ih λz hz=>h z<|.tail _ hz;have h2:=h y<|.head _;have f:↑(iY y)=↑y.2:=by unfold iY;rw[aG]
   rw[FP,bL,cY];lia
 have n:=a ks λy l=>by
  obtain⟨j,d⟩:=vm3.mp l;have i:j<↑b:=by rw[f];exact(vg4.mp d).1
  obtain⟨e,s,fs,_,_,q,_,u⟩:=m j b[j] y (bH i) d;lia
 unfold eE;rw[cY];lia
abbrev MW:Stmt:=top 3
open Classical in
noncomputable def below(tr:Tr)(o x:Str):Bool:=decide (∃l,Up tr x l/\o∈l)
open Classical in
def EJ(ok:TrOk tr)(h:Up tr x l):decide (o∈l)=below tr o x:=by
 unfold below
 by_cases e:o∈l
 .rw[cI e];exact(cI ⟨l,h,e⟩).symm
 .rw[eR e];refine(eR ?_).symm;rintro⟨b,h',a⟩;rw[Up.inj ok h h']at e;exact e a
def DL(h1:PI X tg l w1)(h2:PI X tg l w2):PI X tg l (λσ H R=>w1 σ H R\/w2 σ H R):=λa s σ H R I h=>h.elim (h1 a s σ H R I)<|h2 a s σ H R I
def LT(H:Hp)(a:Addr)(xs:List V):Prop:=H a=some (.lst xs)\/H a=some (.tup xs)
def LT.keep(h:LT H a xs)(f:FrS [] H H'):LT H' a xs:=h.imp (f _ _ aT)<|f _ _ aT
def Gi(q:σ[j]?=some (some<|V.ref a))(f:LT H a xs)(h:∀e,H e=none->∃d:Nat->St->Hp->Prop,d 0 (sub src σ) (aA H e<|.lst [])/\(∀i σ H',i<=↑xs->d i σ H'->FrS [] H H')/\(∀i x σ H,xs[i]?=some x->d i σ H->g x σ H λσ2 H2=>tt σ2 H2 λb H3=>if b=true then te σ2 H3 λv o=>∃ys,o e=some (.lst ys)/\↑ys<sizeLine/\d (i+1) σ2 (aA o e<|.lst<|ys++[v]) else d (i+1) σ2 H3)/\∀σ H,d ↑xs σ H->Q (.ref e) H):
  CT (λσ H R=>LS K (aJ j) σ H R\/xJ K (aJ j) σ H R) src g tt te σ H Q:=by
 rcases f with f | f
 .refine .inl ⟨_,q,a,rfl,⟨_,SqL.of f⟩,λe l=>?_⟩;obtain⟨d,n,h1,h2,m⟩:=h e l;exact mI (xs:=xs) d n (λi σ H' hi p=>SqL.of<|h1 i σ H' hi p _ _ aT f) h2 m
 .refine .inr ⟨_,q,a,rfl,⟨_,SqT.of f⟩,λe l=>?_⟩;obtain⟨d,n,h1,h2,m⟩:=h e l;exact rX (xs:=xs) d n (λi σ H' hi p=>SqT.of<|h1 i σ H' hi p _ _ aT f) h2 m
inductive QN(vs:List V)(H:Hp)(Q:VK):Prop
 | mk(p a:Addr)(o:Str)(tr:Tr)(ss:List Str)(h1:vs=[.ref p,.ref a,.str o])(h2:KindsAt H p tr)(h3:TrOk tr)(h4:↑tr<=12)(h5:LT H a (ss.map V.str))(h6:∀x∈ss,∃l,Up tr x l)(h7:↑ss<=64)
  (h8:∀(b:Addr)(H':Hp),FrS [] H H'->H' b=some (.lst<|(ss.filter<|below tr o).map V.str)->Q (.ref b) H'):QN vs H Q
def zS:Sp:=λvs H Q _=>QN vs H Q
inductive yE(H1:Hp)(p Dl:Addr)(o:Str)(tr:Tr)(ss:List Str)(i:Nat)(σ:St)(Hx:Hp):Prop
 | mk(x:Option V)(hσ:σ=[x,some<|.ref p,some<|.str o])(fr:FrS [] H1 Hx)(hD:Hx Dl=some (.lst<|((ss.take i).filter<|below tr o).map V.str)):yE H1 p Dl o tr ss i σ Hx
abbrev CC:List Str:=["program","kinds","other"]
def qQ:cU CC CC (cG MW):=dF
def ZE(F:Fun K "all_below" "all_below" MW f fd)(M:aV P w K mg base k "is_below" ["program","one","other"] EX):bB P w K mg base cH (k+1) f fd CC zS:=by
 refine F.ok qQ (λI H Q E h=>?_) λT A outer s H I Q E J h=>?_
 .obtain⟨p,a,o,tr,ss,rfl,_⟩:=h;rfl
 obtain⟨p,a,o,tr,ss,rfl,G,n,L,ha,N,hl,q⟩:=h;have C:(["kind","program","other"]:List Str).Nodup:=by rfl'
 exists _,bE<|bU<|hV (N':=["kind","program","other"]) (src:=[none,some 0,some 2]) rfl eP (DL (gM<|pv 1)<|gO<|pv 1) (g:=bS 0) (λ_ _ _ _=>gL 0 C) (tt:=tB<|fZ EX [] E0<|bG (aJ 1)<|bG (aJ 0)<|bG (aJ 2) aY) (λ_ _ _ _=>mE<|vQ<|aW M J rfl<|aC (pv 1)<|aC (pv 0)<|aC (pv 2) aF) λ_ _ _ _=>pv 0
 ac_rfl
 refine Gi (a:=a) (xs:=ss.map V.str) rfl ha λm r=>⟨yE H p m o tr ss,⟨_,rfl,(FrS.refl).put r,aE⟩,?_,?_,?_⟩
 .rintro i σ e hi ⟨_,_,b,_⟩;exact b
 .rintro i x σ e u ⟨O,rfl,b,d⟩;rw[bD,vg8]at u;obtain⟨y,v,rfl⟩:=u;obtain⟨l,z⟩:=N y<|cX v;have B:(ss.take<|i+1).filter (below tr o)=(ss.take i).filter (below tr o)++[y].filter (below tr o):=by
   rw[dG,v,CN];rfl
  have W:↑((ss.take i).filter<|below tr o)<=64:=by
   have h2:=kG (below tr o)<|ss.take i;rw[dI]at h2;lia
  refine⟨_,rfl,_,rfl,_,rfl,p,y,o,tr,l,rfl,G.keepT<|Tup.of0 b,n,L,z,λX j=>⟨_,rfl,?_⟩⟩;have a1:=j _ _ aT d;rw[EJ n z];refine bJ (λc=>?_) λc=>?_
  .exists _,rfl,_,a1,bN (by rw[aG];lia),_,rfl,(b.trans j).put r;rw[aE,B,xR c,lV,bP];rfl
  .exists _,rfl,b.trans j;rw[B,zD c,lV,iA];exact a1
 .rintro σ e ⟨O,rfl,b,d⟩;rw[aG,dD<|aO _]at d;exact q m e b d
abbrev KO:Stmt:=top 42
def UpIn(tr:Tr)(ss:List Str):Prop:=∀x∈tr,x.1∈ss->∀e,x.2=some e->e∈ss
inductive PB(vs:List V)(H:Hp)(Q:VK):Prop
 | mk(hd p:Addr)(d m t r:Int)(tr:Tr)(late:List Str)(h1:vs=[.ref hd,.ref p])(h2:Hand H hd d m t r)(h3:t<=100000)(h4:KindsAt H p tr)(h5:TrOk tr)(h6:↑tr<=12)(h7:LateAt H p tr late)
  (h8:∀(a:Addr)(ss:List Str)(H':Hp)(d' m' t':Int),FrS [hd] H H'->H' a=some (.tup<|ss.map V.str)->↑ss<=12->(∀x∈ss,∃l,Up tr x l)->UpIn tr ss->(∀x∈tr,x.1∉late->x.1∈ss)->Hand H' hd d' m' t' r->t'<=t+20->Q (.ref a) H'):PB vs H Q
def LM:Sp:=λvs H Q _=>PB vs H Q
inductive WG(H:Hp)(hd p fl:Addr)(tr:Tr)(late:List Str)(t r:Int)(i:Nat)(σ:St)(Hx:Hp):Prop
 | mk(x4 x5 x6:Option V)(ns:List Str)(dx mx tx:Int)(hσ:σ=[some<|.ref hd,some<|.ref p,some<|.ref fl,x4,x5,x6])(fr:FrS [hd] H Hx)(hf:Hx fl=some (.lst<|ns.map V.str))(hn:↑ns<=i)(hU:∀x∈ns,∃l,Up tr x l)(hh:Hand Hx hd dx mx tx r)(ht:tx<=t+i)(hi:UpIn tr ns)(ho:∀x∈tr.take i,x.1∉late->x.1∈ns):WG H hd p fl tr late t r i σ Hx
abbrev JV:List Str:=[qH,"_law_program_here"]
def yc3:cU [qH,"_law_program_here","_law_found","_law_name","_law_elder","_law_deeds"] JV (cG KO):=dF
def Cm(F:Fun K "_law_there" "_law_there" KO f fd)(T:aV P w K mg base k "_law_take" qB gB)(ao:mg "tuple"=none)(af:mg "sorted"=none):bB P w K mg base cH (k+1) f fd JV LM:=by
 refine F.ok yc3 (λvs H Q E h=>?_) λaw A outer s H vs Q E hr h=>?_
 .obtain⟨hd,p,d,m,t,r,tr,B,rfl,_⟩:=h;rfl
 obtain⟨hd,p,d,m,t,r,tr,B,rfl,W,ht,hK,hT,as,hL,q⟩:=h;exists _,aP (sL 2 yc3.nd<|cS aF)
  (aP (fQ eW rfl (gO<|eT (pv 1) aQ) (fG (n:=3) rfl<|bR (gL 3 yc3.nd)<|bR (gL 4 yc3.nd)<|bR (gL 5 yc3.nd) fE)<|bE<|dS (PW.pt<|CF (cB GV (pv 3) (eT (pv 1) aQ) rfl)<|BW<|PW.pt<|kL (PW.pt<|CF (pE<|LQ<|pv 4)<|BW<|cB mJ (pv 4) (pv 2) rfl)<|lW<|cB iL (aW T hr rfl<|aC (pv 0)<|aC aQ aF) aQ<|cO _) (bE<|gS<|hH hZ iX iN iK (pv 2)<|aC (pv 3) aF) dW)<|bE<|bU<|dE gA rfl ao (by rfl')<|aC (eU DM rfl af (by rfl')<|aC (pv 2) aF) aF)
 ac_rfl
 refine⟨bO _,λG a8=>?_⟩;have a9:hd≠G:=aX W.1 a8;have am:Hand (aA H G<|.lst []) hd d m t r:=⟨by rw[aI a9];exact W.1,W.2⟩;have f0:FrS [hd] H (aA H G<|.lst []):=FrS.new a8;obtain⟨kt,ts,x',y',hp,hk,a4,ar⟩:=id hK;obtain⟨av,lt,m2,ae,ak,ay,al,_⟩:=id hL;have ac:=f0.tup1 W.1;exists _,rfl,p,_,_,_,rfl,rfl,SqT.of<|ac _ _ hp,rfl,kt,rfl,⟨_,SqT.of<|ac _ _ hk⟩;refine lY (xs:=ts.map V.ref) (WG H hd p G tr B t r) ⟨_,_,_,[],d,m,t,rfl,f0,aE,aO _,(λx h=>nomatch h),am,by lia,(λx _ h=>nomatch h),λx h=>nomatch h⟩ ?_ ?_ ?_
 .rintro i σ L hi ⟨_,_,_,_,_,_,_,_,J,_⟩;exact SqT.of<|J.tup1 W.1 _ _ hk
 .rintro i x σ L o ⟨x4,x5,x6,I,dx,mx,tx,rfl,J,M,hn,hU,N,ab,a5,a1⟩;rw[bD,vg8]at o;obtain⟨u,hu,rfl⟩:=o;have hi:i<↑tr:=by rw[<-a4];exact(vg4.mp hu).1
  have hz:tr[i]?=some tr[i]:=bH hi;have ap:tr[i]∈tr:=fT hi;obtain⟨v,hv⟩:=ar i u _ hu hz;obtain⟨l,aq⟩:=Up.exists hT i _ _ hz;have a7:=J.tup1 W.1;exists u,_,rfl,SqT.of<|a7 _ _ hv,rfl,_,_,rfl,_,_,rfl,_,_,rfl,rfl;have ad:tr.take (i+1)=tr.take i++[tr[i]]:=by rw[dG,hz];rfl
  have Y:tr[i].1∉B->∀e,tr[i].2=some e->e∈I:=λhn e C=>by
   obtain⟨j,hj,g,hg⟩:=hT.up i tr[i].1 e (by rw[hz,<-C]);refine a1 (e,g) (cX (i:=j)<|by rw[GZ hj];exact hg) λhl=>?_
   exact hn<|al _ ap e C hl
  have cond:∀Q:Bool->Hp->Prop,(∀(b:Bool)(O:Hp)(dy my ty:Int),(b=true->∀e,tr[i].2=some e->e∈I)->(b=false->tr[i].1∈B)->FrS [hd] H O->O G=some (.lst<|I.map V.str)->Hand O hd dy my ty r->ty<=tx+1->Q b O)->
    AA (gH<|cJ (iG K true) (aJ 3)<|cJ (dB K) (aJ 1)<|tC<|.int 1) (iU (AA (tB<|uD<|aJ 4)<|gH<|cJ (iG K false) (aJ 4)<|aJ 2)<|gH<|cJ nU (fZ gB [] E0<|bG (aJ 0)<|bG (tC<|.int 2) aY)<|tC<|.int 0) [some<|.ref hd,some<|.ref p,some<|.ref G,some<|.str tr[i].1,some<|bF tr[i].2,some v] L Q:=by
   intro Q hQ;exists _,rfl,_,rfl,p,_,_,_,rfl,rfl,SqT.of<|a7 _ _ ae,rfl,lt,_,rfl,.inr<|SqT.of<|a7 _ _ ak,rfl,jB _,_,rfl;show if (!hX (.str tr[i].1) (B.map V.str))=true then _ else _
   rw[kJ];refine bJ (λc=>hQ _ L dx mx tx (λ_=>Y<|by simpa using c) (λz=>nomatch z) J M N<|by lia) λc=>?_;have hl:tr[i].1∈B:=by simpa using c
   have tk:(∀e,tr[i].2=some e->e∈I)->gH (cJ nU (fZ gB [] E0<|bG (aJ 0)<|bG (tC<|.int 2) aY)<|tC<|.int 0) [some<|.ref hd,some<|.ref p,some<|.ref G,some<|.str tr[i].1,some<|bF tr[i].2,some v] L Q:=λC=>by
    refine⟨_,rfl,hd,dx,mx,tx,r,2,rfl,N,by lia,by decide,by decide,λy d2 an t2 y0 y1 c2 e2=>⟨rfl,_,rfl,?_⟩⟩;exact hQ _ _ d2 an t2 (λ_=>C) (λ_=>hl) (J.put'<|.head _) (by rw[aI<|cW a9];exact M) (Hand.at c2) e2
   exists _,rfl,_,rfl;cases C:tr[i].2 with
   | none=>
    refine lF ?_;rw[C]at tk;exact tk λe h=>nomatch h
   | some e=>
    refine eV ⟨_,rfl,_,rfl,G,_,rfl,.inl<|SqL.of M,rfl,jB _,_,rfl,?_⟩;show if hX (.str e) (I.map V.str)=true then _ else _
    rw[kJ];rw[C]at tk;refine bJ (λc=>?_) λc=>?_
    .exact tk λe' h=>by cases h;exact cC c
    .exact hQ _ L dx mx tx (λz=>nomatch z) (λ_=>hl) J M N (by lia)
  refine cond _ λb O dy my ty ai ah fy a6 aa au=>?_;cases b with
  | true=>
   have fn:FrS [hd] H (aA O G<|.lst<|I.map V.str++[V.str tr[i].1]):=fy.put a8;exists _,rfl,.inl ⟨rfl,_,SqL.of a6⟩,_,rfl,G,_,_,rfl,rfl,a6,bN (by rw[aG];lia);refine⟨_,_,_,I++[tr[i].1],dy,my,ty,rfl,fn,by rw[aE,bP];rfl,by rw[bL,dY];lia,λx o=>?_,⟨by rw[aI a9];exact aa.1,aa.2⟩,by lia,λx o ag e C=>?_,λx o X=>?_⟩
   .rcases vj5.mp o with o | o
    .exact hU x o
    .rw[vh7.mp o];exact⟨l,aq⟩
   .refine mQ _ ?_;rcases vj5.mp ag with h | h
    .exact a5 x o h e C
    .obtain⟨j,hj⟩:=vm3.mp o;have ej:i=j:=hT.one (n:=tr[i].1) (a:=tr[i].2) (b:=x.2) hz (by rw[hj,<-vh7.mp h]);subst ej;rw[hz]at hj;cases hj;exact ai rfl e C
   .rw[ad]at o;rcases vj5.mp o with o | o
    .exact mQ _<|a1 x o X
    .rw[vh7.mp o];exact fR _<|.head _
  | false=>
   refine⟨_,_,_,I,dy,my,ty,rfl,fy,a6,by lia,hU,aa,by lia,a5,λx o X=>?_⟩;rw[ad]at o;rcases vj5.mp o with o | o
   .exact a1 x o X
   .rw[vh7.mp o]at X;exact absurd (ah rfl) X
 .rintro σ L ⟨x4,x5,x6,I,dx,mx,tx,rfl,J,M,hn,hU,N,ab,a5,a1⟩;rw[aG,a4]at hn ab a1;rw[dD<|aO _]at a1;refine⟨_,rfl,G,I,rfl,SqL.of M,by lia,λsl ss aj Z ax=>⟨sl,_,rfl,.inl ⟨SqL.of aE,λa ha=>?_⟩⟩⟩;have fn:FrS [] L (aA (aA L sl<|.lst<|ss.map V.str) a<|.tup<|ss.map V.str):=(FrS.new aj).trans<|FrS.new ha;exact q a ss _ dx mx tx (J.trans<|fn.mono λ_ h=>absurd h aT) aE (by rw[Z.length_eq];lia) (λx o=>hU x<|Z.mem_iff.mp o) (λx o h e C=>Z.mem_iff.mpr<|a5 x o (Z.mem_iff.mp h) e C) (λx o h=>Z.mem_iff.mpr<|a1 x o h) ⟨fn _ _ aT N.1,N.2⟩ (by lia)
abbrev JG:Stmt:=top 4
abbrev Kd:=List<|Str×Option Str×List Str
def uV(H:Hp)(dt:Addr)(ds:List Str):Prop:=∃fs:List Addr,H dt=some (.tup<|fs.map V.ref)/\↑fs=↑ds/\∀(i:Nat) f d,fs[i]?=some f->ds[i]?=some d->∃rest,H f=some (.tup<|.str d::rest)
def DeedsAt(H:Hp)(p:Addr)(kd:Kd):Prop:=∃(kt:Addr)(ts:List Addr)(x y:V),H p=some (.tup [.ref kt,x,y])/\H kt=some (.tup<|ts.map V.ref)/\↑ts=↑kd/\
 ∀(j:Nat) t z,ts[j]?=some t->kd[j]?=some z->∃dt,H t=some (.tup [.str z.1,bF z.2.1,.ref dt])/\uV H dt z.2.2
def eO(kd:Kd)(n d:Str):Prop:=∃z∈kd,z.1=n/\d∈z.2.2
def zr6:cU ["program","kind","deed","name","elder","deeds","found"] qI (cG JG):=dF
def LK:Sp:=λvs H Q _=>∃(p:Addr)(n d:Str)(kd:Kd),vs=[.ref p,.str n,.str d]/\DeedsAt H p kd/\(eO kd n d->∀f,Q (.ref f) H)/\(¬eO kd n d->Q .non H)
def Cw(F:Fun K "deed_of" "deed_of" JG f fd):bB P w K mg base cH (k+1) f fd qI LK:=by
 refine F.ok zr6 (λvs H Q E h=>?_) λaa A outer s H vs Q E hr h=>?_
 .obtain⟨p,n,d,kd,rfl,_⟩:=h;rfl
 obtain⟨p,n,d,kd,rfl,⟨kt,ts,x,y,hp,L,I,Y⟩,q1,q2⟩:=h;exists _,aP (fQ eW rfl (gO<|eT (pv 0) aQ) (fG (n:=3) rfl<|bR (gL 3 zr6.nd)<|bR (gL 4 zr6.nd)<|bR (gL 5 zr6.nd) fE)<|bE<|dS (cB iL (pv 3) (pv 1)<|cO _) (bE<|fQ eW rfl (gO<|pv 5) (gL 6 zr6.nd)<|bE<|dS (cB iL (eT (pv 6) aQ) (pv 2)<|cO _) (bE<|bU<|pv 6) dW) dW)
  (bE<|bU xG)
 exists _,rfl,p,_,_,_,rfl,rfl,SqT.of hp,rfl,kt,rfl,⟨_,SqT.of L⟩;have a5:∀i,eO (kd.take i) n d->eO kd n d:=by rintro i ⟨z,hz,h⟩;exact⟨z,BH hz,h⟩
 refine lY (xs:=ts.map V.ref) (λi σ m=>m=H/\(∃a b c e,σ=[some<|.ref p,some<|.str n,some<|.str d,a,b,c,e])/\¬eO (kd.take i) n d) ⟨rfl,⟨_,_,_,_,rfl⟩,by rintro⟨z,hz,_⟩;exact by cases hz⟩ (λi σ m _ h=>by rw[h.1];exact SqT.of L) ?_ ?_
 .rintro i x σ m o ⟨rfl,⟨Z,X,c0,T,rfl⟩,u⟩;rw[bD,vg8]at o;obtain⟨t,M,rfl⟩:=o;have hi:i<↑kd:=by rw[<-I];exact(vg4.mp M).1
  have hz:kd[i]?=some kd[i]:=bH hi;obtain⟨J,h1,fs,h2,G,a9⟩:=Y i t _ M hz;have a1:(kd[i].1=n/\d∈kd[i].2.2->False)->¬eO (kd.take<|i+1) n d:=by
   rintro hh ⟨z,l,r,O⟩;rw[dG,hz]at l;rcases vj5.mp l with l | l
   .exact u ⟨z,l,r,O⟩
   .have e:z=kd[i]:=by simpa using l
    subst e;exact hh ⟨r,O⟩
  exists t,_,rfl,SqT.of h1,rfl,_,_,rfl,_,_,rfl,_,_,rfl,rfl;exists _,rfl,_,rfl,rfl,_,rfl;refine bJ (λc=>?_) λc=>?_
  .have en:kd[i].1=n:=V.str.inj<|cC c;exists _,rfl,J,rfl,⟨_,SqT.of h2⟩;refine lY (xs:=fs.map V.ref) (λj σ v=>v=m/\(∃e,σ=[some<|.ref p,some<|.str n,some<|.str d,some<|.str kd[i].1,some<|bF kd[i].2.1,some<|.ref J,e])/\d∉kd[i].2.2.take j) ⟨rfl,⟨_,rfl⟩,λz=>by cases z⟩ (λj σ v _ h=>by rw[h.1];exact SqT.of h2) ?_ ?_
   .rintro j x σ v o ⟨rfl,⟨r,rfl⟩,q⟩;rw[bD,vg8]at o;obtain⟨g,C,rfl⟩:=o;have N:j<kd[i].2.2.length:=by rw[<-G];exact(vg4.mp C).1
    have hd:kd[i].2.2[j]?=some kd[i].2.2[j]:=bH N;obtain⟨rest,W⟩:=a9 j g _ C hd;exists _,rfl,g,_,_,.str kd[i].2.2[j],rfl,rfl,SqT.of W,uU _ _,_,rfl,rfl,_,rfl;refine bJ (λc=>?_) λc=>?_
    .have B:kd[i].2.2[j]=d:=V.str.inj<|cC c;exact⟨_,rfl,q1 ⟨kd[i],fT hi,en,B▸fT N⟩ g⟩
    .have B:kd[i].2.2[j]≠d:=λz=>c (cI<|by rw[z])
     refine⟨rfl,⟨_,rfl⟩,λl=>?_⟩;rw[dG,hd]at l;rcases vj5.mp l with l | l
     .exact q l
     .have e:d=kd[i].2.2[j]:=by simpa using l
      exact B e.symm
   .rintro σ v ⟨rfl,⟨r,rfl⟩,q⟩;rw[aG,G,dD<|aO _]at q;exact⟨rfl,⟨_,_,_,_,rfl⟩,a1 λh=>q h.2⟩
  .have en:kd[i].1≠n:=λz=>c (cI<|by rw[z])
   exact⟨rfl,⟨_,_,_,_,rfl⟩,a1 λh=>en h.1⟩
 .rintro σ m ⟨rfl,⟨Z,X,c0,T,rfl⟩,u⟩;rw[aG,I,dD<|aO _]at u;exact q2 u
abbrev ML:Stmt:=top 5
def gW(kd:Kd):Tr:=kd.map λz=>(z.1,z.2.1)
def DeedsAt.kinds(h:DeedsAt H p kd):KindsAt H p (gW kd):=by
 obtain⟨i,ts,x,y,a,b,hl,a1⟩:=h;refine⟨i,ts,x,y,a,b,by unfold gW;rw[aG];exact hl,λj t z d hz=>?_⟩;unfold gW at hz;rw[bD,vg8]at hz;obtain⟨f,e,rfl⟩:=hz;obtain⟨l,h1,_⟩:=a1 j t f d e;exact⟨_,h1⟩
def DeedsAt.keep(h:DeedsAt H p kd)(f:FrS [] H H'):DeedsAt H' p kd:=by
 obtain⟨n,ts,x,y,a,e,hl,m⟩:=h;refine⟨n,ts,x,y,f _ _ aT a,f _ _ aT e,hl,λj t z l hz=>?_⟩;obtain⟨o,h1,fs,h2,s,q⟩:=m j t z l hz;refine⟨o,f _ _ aT h1,fs,f _ _ aT h2,s,λi g d b hd=>?_⟩;obtain⟨rest,r⟩:=q i g d b hd;exact⟨rest,f _ _ aT r⟩
instance decHasD (kd:Kd) (n d:Str):Decidable (eO kd n d):=by unfold eO;infer_instance
def iD(kd:Kd)(d:Str)(l:List Str):Option Str:=l.find? λx=>decide<|eO kd x d
def YR(hz:l[i]?=some z)(b:∀x∈l.take i,¬eO kd x d)(e:eO kd z d):iD kd d l=some z:=by
 obtain⟨hi,rfl⟩:=vg4.mp hz;unfold iD;rw[List.find?_eq_some_iff_append];refine⟨cI e,l.take i,l.drop<|i+1,?_,λx a=>by simpa using b x a⟩;rw[<-DS hi,uY]
def Fb{K:Fg}{a:Addr}{xs:List V}{g:TG}{tb:TS}{D:dU}{σ:St}{H:Hp}(b:Nat->St->Hp->Prop)(j:b 0 σ H)(hl:∀i σ H,i<=↑xs->b i σ H->SqT K H a xs)
  (h:∀i x σ H,xs.reverse[i]?=some x->b i σ H->g x σ H λσ2 H2=>tb {D with nx:=b<|i+1,ct:=b<|i+1,bk:=D.nx} σ2 H2) (hd:∀σ H,b ↑xs σ H->D.nx σ H):
  ∃W:Nat->Nat->St->Hp->Prop,(∃m,W 0 m σ H)/\∀i m σ H,W i m σ H->
   ((lE K a ↑xs).stop i H/\D.nx σ H)\/((lE K a ↑xs).go i H/\∃N:St->Hp->Prop,(∀σ' H',N σ' H'->∃m',m'<m/\W (i+1) m' σ' H')/\∀x H',(lE K a ↑xs).yld i H x H'->g x σ H' λσ2 H2=>tb {D with nx:=N,ct:=N,bk:=D.nx} σ2 H2):=by
 exists λi m σ H=>m=↑xs-i/\i<=↑xs/\b i σ H,⟨↑xs,by simp,bO _,j⟩;rintro i m σ H ⟨rfl,hi,p⟩;have q:=hl i σ H hi p
 by_cases d:i<↑xs
 .refine .inr ⟨⟨xs,xs.reverse[i]'(by rw[BP];exact d),q,rfl,bH _⟩,b<|i+1,λσ' H' f=>⟨↑xs-(i+1),by(clear hi;lia),rfl,d,f⟩,λx H' y=>?_⟩;obtain⟨e,y⟩:=y;subst e;exact h i x σ _ (y xs q) p
 .have e:i=↑xs:=by lia
  subst e;exact .inl ⟨⟨xs,q,rfl,aO _⟩,hd σ H p⟩
def xh2:cU ["program","kind","deed","name"] qI (cG ML):=dF
inductive UK(vs:List V)(H:Hp)(Q:VK):Prop
 | mk(p:Addr)(n d:Str)(kd:Kd)(l:List Str)(h1:vs=[.ref p,.str n,.str d])(h2:DeedsAt H p kd)(h3:TrOk (gW kd))(h4:↑(gW kd)<=12)(h5:Up (gW kd) n l)(h6:∀(H':Hp),FrS [] H H'->Q (bF<|iD kd d l) H'):UK vs H Q
def GA:Sp:=λvs H Q _=>UK vs H Q
def ZB{k:Nat}(F:Fun K "answer" "answer" ML f fd)(T:aV P w K mg base k "elders" ["program","kind"] FC)(I:aV P w K mg base k "deed_of" qI LK)(L:mg "reversed"=none):
  bB P w K mg base cH (k+1) f fd qI GA:=by
 refine F.ok xh2 (λJ H Q E h=>?_) λM A outer s H J Q E v h=>?_
 .obtain⟨p,n,d,kd,l,rfl,_⟩:=h;rfl
 obtain⟨p,n,d,kd,l,rfl,u,ok,G,C,q⟩:=h;exists _,aP (fQ eW rfl (sN rfl L<|aC (aW T v rfl<|aC (pv 0)<|aC (pv 1) aF) aF) (gL 3 xh2.nd)<|bE<|dS (pE<|CM<|aW I v rfl<|aC (pv 0)<|aC (pv 3)<|aC (pv 2) aF) (bE<|bU<|pv 3) dW)
  (bE<|bU xG)
 refine⟨_,rfl,_,rfl,p,n,gW kd,l,rfl,u.kinds,ok,G,C,λa H' r ha a1=>?_⟩;exists a,_,rfl,SqT.of a1;refine Fb (xs:=l.reverse.map V.str) (λi σ m=>m=H'/\(∃e,σ=[some<|.ref p,some<|.str n,some<|.str d,e])/\∀x∈l.take i,¬eO kd x d) ⟨rfl,⟨_,rfl⟩,λz hz=>by cases hz⟩ (λi σ m _ h=>by rw[h.1];exact SqT.of a1) ?_ ?_
 .rintro i x σ m b ⟨rfl,⟨B,rfl⟩,j⟩;rw[<-List.map_reverse,List.reverse_reverse,bD,vg8]at b;obtain⟨z,hz,rfl⟩:=b;refine⟨_,rfl,_,rfl,_,rfl,p,z,d,kd,rfl,u.keep r,λo g=>?_,λo=>?_⟩
  .exists _,rfl;show if (!decide (V.ref g=V.non))=true then _ else _
   rw[aR<|by simp];exists _,rfl;have:=q _ r;rw[YR hz j o]at this;exact this
  .exists _,rfl;show if (!decide (V.non=V.non))=true then _ else _
   rw[aK<|by simp];refine⟨rfl,⟨_,rfl⟩,λx b=>?_⟩;rw[dG,hz]at b;rcases vj5.mp b with b | b
   .exact j x b
   .have e:x=z:=by simpa using b
    rw[e];exact o
 .rintro σ m ⟨rfl,⟨B,rfl⟩,j⟩;rw[aG,BP,dD<|aO _]at j;have e:iD kd d l=none:=by
   unfold iD;rw[uk0];exact λx b=>by simpa using j x b
  have:=q _ r;rw[e]at this;exact this
def bQ(ks:List (Str×List Dz))(tr:Tr):Kd:=(tr.zip ks).map λq=>(q.1.1,q.1.2,q.2.2.map (·.1))
def HU{ks:List (Str×List Dz)}{tr:Tr}(nm:ks.map (·.1)=tr.map (·.1)):↑ks=↑tr:=by
 have:=cR List.length nm;rwa [aG,aG]at this
def yF{ks:List (Str×List Dz)}{tr:Tr}(nm:ks.map (·.1)=tr.map (·.1)){j:Nat}{z:Str×Option Str×List Str}(h:(bQ ks tr)[j]?=some z):∃y,ks[j]?=some y/\tr[j]?=some (z.1,z.2.1)/\z.2.2=y.2.map (·.1)/\y.1=z.1:=by
 unfold bQ at h;rw[bD,vg8]at h;obtain⟨q,a,rfl⟩:=h;rw[ub2]at a;have b:(ks.map (·.1))[j]?=some q.2.1:=by rw[bD,a.2];rfl
 rw[nm,bD,a.1]at b;exact⟨q.2,a.2,a.1,rfl,(jE b).symm⟩
def AU{ks:List (Str×List Dz)}{tr:Tr}(nm:ks.map (·.1)=tr.map (·.1)):gW (bQ ks tr)=tr:=by
 have hl:=HU nm;unfold gW bQ;rw[kO];refine wE λi=>?_;rw[bD];rcases iJ i ↑tr with hi | hi
 .rw[bH (l:=tr.zip ks) (by rw[wW];lia),bH hi,List.getElem_zip];rfl
 .rw[nE hi,nE<|by rw[wW];lia];rfl
def uF{Z:Str->Str->Prop}{ks:List (Str×List Dz)}{tr:Tr}(L:nV Z ks tr){n d:Str}(h:∃y∈ks,y.1=n/\∃z∈y.2,z.1=d):eO (bQ ks tr) n d:=by
 obtain⟨y,o,i,z,hz,m⟩:=h;obtain⟨j,a⟩:=vm3.mp o;have p:=(vg4.mp a).1;have hl:=HU L.nm;have e:tr[j]?=some tr[j]:=bH (by lia);have l:(bQ ks tr)[j]?=some (tr[j].1,tr[j].2,y.2.map (·.1)):=by
  unfold bQ;have f:(tr.zip ks)[j]?=some (tr[j],y):=ub2.mpr ⟨e,a⟩;rw[bD,f];rfl
 have en:y.1=tr[j].1:=by
  have b:(ks.map (·.1))[j]?=some y.1:=by rw[bD,a];rfl
  rw[L.nm,bD,e]at b;exact(jE b).symm
 exact⟨_,cX l,by rw[<-i,en],by rw[<-m];exact vh6.mpr ⟨z,hz,rfl⟩⟩
def ProgIs.deeds{Z:Str->Str->Prop}{H:Hp}{p:Addr}{ks:List (Str×List Dz)}{n:Dz}{tr:Tr}(h:ProgIs Z H p ks n)(G:KindsAt H p tr)(nm:ks.map (·.1)=tr.map (·.1)):DeedsAt H p (bQ ks tr):=by
 obtain⟨s,m,lt,h1,h2,h3,Y,h5,h6⟩:=h;obtain⟨a1,ts,x,y,b,l,g3,M⟩:=G;rw[h1]at b;have C:s=a1:=by
  injection b with b;injection b with b;injection b with b _;exact V.ref.inj b
 subst C;rw[h2]at l;have T:m=ts:=by
  injection l with l;injection l with l;exact ET l
 subst T;have hl:=HU nm;have a2:↑(bQ ks tr)=↑tr:=by unfold bQ;rw[aG,wW];lia
 refine⟨s,m,lt,.ref n.2.1,h1,h2,by lia,λj u z q hz=>?_⟩;obtain⟨A,J,O,r,X⟩:=yF nm hz;obtain⟨e,K,fs,o,L,E,N,k5⟩:=Y j u A q J;obtain⟨v,a⟩:=M j u _ q O;rw[o]at a;have B:e=bF z.2.1:=by
  injection a with a;injection a with a;injection a with _ a;injection a with a _
 subst B;refine⟨K,by rw[<-X];exact o,fs,L,by rw[E,r,aG],λi f d w hd=>?_⟩;rw[r,bD,vg8]at hd;obtain⟨P,I,rfl⟩:=hd;obtain⟨pv,gv,W,_⟩:=N i f P w I;exact⟨_,W⟩
open Classical in
noncomputable def lineOf(tr:Tr)(x:Str):List Str:=if h:∃l,Up tr x l then h.choose else []
def IR(ok:TrOk tr)(h:Up tr x l):lineOf tr x=l:=by
 unfold lineOf;rw[dif_pos ⟨l,h⟩];exact Up.inj ok (Exists.choose_spec (⟨l,h⟩:∃l,Up tr x l)) h
noncomputable def ansOf(kd:Kd)(tr:Tr)(x d:Str):Option Str:=iD kd d<|lineOf tr x
def Up.suffix(ok:TrOk tr)(h:Up tr x l)(b:k∈l)(g:Up tr k lk):∀n∈lk,n∈l:=by
 induction h with
 | root hi=>
  intro n a;have e:=vh7.mp b;subst e;rw[Up.inj ok g<|.root hi]at a;exact a
 | @step i n' e l' hi hb ih=>
  intro n a;rcases vh3.mp b with e | b
  .subst e;rw[Up.inj ok g<|.step hi hb]at a;exact a
  .exact iH _<|ih b n a
open Classical in
def ME(L:nV Z ks tr)(ok:TrOk tr)(hz:Z k d)(a:Up tr x l)(h:k∈l):∃r,ansOf (bQ ks tr) tr x d=some r/\r∈tr.map (·.1):=by
 obtain⟨_,n,j,a1,i,f⟩:=L.hz k d hz;have b:=Up.suffix ok a h a1 n i;unfold ansOf;rw[IR ok a];unfold iD;cases e:l.find? λx=>decide (eO (bQ ks tr) x d)with
 | some r=>exact⟨r,rfl,a.mem r<|zF e⟩
 | none=>exact absurd (cI<|uF L f)<|uk0.mp e n b
def FrS.old0(f:FrS [] H H')(h:H' a=none):H a=none:=by
 cases e:H a with
 | none=>rfl
 | some o=>rw[f a o aT e]at h;cases h
def lA(H:Hp)(a:Addr):Option Str:=match H a with
 | some (.tup [.str w,_,.str k])=>if w="make" then some k else none
 | _=>none
def jH(H:Hp)(a:Addr):Option (Str×Str):=match H a with
 | some (.tup [.str w,_,_,.str k,.str d,_])=>if w="call" then some (k,d) else none
 | _=>none
def JT(h:RowIs Z H a)(f:Tup H H'):lA H' a=lA H a/\jH H' a=jH H a:=by
 obtain⟨w,rest,h,_,_⟩:=h;unfold lA jH;rw[h,f _ _ h];exact⟨rfl,rfl⟩
def Ez{Z:Str->Str->Prop}{H:Hp}{a:Addr}{w:Str}{rest:List V}(h:H a=some (.tup<|.str w::rest))(m:w="make"->∃x k:Str,rest=[.str x,.str k]):(w="make"/\∃x k:Str,rest=[.str x,.str k]/\lA H a=some k)\/(w≠"make"/\lA H a=none):=by
 by_cases e:w="make"
 .obtain⟨x,k,rfl⟩:=m e;refine .inl ⟨e,x,k,rfl,?_⟩;unfold lA;rw[h];exact aR e
 .refine .inr ⟨e,?_⟩;unfold lA;rw[h]
  split
  .rename_i w' k' h'
   injection h' with h';injection h' with h';injection h' with h' _;rw[aK];rw[<-V.str.inj h'];exact e
  .rfl
def AL{Z:Str->Str->Prop}{H:Hp}{a:Addr}{w:Str}{rest:List V}(h:H a=some (.tup<|.str w::rest))(c:w="call"->CallR Z H a):(w="call"/\∃(x y k d:Str)(g:Addr),rest=[.str x,.str y,.str k,.str d,.ref g]/\jH H a=some (k,d)/\Z k d)\/(w≠"call"/\jH H a=none):=by
 by_cases e:w="call"
 .obtain⟨x,y,k,d,g,ss,h2,_,_,hz⟩:=c e;have b:=h;rw[h2]at b;injection b with b;injection b with b;injection b with _ b;refine .inl ⟨e,x,y,k,d,g,b.symm,?_,hz⟩;unfold jH;rw[h2];exact aR rfl
 .refine .inr ⟨e,?_⟩;unfold jH;rw[h]
  split
  .rename_i w' k' d' h'
   injection h' with h';injection h' with h';injection h' with h' _;rw[aK];rw[<-V.str.inj h'];exact e
  .rfl
def fU(H:Hp)(ts:List Str)(a:Addr):List Str:=match lA H a with
 | some k=>if k∈ts then [k] else []
 | none=>[]
noncomputable def clL(H:Hp)(kd:Kd)(tr:Tr)(ss:List Str)(a:Addr):List (Str×Str):=match jH H a with
 | some (k,d)=>(ss.filter<|below tr k).map λx=>((ansOf kd tr x d).getD "",d)
 | none=>[]
abbrev KZ:Stmt:=top 19
abbrev HQ:Stmt:=top 20
inductive OX(vs:List V)(H:Hp)(Q:VK):Prop
 | mk(th a:Addr)(ts:List Str)(Z:Str->Str->Prop)(h1:vs=[.ref th,.ref a])(h2:H th=some (.tup<|ts.map V.str))(h3:RowIs Z H a)(h4:∀(l:Addr)(H':Hp),FrS [] H H'->H l=none->H' l=some (.lst<|(fU H ts a).map V.str)->Q (.ref l) H'):OX vs H Q
def IY:Sp:=λvs H Q _=>OX vs H Q
def Ct:cU ["there","row"] ["there","row"] (cG KZ):=dF
def ZQ(F:Fun K "kinds_by" "kinds_by" KZ f fd):bB P w K mg base cH (k+1) f fd ["there","row"] IY:=by
 refine F.ok Ct (λd H Q E h=>?_) λa1 A outer s H d Q E p h=>?_
 .obtain⟨th,a,ts,Z,rfl,_⟩:=h;rfl
 obtain⟨th,a,ts,Z,rfl,j,⟨w,rest,ha,o,i⟩,q⟩:=h;exists _,bE<|bU<|RP (PW.pt<|kL (cB iL (eT (pv 1) aQ) cD<|cO _)<|lW<|cB (show cN _ _ (iG K false) from mJ) (eT (pv 1) aQ) (pv 0) rfl) (cS<|aC (eT (pv 1) aQ) aF)<|cS aF
 ac_rfl
 have nil:fU H ts a=[]->(lN aY) [some<|.ref th,some<|.ref a] H Q:=λe=>⟨bO _,λl hl=>q l _ (FrS.new hl) hl<|by rw[e];exact aE⟩
 exists _,rfl,a,_,_,.str w,rfl,rfl,SqT.of ha,uU _ _,rfl,_,rfl;rcases Ez (Z:=Z) ha i with ⟨rfl,x,kk,rfl,e⟩ | ⟨n,e⟩
 .refine lF ?_;exists _,rfl,a,_,_,.str kk,rfl,rfl,SqT.of ha,rfl,_,rfl,th,_,rfl,.inr<|SqT.of j,rfl,jB _,_,rfl;rw[kJ];refine bJ (λc=>?_) λc=>?_
  .have c:kk∈ts:=by simpa using c
   exists _,rfl,a,_,_,.str kk,rfl,rfl,SqT.of ha,rfl;refine⟨dO rfl,λl hl=>q l _ (FrS.new hl) hl ?_⟩;have m:fU H ts a=[kk]:=by unfold fU;rw[e];exact aR c
   rw[m,aE];rfl
  .have c:kk∉ts:=by simpa using c
   refine nil ?_;unfold fU;rw[e];exact aK c
 .have b:(decide<|V.str w=V.str "make")=false:=eR λz=>n<|V.str.inj z;show if (decide<|V.str w=V.str "make")=true then _ else _
  rw[b];refine eV<|eV<|nil ?_;unfold fU;rw[e]
inductive NW(vs:List V)(H:Hp)(Q:VK):Prop
 | mk(p kl a:Addr)(ks:List (Str×List Dz))(tr:Tr)(ss:List Str)(Z:Str->Str->Prop)(h1:vs=[.ref p,.ref kl,.ref a])(h2:DeedsAt H p (bQ ks tr))(h3:nV Z ks tr)(h4:TrOk tr)(h5:↑tr<=12)(h6:H kl=some (.lst<|ss.map V.str))(h7:∀x∈ss,∃l,Up tr x l)(h8:↑ss<=64)(h9:RowIs Z H a)
  (h10:∀(l:Addr)(bs:List Addr)(H':Hp),FrS [] H H'->H l=none->H' l=some (.lst<|bs.map V.ref)->A2 (λb (n:Str×Str)=>H' b=some (.tup [.str n.1,.str n.2])) bs (clL H (bQ ks tr) tr ss a)->Q (.ref l) H'):NW vs H Q
def HR:Sp:=λvs H Q _=>NW vs H Q
inductive VM(H1:Hp)(p Dl a:Addr)(F:Str->Str×Str)(zs:List Str)(i:Nat)(σ:St)(Hx:Hp):Prop
 | mk(x:Option V)(bs:List Addr)(hσ:σ=[x,some<|.ref p,some<|.ref a])(fr:FrS [] H1 Hx)(hD:Hx Dl=some (.lst<|bs.map V.ref))(ha:A2 (λb (n:Str×Str)=>Hx b=some (.tup [.str n.1,.str n.2])) bs ((zs.take i).map F)):VM H1 p Dl a F zs i σ Hx
abbrev FX:List Str:=["program","kinds","row"]
def Bl:cU FX FX (cG HQ):=dF
def Gj(F:Fun K "bodies_by" "bodies_by" HQ f fd)(AN:aV P w K mg base k "answer" qI GA)(AB:aV P w K mg base k "all_below" CC zS):bB P w K mg base cH (k+1) f fd FX HR:=by
 refine F.ok Bl (λvs H Q E h=>?_) λam A outer s H vs Q E hr h=>?_
 .obtain⟨p,kl,a,ks,tr,ss,Z,rfl,_⟩:=h;rfl
 obtain⟨p,kl,a,ks,tr,ss,Z,rfl,hD,hL,m,ae,ah,hU,Y,⟨w,rest,ha,hc,hm⟩,q⟩:=h;have ag:(["kind","program","row"]:List Str).Nodup:=by rfl'
 exists _,aP (dS (cB yP (eT (pv 2) aQ) cD<|cO _) (bE<|bU<|cS aF) dW)
  (bE<|bU<|hV (N':=["kind","program","row"]) (src:=[none,some 0,some 2]) rfl eP (gM<|aW AB hr rfl<|aC (pv 0)<|aC (pv 1)<|aC (eT (pv 2) aQ) aF) (g:=bS 0) (λ_ _ _ _=>gL 0 ag) (λ_ _ _ _=>gR) (te:=gD<|bG (fZ GA [] E0<|bG (aJ 1)<|bG (aJ 0)<|bG (cJ (dB K) (aJ 2)<|tC<|.int 4) aY)<|bG (cJ (dB K) (aJ 2)<|tC<|.int 4) aY) λ_ _ _ _=>dQ<|aC (aW AN hr rfl<|aC (pv 1)<|aC (pv 0)<|aC (eT (pv 2) aQ) aF)<|aC (eT (pv 2) aQ) aF)
 ac_rfl
 exists _,rfl,a,_,_,.str w,rfl,rfl,SqT.of ha,uU _ _,rfl,_,rfl;rcases AL ha hc with ⟨rfl,x,y,kk,d,gg,rfl,e,hz⟩ | ⟨n,e⟩
 .refine eV ?_;have G:=AU hL.nm;have L:clL H (bQ ks tr) tr ss a=(ss.filter<|below tr kk).map λx=>((ansOf (bQ ks tr) tr x d).getD "",d):=by
   unfold clL;rw[e]
  rw[L]at q;have hK:KindsAt H p tr:=by have:=hD.kinds;rwa [G]at this
  refine⟨_,rfl,_,rfl,_,rfl,a,_,_,.str kk,rfl,rfl,SqT.of ha,rfl,p,kl,kk,tr,ss,rfl,hK,m,ae,.inl ah,hU,Y,λb H1 W N=>⟨b,rfl,⟨_,SqL.of N⟩,λo J=>?_⟩⟩;have al:↑(ss.filter<|below tr kk)<=64:=fI (kG _ _) Y;generalize hzs:ss.filter (below tr kk)=zs at q N al;refine mI (xs:=zs.map V.str) (VM H1 p o a (λx=>((ansOf (bQ ks tr) tr x d).getD "",d)) zs) ⟨_,[],rfl,(FrS.refl).put J,aE,.nil⟩ ?_ ?_ ?_
  .rintro i σ B hi ⟨_,_,_,j,_⟩;exact SqL.of<|j _ _ aT N
  .rintro i v σ B hv ⟨x0,bs,rfl,j,M,u⟩;rw[bD,vg8]at hv;obtain⟨z,a7,rfl⟩:=hv;have aj:z∈ss.filter (below tr kk):=by rw[hzs];exact cX a7
   obtain⟨ak,ab⟩:=vq0.mp aj;obtain⟨l,a1⟩:=hU z ak;have a5:kk∈l:=by
    rw[<-EJ m a1]at ab;exact cC ab
   obtain⟨r,O,_⟩:=ME hL m hz a1 a5;have a9:=W.trans j;have a8:=a9 _ _ aT ha;refine⟨_,rfl,_,rfl,_,rfl,a,_,_,.str d,rfl,rfl,SqT.of a8,rfl,p,z,d,bQ ks tr,l,rfl,hD.keep a9,by rw[G];exact m,by rw[G];exact ae,by rw[G];exact a1,λHy C=>?_⟩;have T:iD (bQ ks tr) d l=some r:=by
    unfold ansOf at O;rwa [IR m a1]at O
   rw[T];have ai:=C _ _ aT a8;refine⟨_,rfl,a,_,_,.str d,rfl,rfl,SqT.of ai,rfl,dO rfl,λtp I=>?_⟩;have X:=C _ _ aT M;have ad:o≠tp:=aX X I;have aa:aA Hy tp (.tup [bF<|some r,V.str d]) o=some (.lst<|bs.map V.ref):=by rw[aI ad];exact X
   have an:↑bs<=64:=by
    have:=u.len;rw[aG,dI]at this;lia
   have af:Tup B (aA (aA Hy tp<|.tup [bF<|some r,V.str d]) o<|.lst<|(bs++[tp]).map V.ref):=((Tup.of0 C).trans<|Tup.new I).trans<|Tup.lst aa;have ea:bs.map V.ref++[V.ref tp]=(bs++[tp]).map V.ref:=by rw[bP];rfl
   exists _,aa,bN (by rw[aG];lia);rw[ea];exists _,bs++[tp],rfl,((j.trans C).trans<|FrS.new I).put J,aE;have e9:(zs.take<|i+1).map (λx=>((ansOf (bQ ks tr) tr x d).getD "",d))=(zs.take i).map (λx=>((ansOf (bQ ks tr) tr x d).getD "",d))++[((ansOf (bQ ks tr) tr z d).getD "",d)]:=by
    rw[dG,a7,bP];rfl
   rw[e9];refine(u.imp λb n h=>af _ _ h).app<|.cons ?_ .nil;show aA _ _ _ tp=some (.tup [.str<|(ansOf (bQ ks tr) tr z d).getD "",.str d]);rw[O,aI<|cW ad,aE];rfl
  .rintro σ B ⟨x0,bs,rfl,j,M,u⟩;rw[aG,dD<|aO _]at u;exact q o bs B (W.trans j) (W.old0 J) M u
 .have T:(decide<|V.str w=V.str "call")=false:=eR λz=>n<|V.str.inj z;show if (!decide (V.str w=V.str "call"))=true then _ else _
  rw[T];refine lF ⟨bO _,λl hl=>q l [] _ (FrS.new hl) hl aE ?_⟩;have L:clL H (bQ ks tr) tr ss a=[]:=by unfold clL;rw[e]
  rw[L];exact .nil
section
variable{α:Type}[DecidableEq α]
def bK(l more:List α):List α:=more.foldl (λacc k=>if k∈acc then acc else acc++[k]) l
def Dt(l:List α):bK l []=l:=rfl
def wK(l:List α)(k:α)(more:List α):bK l (k::more)=bK (if k∈l then l else l++[k]) more:=rfl
theorem kF:∀(more l:List α)(x:α),x∈bK l more↔x∈l\/x∈more
 | [],l,x=>by rw[Dt];simp
 | k::more,l,x=>by
  rw[wK,kF more _ x]
  by_cases c:k∈l
  .rw[aR c,vh3]
   constructor
   .rintro(h | h)
    .exact .inl h
    .exact .inr<|.inr h
   .rintro(h | rfl | h)
    .exact .inl h
    .exact .inl c
    .exact .inr h
  .rw[aK c,vj5,vh7,vh3,or_assoc]
theorem LG:∀(more l:List α),l.Nodup->(bK l more).Nodup
 | [],l,h=>h
 | k::more,l,h=>by
  rw[wK];refine LG more _ ?_
  by_cases c:k∈l
  .rw[aR c];exact h
  .rw[aK c];exact zT h c
theorem GP:∀(more l:List α),↑l<=↑(bK l more)/\(↑(bK l more)=↑l->bK l more=l)
 | [],l=>⟨aO _,λ_=>rfl⟩
 | k::more,l=>by
  rw[wK]
  by_cases c:k∈l
  .rw[aR c];exact GP more l
  .rw[aK c];obtain⟨h1,h2⟩:=GP more<|l++[k];rw[bL,dY]at h1;exact⟨by lia,λe=>by lia⟩
end
abbrev MN:Str×Str:=("","")
theorem PP(ds:List Str):∀l:List Str,↑(l.flatMap λr=>ds.map λd=>(r,d))=↑l*↑ds
 | []=>by simp
 | r::l=>by rw[FP,bL,PP ds l,aG,cY,Nat.succ_mul,Nat.add_comm]
def Sat(H0:Hp)(kd:Kd)(tr:Tr)(ts:List Str)(come:List (Str×Str))(kinds:List Str)(q:Fz):Prop:=q.1∈come->(∀k∈fU H0 ts q.2,k∈kinds)/\∀n∈clL H0 kd tr kinds q.2,n∈come
structure MdOk(H0:Hp)(kd:Kd)(tr:Tr)(L:List Fz)(ts:List Str)(come:List (Str×Str))(kinds:List Str):Prop where
 m0:MN∈come
 nk:kinds.Nodup
 nc:come.Nodup
 kt:∀k∈kinds,k∈ts/\∃q∈L,q.1∈come/\lA H0 q.2=some k
 co:∀n∈come,n=MN\/∃q∈L,q.1∈come/\q.1≠n/\n∈clL H0 kd tr kinds q.2
 ls:∀(C:List (Str×Str))(Ks:List Str),MN∈C->(∀q∈L,Sat H0 kd tr ts C Ks q)->(∀n∈come,n∈C)/\∀k∈kinds,k∈Ks
def HF(h:∀x∈ss,x∈ss'):∀n∈clL H0 kd tr ss a,n∈clL H0 kd tr ss' a:=by
 intro n b;unfold clL at b ⊢;cases e:jH H0 a with
 | none=>rw[e]at b;exact b
 | some kd'=>
  obtain⟨k,d⟩:=kd';rw[e]at b;obtain⟨x,f,rfl⟩:=vh6.mp b;obtain⟨h1,h2⟩:=vq0.mp f;exact vh6.mpr ⟨x,vq0.mpr ⟨h x h1,h2⟩,rfl⟩
def yw7:k∈fU H0 ts a↔lA H0 a=some k/\k∈ts:=by
 unfold fU;cases e:lA H0 a with
 | none=>exact⟨λh=>(nomatch h),λh=>(nomatch h.1)⟩
 | some k'=>
  show k∈(if k'∈ts then [k'] else [])↔_
  by_cases c:k'∈ts
  .rw[aR c,vh7];exact⟨λh=>⟨by rw[h],by rw[h];exact c⟩,λh=>(jE h.1).symm⟩
  .rw[aK c];exact⟨λh=>(nomatch h),λh=>absurd h.2<|by rw[<-jE h.1];exact c⟩
section
variable{H0:Hp}{kd:Kd}{tr:Tr}{L:List Fz}{ts:List Str}{come:List (Str×Str)}{kinds:List Str}
def MdOk.start:MdOk H0 kd tr L ts [MN] []:=⟨.head _,kD,vq2.mpr ⟨aT,kD⟩,λ_ h=>(nomatch h),λn h=>.inl<|vh7.mp h,λC b a _=>⟨λn h=>by rw[vh7.mp h];exact a,λ_ h=>nomatch h⟩⟩
def MdOk.make(h:MdOk H0 kd tr L ts come kinds)(j:q∈L)(i:q.1∈come):MdOk H0 kd tr L ts come (bK kinds<|fU H0 ts q.2):=by
 refine⟨h.m0,LG _ _ h.nk,h.nc,λk a=>?_,λn o=>?_,λC d f b=>⟨(h.ls C d f b).1,λk a=>((kF _ _ _).mp a).elim ((h.ls C d f b).2 k)<|(b q j<|(h.ls C d f b).1 _ i).1 k⟩⟩
 .rcases(kF _ _ _).mp a with a | a
  .exact h.kt k a
  .obtain⟨e,m⟩:=yw7.mp a;exact⟨m,q,j,i,e⟩
 .rcases h.co n o with e | ⟨r,hr,h1,h2,h3⟩
  .exact .inl e
  .exact .inr ⟨r,hr,h1,h2,HF (λx l=>(kF _ _ _).mpr<|.inl l) n h3⟩
def MdOk.call(h:MdOk H0 kd tr L ts come kinds)(l:q∈L)(d:q.1∈come):MdOk H0 kd tr L ts (bK come<|bK []<|clL H0 kd tr kinds q.2) kinds:=by
 have b:∀n,n∈come->n∈bK come (bK []<|clL H0 kd tr kinds q.2):=λn a=>(kF _ _ _).mpr<|.inl a;refine⟨b _ h.m0,h.nk,LG _ _ h.nc,λk s=>?_,λn a=>?_,λC o p i=>?_⟩
 rotate_right
 .obtain⟨j,m⟩:=h.ls C o p i;refine⟨λn a=>?_,m⟩;rcases(kF _ _ _).mp a with a | a
  .exact j n a
  .rcases(kF _ _ _).mp a with a | a
   .cases a
   .exact(i q l<|j _ d).2 n (HF m n a)
 .obtain⟨h1,r,h2,f,u⟩:=h.kt k s;exact⟨h1,r,h2,b _ f,u⟩
 .by_cases c:n∈come
  .rcases h.co n c with e | ⟨r,hr,h1,h2,f⟩
   .exact .inl e
   .exact .inr ⟨r,hr,b _ h1,h2,f⟩
  .rcases(kF _ _ _).mp a with a | a
   .exact absurd a c
   .rcases(kF _ _ _).mp a with a | a
    .cases a
    .exact .inr ⟨q,l,b _ d,λe=>c (by rw[<-e];exact d),a⟩
end
def MdOk.few(h:MdOk H0 (bQ ks tr) tr L ts come kinds)(b:nV Z ks tr)(ok:TrOk tr)(a1:↑tr<=12)(p:∀q∈L,RowIs Z H0 q.2)(j:↑ts<=12)(v:∀x∈ts,∃l,Up tr x l):
  ↑come<=73/\↑kinds<=12:=by
 obtain⟨ds,i,s⟩:=b.dl;refine⟨?_,fI (GW kinds ts h.nk λx a=>(h.kt x a).1) j⟩;have:=GW come (MN::(tr.map (·.1)).flatMap λr=>ds.map λd=>(r,d)) h.nc λn z=>by
  rcases h.co n z with rfl | ⟨q,hq,_,_,hc⟩
  .exact .head _
  .refine iH _ ?_;obtain⟨w,rest,ha,o,_⟩:=p q hq;unfold clL at hc;rcases AL ha o with ⟨_,_,_,k,d,_,_,e,hz⟩ | ⟨_,e⟩
   .rw[e]at hc;obtain⟨x,a,rfl⟩:=vh6.mp hc;obtain⟨h1,h2⟩:=vq0.mp a;obtain⟨l,f⟩:=v x (h.kt x h1).1;rw[<-EJ ok f]at h2;obtain⟨r,u,m⟩:=ME b ok hz f<|cC h2;rw[u];exact List.mem_flatMap.mpr ⟨r,m,vh6.mpr ⟨d,s k d hz,rfl⟩⟩
   .rw[e]at hc;cases hc
 have e:↑((tr.map (·.1)).flatMap λr=>ds.map λd=>(r,d))=↑tr*↑ds:=by
  rw[PP,aG]
 rw[cY,e]at this;have h2:↑tr*↑ds<=12*6:=Nat.mul_le_mul a1 i;lia
def Ep(d:Nat->St->Hp->Prop)(r:d 0 σ0 H0)(hl:∀i σ H,i<=↑xs->d i σ H->SqL K H a xs)(n:∀i x σ H,xs[i]?=some x->d i σ H->g x σ H λσ2 H2=>tt σ2 H2 λb H3=>if b=true then tk σ2 H3 λo j=>te σ2 j λv h=>∃kvs k,o=kV k/\h D=some (.dK kvs)/\↑kvs<sizeLine/\d (i+1) σ2 (aA h D<|.dK<|aU kvs k v) else d (i+1) σ2 H3)(hd:∀σ H,d ↑xs σ H->Q H):FT (mW K a) g tt tk te D σ0 H0 Q:=by
 exists λi m σ H=>m=↑xs-i/\i<=↑xs/\d i σ H,⟨↑xs,by simp,bO _,r⟩;rintro i m σ H ⟨rfl,hi,p⟩;have q:=hl i σ H hi p
 by_cases f:i<↑xs
 .refine .inr ⟨⟨xs,xs[i],q,by simp[f]⟩,d<|i+1,λσ' H' l=>⟨↑xs-(i+1),by lia,rfl,f,l⟩,λx H' y=>?_⟩;obtain⟨e,y⟩:=y;subst e;exact n i x σ _ (y xs q) p
 .have e:i=↑xs:=by lia
  subst e;exact .inl ⟨⟨xs,q,aO _⟩,hd σ H p⟩
def Dj(d:Nat->St->Hp->Prop)(r:d 0 σ0 H0)(hl:∀i σ H,i<=↑xs->d i σ H->SqL K H a xs)(n:∀i x σ H,xs[i]?=some x->d i σ H->g x σ H λσ2 H2=>tt σ2 H2 λb H3=>if b=true then tk σ2 H3 λo j=>te σ2 j λv f=>∃kvs k b,o=.ref b/\f b=some (.tup<|k.map kV)/\f D=some (.dT kvs)/\↑kvs<sizeLine/\d (i+1) σ2 (aA f D<|.dT<|aU kvs k v) else d (i+1) σ2 H3)(hd:∀σ H,d ↑xs σ H->Q H):MM (mW K a) g tt tk te D σ0 H0 Q:=by
 exists λi m σ H=>m=↑xs-i/\i<=↑xs/\d i σ H,⟨↑xs,by simp,bO _,r⟩;rintro i m σ H ⟨rfl,hi,p⟩;have q:=hl i σ H hi p
 by_cases h:i<↑xs
 .refine .inr ⟨⟨xs,xs[i],q,by simp[h]⟩,d<|i+1,λσ' H' l=>⟨↑xs-(i+1),by lia,rfl,h,l⟩,λx H' y=>?_⟩;obtain⟨e,y⟩:=y;subst e;exact n i x σ _ (y xs q) p
 .have e:i=↑xs:=by lia
  subst e;exact .inl ⟨⟨xs,q,aO _⟩,hd σ H p⟩
def fS(l:List Str):List (aL×V):=l.map λk=>(Sum.inr k,V.bl true)
def vZ(l:List (Str×Str)):List (List aL×V):=l.map λn=>(bW n,V.bl true)
def PQ{κ α:Type}[DecidableEq κ][DecidableEq α](f:α->κ)(i:∀a b,f a=f b->a=b)(l:List α)(k:α):aU (l.map λa=>(f a,V.bl true)) (f k) (V.bl true)=(if k∈l then l else l++[k]).map λa=>(f a,V.bl true):=by
 have m:((l.map λa=>(f a,V.bl true)).any λd=>decide<|d.1=f k)=decide (k∈l):=by
  rw[mS,ud0,pX]
  constructor
  .rintro⟨d,j,e⟩;obtain⟨a,ha,rfl⟩:=vh6.mp j;rw[<-i _ _ (cC e)];exact ha
  .intro h;exact⟨(f k,V.bl true),vh6.mpr ⟨k,h,rfl⟩,cI rfl⟩
 unfold aU;rw[m]
 by_cases c:k∈l
 .rw[aR<|cI c,aR c,kO];refine rT λa _=>?_;show(if f a=f k then(f a,V.bl true) else(f a,V.bl true))=_
  split <;> rfl
 .rw[aK (by rw[eR c];exact cA),aK c,bP];rfl
def NT(l:List Str)(k:Str):aU (fS l) (Sum.inr k) (.bl true)=fS (if k∈l then l else l++[k]):=PQ (λk=>(Sum.inr k:aL)) (λ_ _ h=>pR h) l k
def Ba(l:List (Str×Str))(k:Str×Str):aU (vZ l) (bW k) (.bl true)=vZ (if k∈l then l else l++[k]):=by
 refine(PQ bW (λ_ _ h=>MB h) l k).trans ?_;unfold vZ
 by_cases c:k∈l
 .simp only[aR c]
 .simp only[aK c]
theorem OB:∀(more l:List Str),dX (fS l) (fS more)=fS (bK l more)
 | [],l=>rfl
 | k::more,l=>by
  show dX (aU (fS l) (Sum.inr k)<|.bl true) (fS more)=_;rw[NT,OB more,wK]
def zW(l:List Str):↑(fS l)=↑l:=wN _
def Fm(l:List (Str×Str)):↑(vZ l)=↑l:=wN _
def UB{α:Type}[DecidableEq α](l more:List α)(k:α):bK l (more++[k])=if k∈bK l more then bK l more else bK l more++[k]:=by
 unfold bK;rw[List.foldl_append];rfl
theorem CB{α:Type}[DecidableEq α]:∀(more l:List α),↑(bK l more)<=↑l+↑more
 | [],l=>aO _
 | k::more,l=>by
  rw[wK,cY];have:=CB more (if k∈l then l else l++[k])
  by_cases c:k∈l
  .rw[aR c]at this ⊢;lia
  .rw[aK c]at this ⊢;rw[bL,dY]at this;lia
def Aj(a:List (Pr×Addr))(q:Pr×Addr):(jM a q).map (·.1)=if q.1∈a.map (·.1) then a.map (·.1) else a.map (·.1)++[q.1]:=by
 unfold jM
 split
 .rfl
 .rw[bP];rfl
theorem QK:∀(more:List (Pr×Addr))(a:List (Pr×Addr)),(lP a more).map (·.1)=bK (a.map (·.1)) (more.map (·.1))
 | [],a=>rfl
 | q::more,a=>by
  show(lP (jM a q) more).map (·.1)=_;rw[QK more,Aj,eM,wK]
  by_cases c:q.1∈a.map (·.1)
  .simp only[aR c]
  .simp only[aK c]
theorem PV:∀(more:List (Pr×Addr))(a:List (Pr×Addr)),∀x∈lP a more,x∈a\/x∈more
 | [],a,x,h=>.inl h
 | q::more,a,x,h=>by
  rcases PV more (jM a q) x h with h | h
  .unfold jM at h
   split at h
   .exact .inl h
   .rcases vj5.mp h with h | h
    .exact .inl h
    .exact .inr (by rw[vh7.mp h];exact .head _)
  .exact .inr<|.tail _ h
theorem Tup.ext(a:H p=some (.ext φ)):Tup H (aA H p o):=λb xs h=>by
 rw[aI λz=>by rw[z,a]at h;cases h];exact h
theorem OU{α β:Type}:∀{l:List α}{m:List β},↑m=↑l->(l.zip m).map (·.1)=l
 | [],_,_=>by simp
 | a::l,[],h=>by simp at h
 | a::l,b::m,h=>by
  rw[GM,eM,OU<|by simpa using h]
theorem _root_.L2.A2.zip(h:A2 R as bs):∀q∈bs.zip as,R q.2 q.1:=by
 induction h with
 | nil=>intro q a;cases a
 | cons r _ ih=>
  intro q a;rw[GM]at a;rcases vh3.mp a with rfl | a
  .exact r
  .exact ih q a
abbrev MI:Stmt:=top 21
section
variable{H0:Hp}{kd:Kd}{tr:Tr}{L:List Fz}{ts:List Str}{come come':List (Str×Str)}{kinds kinds':List Str}
def MdOk.perm(h:MdOk H0 kd tr L ts come kinds)(a:come'.Perm come)(b:kinds'.Perm kinds):MdOk H0 kd tr L ts come' kinds':=by
 refine⟨a.mem_iff.mpr h.m0,b.nodup_iff.mpr h.nk,a.nodup_iff.mpr h.nc,λk d=>?_,λn j=>?_,λC l m o=>⟨λn j=>(h.ls C l m o).1 n<|a.mem_iff.mp j,λk d=>(h.ls C l m o).2 k<|b.mem_iff.mp d⟩⟩
 .obtain⟨h1,q,h2,i,f⟩:=h.kt k<|b.mem_iff.mp d;exact⟨h1,q,h2,a.mem_iff.mpr i,f⟩
 .rcases h.co n (a.mem_iff.mp j)with e | ⟨q,h1,h2,i,f⟩
  .exact .inl e
  .exact .inr ⟨q,h1,a.mem_iff.mpr h2,i,HF (λx p=>b.mem_iff.mpr p) n f⟩
def Sat.perm(h:Sat H0 kd tr ts come kinds q)(a:come'.Perm come)(b:kinds'.Perm kinds):Sat H0 kd tr ts come' kinds' q:=λf=>by
 obtain⟨h1,h2⟩:=h<|a.mem_iff.mp f;exact⟨λk e=>b.mem_iff.mpr<|h1 k e,λn i=>a.mem_iff.mpr<|h2 n<|HF (λx d=>b.mem_iff.mp d) n i⟩
end
def IJ(h:RowIs Z H a)(f:Tup H H'):fU H' ts a=fU H ts a/\clL H' kd tr ss a=clL H kd tr ss a:=by
 obtain⟨b,d⟩:=JT h f;unfold fU clL;rw[b,d];exact⟨rfl,rfl⟩
def PH:fU H ts a=[]\/∃k,fU H ts a=[k]:=by
 unfold fU
 split
 .split
  .exact .inr ⟨_,rfl⟩
  .exact .inl rfl
 .exact .inl rfl
def ZU:↑(fU H ts a)<=1:=by
 rcases PH (H:=H) (ts:=ts) (a:=a)with e | ⟨k,e⟩ <;> rw[e] <;> simp
def Bp:bK [] (fU H ts a)=fU H ts a:=by
 rcases PH (H:=H) (ts:=ts) (a:=a)with e | ⟨k,e⟩ <;> rw[e] <;> rfl
def XZ:↑(clL H kd tr ss a)<=↑ss:=by
 unfold clL
 split
 .rw[aG];exact kG _ _
 .exact bO _
inductive zG(K:Fg)(H H':Hp)(r:Addr)(kd:Kd)(tr:Tr)(L:List Fz)(ss:List Str)(qs:List (Pr×Addr))(kinds:List Str):Prop
 | mk(ca ka:Addr)(h1:H' r=some (.tup [.ref ca,.ref ka]))(h2:H' ca=some (.tup<|qs.map λq=>V.ref q.2))(h3:∀q∈qs,BT K H' q.2 q.1)(h4:H' ka=some (.tup<|kinds.map V.str))(h5:MdOk H kd tr L ss (qs.map (·.1)) kinds)(h6:∀q∈L,Sat H kd tr ss (qs.map (·.1)) kinds q)(h7:PyProof.Rows.sortedS kinds=true):zG K H H' r kd tr L ss qs kinds
inductive OY(K:Fg)(vs:List V)(H:Hp)(Q:VK):Prop
 | mk(p a:Addr)(ks:List (Str×List Dz))(m0:Dz)(tr:Tr)(ss:List Str)(Z:Str->Str->Prop)(h1:vs=[.ref p,.ref a])(h2:ProgIs Z H p ks m0)(h3:KindsAt H p tr)(h4:TrOk tr)(h5:↑tr<=12)(h6:nV Z ks tr)(h7:H a=some (.tup<|ss.map V.str))(h8:∀x∈ss,∃l,Up tr x l)(h9:↑ss<=12)
  (h10:∀(r:Addr)(qs:List (Pr×Addr))(kinds:List Str)(H':Hp),FrS [] H H'->zG K H H' r (bQ ks tr) tr (eQ<|eE ks m0) ss qs kinds->Q (.ref r) H'):OY K vs H Q
def BN(K:Fg):Sp:=λvs H Q _=>OY K vs H Q
inductive ID(P:Program)(w:World)(K:Fg)(H H1:Hp)(p a cm kn rw:Addr)(kd:Kd)(tr:Tr)(L:List Fz)(ss:List Str)(m i:Nat)(σ:St)(Hx:Hp):Prop
 | mk(x6 x7 x8:Option V)(qs:List (Pr×Addr))(kinds:List Str)(hσ:σ=[some<|.ref p,some<|.ref a,some<|.ref cm,some<|.ref kn,some<|.ref rw,some<|.int (m:Int),x6,x7,x8])(fr:FrS [] H Hx)(tp:Tup H1 Hx)(hc:Hx cm=some (gF P w cm qs))(hq:∀q∈qs,BT K Hx q.2 q.1)(hk:Hx kn=some (.dK<|fS kinds))
  (md:MdOk H kd tr L ss (qs.map (·.1)) kinds) (l1:m<=↑qs+↑kinds) (l2:↑qs+↑kinds=m->∀z∈L.take i,Sat H kd tr ss (qs.map (·.1)) kinds z):ID P w K H H1 p a cm kn rw kd tr L ss m i σ Hx
inductive TX(H1:Hp)(Dl:Addr)(zs:List Str)(i:Nat)(σ:St)(Hx:Hp):Prop
 | mk(x:Option V)(hσ:σ=[x])(fr:FrS [] H1 Hx)(hD:Hx Dl=some (.dK<|fS<|bK []<|zs.take i)):TX H1 Dl zs i σ Hx
inductive UD(H1:Hp)(Dl:Addr)(zs:List (Str×Str))(i:Nat)(σ:St)(Hx:Hp):Prop
 | mk(x:Option V)(hσ:σ=[x])(fr:FrS [] H1 Hx)(hD:Hx Dl=some (.dT<|vZ<|bK []<|zs.take i)):UD H1 Dl zs i σ Hx
def uH(σ:St)(_:Hp):Nat:=match (σ[5]?:Option (Option V))with | some (some<|V.int m)=>(1000-m).toNat | _=>0
def BT.pd(h:∀q∈qs,BT K H q.2 q.1):fJ K H qs:=λq a=>(h q a).sq
abbrev jJ:List Str:=["program","there"]
def zs6:cU ["program","there","come","kinds","rows","many","number","body","row"] jJ (cG MI):=dF
def Hg(F:Fun K "made_paper" "made_paper" MI f fd)(NU:aV P w K mg base k "numbered" qK (FW K))(KB:aV P w K mg base k "kinds_by" ["there","row"] IY)(BB:aV P w K mg base k "bodies_by" FX HR)(mM:mg "MAIN"=some (.ref am))(hM:∀H,SqT K H am [.str "",.str ""])(be:mg "tuple"=none)(b5:mg "sorted"=none)(ap:mg "len"=none)(bx:mg "list"=none):bB P w K mg base cH (k+1) f fd jJ (BN K):=by
 refine F.ok zs6 (λvs H Q E h=>?_) λco A outer s H vs Q E hr h=>?_
 .obtain⟨p,a,ks,m0,tr,ss,Z,rfl,_⟩:=h;rfl
 obtain⟨p,a,ks,m0,tr,ss,Z,rfl,hP,hK,hT,b2,hL,ha,hU,b9,q⟩:=h;have hu:=gG hr;have bt:=mN hu;have cc:(["kind"]:List Str).Nodup:=by rfl'
 have ax:(["one"]:List Str).Nodup:=by rfl'
 exists _,aP (sL 2 zs6.nd<|sJ bt (EW (v:=.ref am) rfl mM rfl) kZ)
  (aP (sL 3 zs6.nd wH) (aP (sL 4 zs6.nd<|aW NU hr rfl<|aC (pv 0) aF) (aP (sL 5 zs6.nd aQ) (aP (JA eW (cB vL (pv 5) (bV jN (eU QB rfl ap jA<|aC (pv 2) aF)<|eU RQ rfl ap jA<|aC (pv 3) aF)<|cO _) (aP (sL 5 zs6.nd<|bV jN (eU QB rfl ap jA<|aC (pv 2) aF)<|eU RQ rfl ap jA<|aC (pv 3) aF) (bE (fQ eW rfl (gO<|pv 4) (fG (n:=3) rfl<|bR (gL 6 zs6.nd)<|bR (gL 7 zs6.nd)<|bR (gL 8 zs6.nd) fE) (bE (dS (pE<|uS hu (pv 7)<|pv 2) (aP (gS<|hH oI PySem.F.slot_dict_update PySem.F.type_dict_update ZI (pv 3)<|aC (As (N':=["kind"]) (src:=[none]) rfl eP (gM<|aW KB hr rfl<|aC (pv 1)<|aC (pv 8) aF) (g:=bS 0) (λ_ _ _ _=>gL 0 cc) (λ_ _ _ _=>gR) (λ_ _ _ _=>pv 0) (te:=tC<|.bl true) λ_ _ _ _=>kZ) aF) (bE (gS (Ew hu (pv 2) (Bk (N':=["one"]) (src:=[none]) rfl bt eP (gM<|aW BB hr rfl<|aC (pv 0)<|aC (dE (QI rfl) rfl bx (by rfl')<|aC (pv 3) aF)<|aC (pv 8) aF)
       (g:=bS 0) (λ_ _ _ _=>gL 0 ax) (λ_ _ _ _=>gR) (λ_ _ _ _=>pv 0) (te:=tC<|.bl true) (λ_ _ _ _=>kZ)) ⟨rfl,rfl,rfl,rfl⟩)))) dW))))))
  (bE<|bU<|dQ<|aC (dE gA rfl be (by rfl')<|aC (eU (Fd rfl) rfl b5 (by rfl')<|aC (pv 2) aF) aF)<|aC (dE gA rfl be (by rfl')<|aC (eU (Dy rfl) rfl b5 (by rfl')<|aC (pv 3) aF) aF) aF)))))
 ac_rfl
 have hI:=vE hP.rows;have s2:2<=sizeLine:=cM (bN<|by decide);refine λo bq=>⟨am,MN,rfl,aE,hM _,?_⟩;rw[vY];refine λB ag=>?_;have b7:FrS [] H (aA (aA H o<|gF P w o [(MN,am)]) B<|.dK []):=(FrS.new bq).trans<|FrS.new ag;have ay:aA H o (gF P w o [(MN,am)]) o=some (gF P w o [(MN,am)]):=aE;have al:o≠B:=aX ay ag;have au:H B=none:=by rw[aI<|cW al]at ag;exact ag
 refine⟨_,rfl,p,ks,m0,rfl,hP.keep<|Tup.of0 b7,λak ns H1 f1 br hA=>?_⟩;have cg:=b7.trans f1;have c5:H1 o=some (gF P w o [(MN,am)]):=f1 _ _ aT (by rw[aI al];exact aE);have cn:H1 B=some (.dK<|fS []):=f1 _ _ aT aE;have bp:=hA.len;rw[BA]at bp;have cf:∀{J:Hp},FrS [] H J->DeedsAt J p (bQ ks tr):=λfx=>(hP.deeds hK hL.nm).keep fx;generalize hLL:eQ (eE ks m0)=L at *;generalize hKD:bQ ks tr=kd at *;refine MX (λσ J=>∃m,ID P w K H H1 p a o B ak kd tr L ss m L.length σ J) uH ⟨0,_,_,_,[(MN,am)],[],rfl,cg,(λ_ _ h=>h),c5,(λq M=>by rw[vh7.mp M];exact .inr hM),cn,MdOk.start,bO _,λe=>nomatch e⟩ ?_ ?_
 .rintro σ J ⟨m,x6,x7,x8,d,kinds,rfl,fr,tp,N,M,Y,md,l1,l2⟩;subst hKD;obtain⟨a8,bk⟩:=md.few hL hT b2 hI b9 hU;rw[aG]at a8;exists _,rfl,_,rfl,o,d,rfl,N,_,rfl,B,_,rfl,Y,_,_,rfl,rfl,_,_,rfl,rfl,_,rfl;rw[zW,<-Int.natCast_add];refine bJ (λc=>?_) λc=>?_
  .have c:((m:Nat):Int)<((↑d+↑kinds:Nat):Int):=cC c;exists _,rfl,o,d,rfl,N,_,rfl,B,_,rfl,Y,_,_,rfl,rfl;exists _,rfl,ak,rfl,⟨_,SqT.of<|tp _ _ br⟩;refine lY (xs:=ns.map V.ref) (ID P w K H H1 p a o B ak (bQ ks tr) tr L ss<|↑d+↑kinds) ⟨x6,x7,x8,d,kinds,(by show [some<|V.ref p,some<|V.ref a,some<|V.ref o,some<|V.ref B,some<|V.ref ak,some<|V.int<|(↑d:Int)+(↑(fS kinds):Int),x6,x7,x8]=_;rw[zW,Int.natCast_add]),fr,tp,N,M,Y,md,aO _,λ_ z hz=>nomatch hz⟩ ?_ ?_ ?_
   .rintro i σ Hy hi ⟨_,_,_,_,_,_,_,tp,_⟩;exact SqT.of<|tp _ _ br
   .clear l1 l2 a8 bk N Y M md tp fr c;generalize ↑d+↑kinds=m1;rintro i x σ J W ⟨x6,x7,x8,d,kinds,rfl,fr,tp,N,M,Y,md,l1,l2⟩;rw[bD,vg8]at W;obtain⟨u,cb,rfl⟩:=W;obtain⟨z,hz,bd,u1,u2⟩:=hA.get cb;rw[List.getElem?_zipIdx]at hz;obtain⟨z,ar,rfl⟩:=vg8.mp hz;have b1:z∈L:=cX ar;have a9:=hI z b1;obtain⟨a8,bk⟩:=md.few hL hT b2 hI b9 hU;rw[aG]at a8;exists u,_,rfl,SqT.of<|tp _ _ u1,rfl,_,_,rfl,_,_,rfl,_,_,rfl,rfl;exists _,rfl,_,rfl,o,bd,d,z.1,rfl,rfl,N,BT.pd M,(u2.keep tp).sq,_,rfl;refine bJ (λc=>?_) λc=>?_
    rotate_left
    .refine⟨_,_,_,d,kinds,rfl,fr,tp,N,M,Y,md,l1,λe y C=>?_⟩;rw[dG,ar]at C;rcases vj5.mp C with C | C
     .exact l2 e y C
     .have ey:y=z:=by simpa using C
      rw[ey];exact λh=>absurd (cI h) c
    have a5:z.1∈d.map (·.1):=cC c;have tx:=Tup.of0 fr;exists _,rfl,.inr<|.inr<|.inl ⟨rfl,.inl ⟨_,Y⟩⟩;refine⟨_,rfl,_,rfl,a,z.2,ss,Z,rfl,fr _ _ aT ha,a9.keep tx,λl Hy fy cp hl=>⟨l,rfl,⟨_,SqL.of hl⟩,λD1 b0=>?_⟩⟩;rw[(IJ (kd:=[]) (tr:=[]) (ss:=[]) a9 tx).1]at hl;have c3:↑(fU H ss z.2)<=1:=ZU;have bi:bK [] (fU H ss z.2)=fU H ss z.2:=Bp;have aj:=md.make b1 a5;generalize hmk:fU H ss z.2=zs at hl c3 bi aj;refine Ep (xs:=zs.map V.str) (TX Hy D1 zs) ⟨_,rfl,(FrS.refl).put b0,aE⟩ ?_ ?_ ?_
    .rintro j σ O hj ⟨_,_,fz,_⟩;exact SqL.of<|fz _ _ aT hl
    .rintro j x σ O W ⟨x0,rfl,fz,a7⟩;rw[bD,vg8]at W;obtain⟨y,C,rfl⟩:=W;exists _,rfl,_,Sum.inr y,rfl,a7,bN ?_,_,rfl,fz.put b0
     .have h1:=CB (zs.take j) [];rw[dI,jX]at h1;rw[zW];lia
     .rw[aE,NT,dG,C];show _=some (HO.dK<|fS<|bK []<|zs.take j++[y]);rw[UB]
    rintro σ O ⟨x0,rfl,fz,a7⟩;rw[aG,dD<|aO _,bi]at a7;have ai:FrS [] J O:=fy.trans fz;have bm:=ai _ _ aT Y;exists B,D1,_,_,rfl,rfl,aX (fy _ _ aT Y) b0,bm,a7,cM (bN<|by rw[zW,zW];lia);rw[OB];have ac:↑(bK kinds zs)<=13:=by have:=CB zs kinds;lia
    have kin:∀k∈zs,k∈bK kinds zs:=λk h=>(kF _ _ _).mpr<|.inr h;have bu:=GP zs kinds;generalize bK kinds zs=G at aj ac kin bu;have as:FrS [] H (aA O B<|.dK<|fS G):=(fr.trans ai).put au;have ba:Tup J (aA O B<|.dK<|fS G):=(Tup.of0 ai).trans<|Tup.dk bm;have aq:aA O B (.dK<|fS G) B=some (.dK<|fS G):=aE;have aw:aA O B (.dK<|fS G) o=some (gF P w o d):=by rw[aI al];exact ai _ _ aT N
    generalize aA O B (.dK<|fS G)=H3 at as ba aq aw;exists _,rfl,o,d,rfl,aw;have cj:∀x∈G,∃l,Up tr x l:=λx W=>hU x (aj.kt x W).1;refine⟨_,rfl,_,rfl,B,_,rfl,Rd.of aq,λl4 bz=>?_⟩;have f4:FrS [] H3 (aA H3 l4<|.lst<|(fS G).map λkv=>kV kv.1):=FrS.new bz;have ab:aA H3 l4 (.lst<|(fS G).map λkv=>kV kv.1) l4=some (.lst<|G.map V.str):=by
     rw[aE];unfold fS;rw[kO];rfl
    generalize aA H3 l4 (.lst<|(fS G).map λkv=>kV kv.1)=H4 at f4 ab;have bv:=as.trans f4;have t4:=Tup.of0 bv;refine⟨_,rfl,p,l4,z.2,ks,tr,G,Z,rfl,cf bv,hL,hT,b2,ab,cj,by lia,a9.keep t4,λl5 bs H5 f5 c4 bb ae=>⟨l5,rfl,⟨_,SqL.of bb⟩,λD2 bg=>?_⟩⟩;rw[(IJ (ts:=ss) (kd:=bQ ks tr) (tr:=tr) (ss:=G) a9 t4).2]at ae;have ah:=aj.call b1 a5;have aa:=ae.len;have az:↑(clL H (bQ ks tr) tr G z.2)<=13:=fI XZ ac;generalize hcn:clL H (bQ ks tr) tr G z.2=I at ae aa az ah;refine Dj (xs:=bs.map V.ref) (UD H5 D2 I) ⟨_,rfl,(FrS.refl).put bg,aE⟩ ?_ ?_ ?_
    .rintro j σ O hj ⟨_,_,fz,_⟩;exact SqL.of<|fz _ _ aT bb
    .rintro j x σ O W ⟨x0,rfl,fz,a7⟩;rw[bD,vg8]at W;obtain⟨b,hb,rfl⟩:=W;obtain⟨n,hn,ck⟩:=ae.get hb;exists _,rfl,_,bW n,b,rfl,fz _ _ aT ck,a7,bN ?_,_,rfl,fz.put bg
     .have h1:=CB (I.take j) [];rw[dI,jX]at h1;rw[Fm];lia
     .rw[aE,Ba,dG,hn];show _=some (HO.dT<|vZ<|bK []<|I.take j++[n]);rw[UB]
      by_cases c:n∈bK [] (I.take j)
      .simp only[aR c]
      .simp only[aK c]
    rintro σ H6 ⟨x0,rfl,f6,a7⟩;rw[aG,aa,dD<|aO _]at a7;have an:FrS [] H3 H6:=f4.trans<|f5.trans f6;have b6:=an _ _ aT aw;have bh:Tup J H6:=ba.trans<|Tup.of0 an;have bj:∀q∈d,BT K H6 q.2 q.1:=λq h=>(M q h).keep bh;have ci:↑(bK [] I)<=13:=by have:=CB I [];rw[jX]at this;lia
    have b3:∀n∈I,n∈bK (d.map (·.1)) (bK [] I):=λn h=>(kF _ _ _).mpr<|.inr<|(kF _ _ _).mpr<|.inr h;refine⟨o,D2,d,bK [] I,rfl,rfl,b6,(λe=>by rw[e]at a5;cases a5),BT.pd bj,a7,cM (bN<|by lia),λad b8=>?_⟩;have eK:(lP d<|(bK [] I).zip ad).map (·.1)=bK (d.map (·.1)) (bK [] I):=by rw[QK,OU b8.len]
    have ao:Tup H6 (aA H6 o<|gF P w o<|lP d<|(bK [] I).zip ad):=Tup.ext b6;have af:=GP (bK [] I)<|d.map (·.1);rw[<-eK]at af ah b3;have bo:=PV ((bK [] I).zip ad) d;have cl:=b8.zip;generalize lP d ((bK [] I).zip ad)=c0 at eK ao af ah b3 bo;rw[aG,aG]at af;refine⟨_,_,_,c0,G,rfl,(as.trans an).put bq,tp.trans<|bh.trans ao,aE,λq h=>?_,?_,ah,by lia,λe y C=>?_⟩
    .rcases bo q h with h | h
     .exact(bj q h).keep ao
     .exact .inl<|ao _ _<|cl q h
    .rw[aI<|cW al];exact an _ _ aT aq
    .rw[dG,ar]at C;rcases vj5.mp C with C | C
     .have e1:=af.2 (by lia);have e2:=bu.2 (by lia);rw[e1,e2];exact l2 (by lia) y C
     .have ey:y=z:=by simpa using C
      rw[ey];exact λ_=>⟨by rw[hmk];exact kin,by rw[hcn];exact b3⟩
   .rintro σ Hy ⟨y6,y7,y8,T,X,rfl,ce,c1,ch,av,cd,c2,c9,bc⟩;rw[aG,bp]at bc;exists ⟨_,y6,y7,y8,T,X,rfl,ce,c1,ch,av,cd,c2,c9,bc⟩;show(1000-((↑d+↑kinds:Nat):Int)).toNat<(1000-((m:Nat):Int)).toNat;lia
  .have c:¬((m:Nat):Int)<((↑d+↑kinds:Nat):Int):=λh=>c<|cI h;have e:↑d+↑kinds=m:=by lia
   have sat:=l2 e;rw[dD<|aO _]at sat;refine⟨_,rfl,o,d,rfl,N,BT.pd M,by lia,λla T c8 pq=>⟨la,_,rfl,.inl ⟨SqL.of aE,λca c6=>?_⟩⟩⟩;have fA:FrS [] J (aA (aA J la<|.lst<|T.map λq=>V.ref q.2) ca<|.tup<|T.map λq=>V.ref q.2):=(FrS.new c8).trans<|FrS.new c6;have b4:aA (aA J la<|.lst<|T.map λq=>V.ref q.2) ca (.tup<|T.map λq=>V.ref q.2) ca=some (.tup<|T.map λq=>V.ref q.2):=aE;generalize aA (aA J la<|.lst<|T.map λq=>V.ref q.2) ca (.tup<|T.map λq=>V.ref q.2)=HA at fA b4;refine⟨_,rfl,B,kinds,_,rfl,fA _ _ aT Y,by unfold fS;rw[kO];rfl,by lia,λlb X bw pk sk=>⟨lb,_,rfl,.inl ⟨SqL.of aE,λka c7=>⟨s2,λr bn=>?_⟩⟩⟩⟩;have fB:FrS [] HA (aA (aA HA lb<|.lst<|X.map V.str) ka<|.tup<|X.map V.str):=(FrS.new bw).trans<|FrS.new c7;have bf:aA (aA HA lb<|.lst<|X.map V.str) ka (.tup<|X.map V.str) ka=some (.tup<|X.map V.str):=aE;generalize aA (aA HA lb<|.lst<|X.map V.str) ka (.tup<|X.map V.str)=HB at fB bf bn;have fC:FrS [] HB (aA HB r<|.tup [V.ref ca,V.ref ka]):=FrS.new bn;have fx:=fA.trans<|fB.trans fC;refine q r T X _ (fr.trans fx) ⟨ca,ka,aE,(fB.trans fC) _ _ aT b4,λq av=>(M q<|pq.mem_iff.mp av).keep<|Tup.of0 fx,fC _ _ aT bf,md.perm (pq.map _) pk,λy C=>(sat y C).perm (pq.map _) pk,sk⟩
 .intro σ J R R' hR N;obtain⟨v1,h1,v2,h2,a1,q1,e1,e2,v3,h3,a2,k2,e3,e4,i1,j1,e5,e6,i2,j2,e7,e8,b,e9,M⟩:=N;exact⟨v1,h1,v2,h2,a1,q1,e1,e2,v3,h3,a2,k2,e3,e4,i1,j1,e5,e6,i2,j2,e7,e8,b,e9,hR _ _ M⟩
def fX(H:Hp)(q:Fz×Nat):Bool:=(jH H q.1.2).isSome
def uW(H:Hp)(a:Addr):Str:=((jH H a).map (·.1)).getD ""
inductive VW(K:Fg)(vs:List V)(H:Hp)(Q:VK):Prop
 | mk(p:Addr)(ks:List (Str×List Dz))(m0:Dz)(h1:vs=[.ref p])(h2:ProgIs Z H p ks m0)(h3:∀(b:Addr)(cs:List Addr)(H':Hp),FrS [] H H'->H' b=some (.tup<|cs.map V.ref)->A2 (CaIs K H') cs (((eQ<|eE ks m0).zipIdx 0).filter<|fX H)->Q (.ref b) H'):VW K vs H Q
def JC(K:Fg):Sp:=λvs H Q _=>VW K vs H Q
inductive AJ(K:Fg)(H H1:Hp)(Dl:Addr)(QL:List (Fz×Nat))(i:Nat)(σ:St)(Hx:Hp):Prop
 | mk(a:Option V)(cs:List Addr)(hσ:σ=[a])(fr:FrS [] H1 Hx)(hD:Hx Dl=some (.lst<|cs.map V.ref))(ha:A2 (CaIs K Hx) cs ((QL.take i).filter<|fX H)):AJ K H H1 Dl QL i σ Hx
def yY{Z:List Fz}{q:Fz×Nat}(h:q∈Z.zipIdx 0):q.1∈Z:=by
 obtain⟨j,a⟩:=vm3.mp h;rw[List.getElem?_zipIdx]at a;obtain⟨y,b,rfl⟩:=vg8.mp a;exact cX b
def Av:cU qK qK (cG IC):=dF
def Bm{k:Nat}(F:Fun K "calls" "calls" IC f fd)(NU:aV P w K mg base k "numbered" qK (FW K))(Y:mg "tuple"=none):bB P w K mg base cH (k+1) f fd qK (JC K):=by
 refine F.ok Av (λvs H Q E h=>?_) λa8 A outer s H vs Q E hr h=>?_
 .obtain⟨p,ks,v,rfl,_⟩:=h;rfl
 obtain⟨p,ks,v,rfl,o,q⟩:=h;have a5:(["entry"]:List Str).Nodup:=by rfl'
 exists _,bE (bU (dE gA rfl Y (by rfl') (aC (hV (N':=["entry"]) (src:=[none]) rfl eP (gO<|aW NU hr rfl<|aC (pv 0) aF)
   (g:=bS 0) (λ_ _ _ _=>gL 0 a5)
   (tt:=gH<|cJ nU (cJ (dB K) (cJ (dB K) (aJ 0)<|tC<|.int 2)<|tC<|.int 0)<|tC<|.str "call")
   (λ_ _ _ _=>mE<|cB iL (lK (show kQ _ (dB K) from oT) (lK (show kQ _ (dB K) from oT) (pv 0) aQ λ_ _=>rfl) aQ λ_ _=>rfl) cD<|cO _) (λ_ _ _ _=>pv 0)) aF)))
 ac_rfl
 refine⟨_,rfl,p,ks,v,rfl,o,λb ns H1 N M B=>⟨b,rfl,⟨_,SqT.of M⟩,λr L=>?_⟩⟩;have C:=vE o.rows;have W:=uL o.rows;have a4:=o.many;generalize eQ (eE ks v)=Z at B C W q;refine rX (xs:=ns.map V.ref) (AJ K H H1 r<|Z.zipIdx 0) ⟨_,[],rfl,(FrS.refl).put L,aE,.nil⟩ ?_ ?_ ?_
 .rintro i σ l hi ⟨_,_,_,a,_⟩;exact SqT.of<|a _ _ aT M
 .rintro i x σ l J ⟨a0,j,rfl,a,a1,ha⟩;rw[bD,vg8]at J;obtain⟨u,hu,rfl⟩:=J;obtain⟨z,hz,bd,I,X⟩:=B.get hu;obtain⟨w,rest,G,m,_⟩:=C z.1<|yY<|cX hz;have T:Tup H l:=Tup.of0<|N.trans a;have O:((Z.zipIdx 0).take<|i+1).filter (fX H)=((Z.zipIdx 0).take i).filter (fX H)++[z].filter (fX H):=by
   rw[dG,hz,CN];rfl
  have a9:↑j<=Z.length:=by
   have h1:=ha.len;have h2:=kG (fX H)<|(Z.zipIdx 0).take i;rw[dI,BA]at h2;lia
  exists _,rfl,u,_,_,_,rfl,rfl,SqT.of<|a _ _ aT I,rfl,z.1.2,_,_,.str w,rfl,rfl,SqT.of<|T _ _ G,uU _ _,rfl,_,rfl;rcases AL G m with ⟨rfl,_,_,k,d,_,_,e,_⟩ | ⟨n,e⟩
  .have es:fX H z=true:=by unfold fX;rw[e];rfl
   refine lF ⟨_,rfl,_,a1,wZ (by rw[aG];lia),_,j++[u],rfl,a.put L,by rw[aE,bP];rfl,?_⟩;rw[O,xR es,lV];have tl:Tup l (aA l r<|.lst<|j.map V.ref++[V.ref u]):=Tup.lst a1;exact(ha.ckeep tl).snoc<|CaIs.keep ⟨bd,I,X⟩<|(Tup.of0 a).trans tl
  .have es:¬fX H z=true:=by unfold fX;rw[e];exact cA
   show if (decide<|V.str w=V.str "call")=true then _ else _
   rw[eR λz=>n<|V.str.inj z];refine eV ⟨_,j,rfl,a,a1,?_⟩;rw[O,zD es,lV,iA];exact ha
 .rintro σ l ⟨a0,j,rfl,a,a1,ha⟩;rw[aG,B.len,dD<|aO _]at ha;refine⟨r,_,rfl,.inl ⟨SqL.of a1,λc m=>?_⟩⟩;exact q c j _ ((N.trans a).trans<|FrS.new m) aE<|ha.ckeep<|Tup.new m
def LT.sq(h:LT H a xs):SqL K H a xs\/SqT K H a xs:=h.imp SqL.of SqT.of
inductive ToIs(H:Hp)(e:Addr)(z:Nat×List Str):Prop
 | mk(t:Addr)(h1:H e=some (.tup [.int (z.1:Int),.ref t]))(h2:H t=some (.tup<|z.2.map V.str))(h3:↑z.2<=64):ToIs H e z
def ToIs.keep(h:ToIs H e z)(f:Tup H H'):ToIs H' e z:=by
 obtain⟨t,h1,h2,a⟩:=h;exact⟨t,f _ _ h1,f _ _ h2,a⟩
def _root_.L2.A2.tkeep(h:A2 (ToIs H) qs L)(f:Tup H H'):A2 (ToIs H') qs L:=h.imp λ_ _ g=>g.keep f
noncomputable def toldF(H:Hp)(tr:Tr)(ss:List Str)(C:List (Str×Str))(q:Fz×Nat):Nat×List Str:=(q.2,if q.1.1∈C then ss.filter (below tr<|uW H q.1.2) else [])
noncomputable def toldL(H:Hp)(tr:Tr)(ss:List Str)(C:List (Str×Str))(Z:List Fz):List (Nat×List Str):=((Z.zipIdx 0).filter<|fX H).map<|toldF H tr ss C
def Hi(hl:↑ss<=64):(toldF H tr ss C z).2.length<=64:=by
 unfold toldF;show(if _ then _ else _:List Str).length<=64
 split
 .exact fI (kG _ _) hl
 .exact bO _
def tU{j:Str->Str->Prop}{H H':Hp}{tr:Tr}{ss:List Str}{C d:List (Str×Str)}{Z:List Fz}(i:∀q∈Z,RowIs j H q.2)(f:Tup H H')(b:∀n,n∈d↔n∈C):toldL H' tr ss d Z=toldL H tr ss C Z:=by
 have e:∀q∈Z.zipIdx 0,jH H' q.1.2=jH H q.1.2:=λq a=>(JT (i q.1<|yY a) f).2;unfold toldL;have l:(Z.zipIdx 0).filter (fX H')=(Z.zipIdx 0).filter (fX H):=List.filter_congr λq a=>by unfold fX;rw[e q a]
 rw[l];refine rT λq a=>?_;unfold toldF uW;rw[e q (vq0.mp a).1]
 by_cases c:q.1.1∈C
 .rw[aR c,aR<|(b _).mpr c]
 .rw[aK c,aK λh=>c<|(b _).mp h]
inductive QY(K:Fg)(vs:List V)(H:Hp)(Q:VK):Prop
 | mk(p c a:Addr)(ks:List (Str×List Dz))(m0:Dz)(tr:Tr)(ss:List Str)(qs:List (Pr×Addr))(h1:vs=[.ref p,.ref c,.ref a])(h2:ProgIs Z H p ks m0)(h3:KindsAt H p tr)(h4:TrOk tr)(h5:↑tr<=12)
  (h6:LT H c (qs.map λq=>V.ref q.2)) (h7:∀q∈qs,BT K H q.2 q.1) (h8:H a=some (.tup<|ss.map V.str)) (h9:∀x∈ss,∃l,Up tr x l) (h10:↑ss<=64)
  (h11:∀(b:Addr)(es:List Addr)(H':Hp),FrS [] H H'->H' b=some (.tup<|es.map V.ref)->A2 (ToIs H') es (toldL H tr ss (qs.map (·.1))<|eQ<|eE ks m0)->Q (.ref b) H'):QY K vs H Q
def HM(K:Fg):Sp:=λvs H Q _=>QY K vs H Q
inductive NS(H:Hp)(H1:Hp)(p c a fl:Addr)(L:List (Nat×List Str))(i:Nat)(σ:St)(Hx:Hp):Prop
 | mk(x1 x2 x3 x4:Option V)(es:List Addr)(hσ:σ=[some<|.ref p,some<|.ref c,some<|.ref a,some<|.ref fl,x1,x2,x3,x4])(fr:FrS [] H Hx)(tp:Tup H1 Hx)(hf:Hx fl=some (.lst<|es.map V.ref))(ha:A2 (ToIs Hx) es (L.take i)):NS H H1 p c a fl L i σ Hx
abbrev MO:Stmt:=top 16
abbrev KR:Stmt:=top 22
abbrev DZ:List Str:=["program","come","kinds"]
def zt9:cU ["program","come","kinds","found","number","body","row","told"] DZ (cG MO):=dF
def Eu{k:Nat}(F:Fun K "told_among" "told_among" MO f fd)(CA:aV P w K mg base k "calls" qK (JC K))(AB:aV P w K mg base k "all_below" CC zS)(aa:mg "tuple"=none):bB P w K mg base cH (k+1) f fd DZ (HM K):=by
 refine F.ok zt9 (λvs H Q E h=>?_) λan A outer s H vs Q E X h=>?_
 .obtain⟨p,c,a,ks,r,tr,ss,j,rfl,_⟩:=h;rfl
 obtain⟨p,c,a,ks,r,tr,ss,j,rfl,M,hK,hT,ad,J,ae,ha,hU,hl,q⟩:=h;have hu:=gG X;exists _,aP (sL 3 zt9.nd<|cS aF)
  (aP (fQ eW rfl (gO<|aW CA X rfl<|aC (pv 0) aF) (fG (n:=3) rfl<|bR (gL 4 zt9.nd)<|bR (gL 5 zt9.nd)<|bR (gL 6 zt9.nd) fE)<|aP (sL 7 zt9.nd<|RP (cB (uB hu) (pv 5) (pv 1) rfl) (aW AB X rfl<|aC (pv 0)<|aC (pv 2)<|aC (eT (pv 6) aQ) aF)<|cS aF)<|bE<|gS<|hH hZ iX iN iK (pv 3)<|aC (dQ<|aC (pv 4)<|aC (dE gA rfl aa (by rfl')<|aC (pv 7) aF) aF) aF)
  (bE<|bU<|dE gA rfl aa (by rfl')<|aC (pv 3) aF))
 ac_rfl
 have s2:2<=sizeLine:=cM (bN<|by decide);refine⟨bO _,λm ac=>?_⟩;have f0:FrS [] H (aA H m<|.lst []):=FrS.new ac;have Z:=Tup.of0 f0;refine⟨_,rfl,p,ks,r,rfl,M.keep Z,λb ns H1 f1 hb v=>⟨b,rfl,⟨_,SqT.of hb⟩,?_⟩⟩;have aj:=f1 _ _ aT aE;have ag:=f0.trans f1;have hI:=vE M.rows;have ah:=uL M.rows;have a8:=M.many;have eS:((eQ<|eE ks r).zipIdx 0).filter (fX<|aA H m<|.lst [])=((eQ<|eE ks r).zipIdx 0).filter (fX H):=List.filter_congr λq o=>by
  unfold fX;rw[(JT (hI q.1<|yY o) Z).2]
 rw[eS]at v;have am:↑ns<=80000:=by
  have h1:=v.len;have h2:=kG (fX H)<|(eQ<|eE ks r).zipIdx 0;rw[BA]at h2;lia
 have a0:∀q∈((eQ<|eE ks r).zipIdx 0).filter (fX H),∃(k x y d:Str)(g:Addr),H q.1.2=some (.tup [.str "call",.str x,.str y,.str k,.str d,.ref g])/\uW H q.1.2=k:=λq o=>by
  obtain⟨o,J⟩:=vq0.mp o;obtain⟨w,rest,hw,ak,_⟩:=hI q.1<|yY o;rcases AL hw ak with ⟨rfl,_,_,k,d,_,rfl,e,_⟩ | ⟨n,e⟩
  .exact⟨k,_,_,_,_,hw,by unfold uW;rw[e];rfl⟩
  .unfold fX at J;rw[e]at J;cases J
 unfold toldL at q;generalize ((eQ<|eE ks r).zipIdx 0).filter (fX H)=N at v a0 q;refine lY (xs:=ns.map V.ref) (NS H H1 p c a m<|N.map<|toldF H tr ss<|j.map (·.1)) ⟨_,_,_,_,[],rfl,ag,(λ_ _ h=>h),aj,.nil⟩ ?_ ?_ ?_
 .rintro i σ G hi ⟨_,_,_,_,_,_,_,tp,_⟩;exact SqT.of<|tp _ _ hb
 .rintro i x σ G hx ⟨x1,x2,x3,x4,es,rfl,C,tp,T,B⟩;rw[bD,vg8]at hx;obtain⟨u,al,rfl⟩:=hx;obtain⟨z,hz,bd,u1,u2⟩:=v.get al;obtain⟨ck,_,_,_,_,a5,ek⟩:=a0 z<|cX hz;have a1:Tup H G:=Tup.of0 C;have ai:(N.map<|toldF H tr ss<|j.map (·.1)).take (i+1)=(N.map<|toldF H tr ss<|j.map (·.1)).take i++[toldF H tr ss (j.map (·.1)) z]:=by
   rw[dG,bD,hz];rfl
  have ao:↑es<=80000:=by
   have h1:=B.len;have h2:=v.len;rw[dI,aG]at h1;lia
  have W:(toldF H tr ss (j.map (·.1)) z).2.length<=64:=Hi hl;exists u,_,rfl,SqT.of<|tp _ _ u1,rfl,_,_,rfl,_,_,rfl,_,_,rfl,rfl;have Y:∀Q:VK,(∀(tl:Addr)(l:Hp),FrS [] G l->l tl=some (.lst<|(toldF H tr ss (j.map (·.1)) z).2.map V.str)->Q (.ref tl) l)->
    QX (gH<|cJ (DJ K false) (aJ 5)<|aJ 1) (fZ zS [] E0<|bG (aJ 0)<|bG (aJ 2)<|bG (cJ (dB K) (aJ 6)<|tC<|.int 3) aY) (lN aY) [some<|.ref p,some<|.ref c,some<|.ref a,some<|.ref m,some<|.int (z.2:Int),some<|.ref bd,some<|.ref z.1.2,x4] G Q:=by
   intro Q I;exists _,rfl,_,rfl,bd,c,z.1.1,j,rfl,rfl,(u2.keep tp).sq,(J.keep C).sq,BT.pd λq o=>(ae q o).keep a1,_,rfl;rw[Bool.false_xor];unfold toldF at I;refine bJ (λc'=>?_) λc'=>?_
   .rw[aR<|cC c',ek]at I;exact⟨_,rfl,_,rfl,_,rfl,z.1.2,_,_,.str ck,rfl,rfl,SqT.of<|a1 _ _ a5,rfl,p,a,ck,tr,ss,rfl,hK.keepT a1,hT,ad,.inr<|a1 _ _ ha,hU,hl,λtl l L W=>I tl l L W⟩
   .rw[aK λh=>c'<|cI h]at I;exact⟨bO _,λtl hn=>I tl _ (FrS.new hn) aE⟩
  refine Y _ λtl l L a3=>?_;have a7:=L _ _ aT T;refine⟨_,rfl,.inl ⟨rfl,_,SqL.of a7⟩,_,rfl,_,rfl,tl,_,rfl,.inl ⟨SqL.of a3,λtt af=>⟨s2,λte a9=>?_⟩⟩⟩;have fn:FrS [] l (aA (aA l tt<|.tup<|(toldF H tr ss (j.map (·.1)) z).2.map V.str) te<|.tup [.int (z.2:Int),.ref tt]):=(FrS.new af).trans<|FrS.new a9;have ab:=fn _ _ aT a7;have O:Tup _ (aA (aA (aA l tt<|.tup<|(toldF H tr ss (j.map (·.1)) z).2.map V.str) te<|.tup [.int (z.2:Int),.ref tt]) m<|.lst<|es.map V.ref++[V.ref te]):=Tup.lst ab;have tn:=(Tup.of0<|L.trans fn).trans O;refine⟨m,_,_,rfl,rfl,ab,wZ (by rw[aG];lia),_,_,_,_,es++[te],rfl,((C.trans L).trans fn).put ac,tp.trans tn,by rw[aE,bP];rfl,?_⟩;rw[ai];exact(B.tkeep tn).snoc ⟨tt,O _ _ aE,((Tup.new a9).trans O) _ _ aE,W⟩
 .rintro σ G ⟨_,_,_,_,es,rfl,C,tp,T,B⟩;rw[aG,v.len,<-wN (as:=N) (f:=toldF H tr ss<|j.map (·.1)),dD<|aO _]at B;refine⟨_,rfl,m,_,rfl,.inl ⟨SqL.of T,λd hd=>?_⟩⟩;exact q d es _ (C.trans<|FrS.new hd) aE<|B.tkeep<|Tup.new hd
inductive DK(K:Fg)(H H':Hp)(b:Addr)(kd:Kd)(tr:Tr)(L:List Fz)(ss:List Str)(come:List (Str×Str))(kinds:List Str):Prop
 | mk(es:List Addr)(h1:H' b=some (.tup<|es.map V.ref))(h2:A2 (ToIs H') es (toldL H tr kinds come L))(h5:MdOk H kd tr L ss come kinds)(h6:∀q∈L,Sat H kd tr ss come kinds q)(h7:PyProof.Rows.sortedS kinds=true):DK K H H' b kd tr L ss come kinds
inductive UG(K:Fg)(vs:List V)(H:Hp)(Q:VK):Prop
 | mk(p a:Addr)(ks:List (Str×List Dz))(m0:Dz)(tr:Tr)(ss:List Str)(Z:Str->Str->Prop)(h1:vs=[.ref p,.ref a])(h2:ProgIs Z H p ks m0)(h3:KindsAt H p tr)(h4:TrOk tr)(h5:↑tr<=12)(h6:nV Z ks tr)(h7:H a=some (.tup<|ss.map V.str))(h8:∀x∈ss,∃l,Up tr x l)(h9:↑ss<=12)
  (h10:∀(b:Addr)(come:List (Str×Str))(kinds:List Str)(H':Hp),FrS [] H H'->DK K H H' b (bQ ks tr) tr (eQ<|eE ks m0) ss come kinds->Q (.ref b) H'):UG K vs H Q
def HK(K:Fg):Sp:=λvs H Q _=>UG K vs H Q
def yj3:cU ["program","there","come","kinds"] jJ (cG KR):=dF
def Ay(F:Fun K "by_made" "by_made" KR f fd)(L:aV P w K mg base k "made_paper" jJ (BN K))(M:aV P w K mg base k "told_among" DZ (HM K)):bB P w K mg base cH (k+1) f fd jJ (HK K):=by
 refine F.ok yj3 (λvs H Q E h=>?_) λa6 A outer s H vs Q E I h=>?_
 .obtain⟨p,a,ks,e,tr,ss,Z,rfl,_⟩:=h;rfl
 obtain⟨p,a,ks,e,tr,ss,Z,rfl,i,z,d,j,B,ha,u,a1,q⟩:=h;exists _,aP (kW (aW L I rfl<|aC (pv 0)<|aC (pv 1) aF)<|fG (n:=2) rfl<|bR (gL 2 yj3.nd)<|bR (gL 3 yj3.nd) fE)
  (bE<|bU<|aW M I rfl<|aC (pv 0)<|aC (pv 2)<|aC (pv 3) aF)
 ac_rfl
 have v:=vE i.rows;exists _,rfl,_,rfl,p,a,ks,e,tr,ss,Z,rfl,i,z,d,j,B,ha,u,a1;rintro r O kinds H1 G ⟨ca,Y,J,a5,X,N,o,l,so⟩;have m:=Tup.of0 G;have few:=(o.few B d j v a1 u).2;exists r,_,rfl,SqT.of J,rfl,_,_,rfl,_,_,rfl,rfl;refine⟨_,rfl,_,rfl,_,rfl,p,ca,Y,ks,e,tr,kinds,O,rfl,i.keep m,z.keepT m,d,j,.inr a5,X,N,(λx T=>u x (o.kt x T).1),by lia,λb es H2 W hb C=>?_⟩;rw[tU v m λ_=>Iff.rfl]at C;exact q b _ kinds H2 (G.trans W) ⟨es,hb,C,o,l,so⟩
abbrev JX:Stmt:=top 17
def jC(ss:List Str)(n:Str×Str):Bool:=decide (n=MN) || decide (n.1∈ss)
inductive xP(H H':Hp)(b:Addr)(tr:Tr)(L:List Fz)(ss:List Str):Prop
 | mk(es:List Addr)(C:List (Str×Str))(h1:H' b=some (.tup<|es.map V.ref))(h2:A2 (ToIs H') es (toldL H tr ss C L))(h3:∀q∈L,q.1∈C↔jC ss q.1=true):xP H H' b tr L ss
inductive xL(vs:List V)(H:Hp)(Q:VK):Prop
 | mk(p a:Addr)(ks:List (Str×List Dz))(m0:Dz)(tr:Tr)(ss:List Str)(Z:Str->Str->Prop)(h1:vs=[.ref p,.ref a])(h2:ProgIs Z H p ks m0)(h3:KindsAt H p tr)(h4:TrOk tr)(h5:↑tr<=12)
  (h8:H a=some (.tup<|ss.map V.str)) (h9:∀x∈ss,∃l,Up tr x l) (h10:↑ss<=12)
  (h11:∀(b:Addr)(H':Hp),FrS [] H H'->xP H H' b tr (eQ<|eE ks m0) ss->Q (.ref b) H'):xL vs H Q
def nT:Sp:=λvs H Q _=>xL vs H Q
inductive KQ(K:Fg)(H1:Hp)(a Dl:Addr)(ss:List Str)(L:List (Str×Str))(i:Nat)(σ:St)(Hx:Hp):Prop
 | mk(x y:Option V)(qs:List (Pr×Addr))(hσ:σ=[x,y,some<|.ref a])(fr:FrS [] H1 Hx)(hD:Hx Dl=some (.lst<|qs.map λq=>V.ref q.2))(hq:∀q∈qs,BT K Hx q.2 q.1)(hn:qs.map (·.1)=(L.take i).filter (jC ss)):KQ K H1 a Dl ss L i σ Hx
def scBy:cU ["program","there","come"] jJ (cG JX):=dF
def BE(F:Fun K "by_tree" "by_tree" JX f fd)(BO:aV P w K mg base k "bodies" qK (HH K))(AM:aV P w K mg base k "told_among" DZ (HM K))(mM:mg "MAIN"=some (.ref am))(hM:∀H,SqT K H am [.str "",.str ""]):bB P w K mg base cH (k+1) f fd jJ nT:=by
 refine F.ok scBy (λvs H Q E h=>?_) λac A outer s H vs Q E N h=>?_
 .obtain⟨p,a,ks,I,tr,ss,Z,rfl,_⟩:=h;rfl
 obtain⟨p,a,ks,I,tr,ss,Z,rfl,M,hK,hT,a9,ha,hU,hl,q⟩:=h;have a8:=mN<|gG N;have a3:(["body","rows","there"]:List Str).Nodup:=by rfl'
 exists _,aP (nQ (i:=2) (N':=["body","rows","there"]) (src:=[none,none,some 1]) rfl scBy.nd rfl rfl eP (gO<|aW BO N rfl<|aC (pv 0) aF) (g:=eA K 2<|eC (bS 0)<|eC (bS 1) dZ) (λ_ _ _ _=>fG (n:=2) rfl<|bR (gL 0 a3)<|bR (gL 1 a3) fE) (λ_ _ _ _=>mE<|PW.pt<|CF (cB (show cN _ _ (xN K) from tK a8) (pv 0) (EW (v:=.ref am) rfl mM rfl)<|cO _)<|BW<|cB (show cN _ _ (iG K false) from mJ) (lK (show kQ _ (dB K) from oT) (pv 0) aQ λ_ _=>rfl) (pv 2) rfl) λ_ _ _ _=>pv 0)
  (bE<|bU<|aW AM N rfl<|aC (pv 0)<|aC (pv 2)<|aC (pv 1) aF)
 ac_rfl
 refine⟨_,rfl,p,ks,I,rfl,M,λb qs H1 f1 hb hB ab=>⟨b,rfl,⟨_,SqT.of hb⟩,λl T=>?_⟩⟩;have hI:=vE M.rows;have aa:=hB.len;generalize hL:eE ks I=L at *;refine rX (xs:=qs.map V.ref) (KQ K H1 a l ss<|L.map (·.1)) ⟨_,_,[],rfl,(FrS.refl).put T,aE,(λ_ h=>nomatch h),rfl⟩ ?_ ?_ ?_
 .rintro i σ C hi ⟨_,_,_,_,j,_⟩;exact SqT.of<|j _ _ aT hb
 .rintro i x σ C X ⟨x0,y0,r,rfl,j,a1,J,m⟩;rw[bD,vg8]at X;obtain⟨u,a6,rfl⟩:=X;obtain⟨z,hz,o,u1,Y⟩:=hB.get a6;have tx:=Tup.of0 j;have a5:=(Y.keep tx).sq;have ad:↑r<=1000:=by
   have h1:=cR List.length m;have h2:=kG (jC ss)<|(L.map (·.1)).take i;rw[dI,aG]at h2;rw[aG]at h1;lia
  have eF:((L.map (·.1)).take<|i+1).filter (jC ss)=((L.map (·.1)).take i).filter (jC ss)++[z.1].filter (jC ss):=by
   rw[dG,bD,hz,CN];rfl
  have W:jC ss z.1=true->∀(te:TE),te=aJ 0->te [some<|.ref o,some<|.ref z.2.2.1,some<|.ref a] C λv H4=>∃ys,H4 l=some (.lst ys)/\↑ys<sizeLine/\KQ K H1 a l ss (L.map (·.1)) (i+1) [some<|.ref o,some<|.ref z.2.2.1,some<|.ref a] (aA H4 l<|.lst<|ys++[v]):=by
   rintro c _ rfl;have tl:Tup C (aA C l<|.lst<|(r.map λq=>V.ref q.2)++[V.ref o]):=Tup.lst a1;exists _,rfl,_,a1,bN (by rw[aG];lia),_,_,r++[(z.1,o)],rfl,j.put T,by rw[aE,bP];rfl,λq B=>?_
   .rcases vj5.mp B with B | B
    .exact(J q B).keep tl
    .rw[vh7.mp B];exact Y.keep<|tx.trans tl
   .rw[eF,xR c,lV,bP,m];rfl
  exists u,_,rfl,SqT.of<|tx _ _ u1,rfl,_,_,rfl,_,_,rfl,rfl;exists _,rfl,o,am,[z.1.1,z.1.2],["",""],rfl,rfl,a5,hM _,_,rfl;refine bJ (λc=>?_) λc=>?_
  .have c':z.1=MN:=by
    have:=cC c;injection this with h1 h2;injection h2 with h2 _;exact Prod.ext h1 h2
   exact W (by unfold jC;rw[cI c'];rfl) _ rfl
  have c':z.1≠MN:=λe=>c (cI<|by rw[e])
  exists _,rfl,o,_,_,.str z.1.1,rfl,rfl,a5,uU _ _,_,rfl,a,_,rfl,.inr<|SqT.of<|tx _ _<|Tup.of0 f1 _ _ ha,rfl,jB _,_,rfl;show if hX (.str z.1.1) (ss.map V.str)=true then _ else _
  rw[kJ];refine bJ (λO=>?_) λO=>?_
  .exact W (by unfold jC;rw[cI<|cC O,Bool.or_true]) _ rfl
  .have a7:z.1.1∉ss:=λe=>O<|cI e;exists _,_,r,rfl,j,a1,J;rw[eF,zD (by unfold jC;rw[eR c',eR a7];decide),lV,iA];exact m
 .rintro σ C ⟨x0,y0,r,rfl,j,a1,J,m⟩;rw[aG,aa,<-wN (as:=L) (f:=(·.1)),dD<|aO _]at m;have fx:=f1.trans j;have tx:=Tup.of0 fx;refine⟨_,rfl,_,rfl,_,rfl,p,l,a,ks,I,tr,ss,r,rfl,M.keep tx,hK.keepT tx,hT,a9,.inl a1,J,tx _ _ ha,hU,by lia,λd es H2 f2 hd hE=>?_⟩;rw[hL,tU hI tx λ_=>Iff.rfl]at hE;refine q d H2 (fx.trans f2) ⟨es,_,hd,hE,λn G=>?_⟩;rw[m,vq0];refine⟨λh=>h.2,λh=>⟨?_,h⟩⟩;unfold eQ at G;obtain⟨z,hz,G⟩:=List.mem_flatMap.mp G;obtain⟨y,_,rfl⟩:=vh6.mp G;exact vh6.mpr ⟨z,hz,rfl⟩
abbrev uX:Stmt:=top 43
def VC(z y:Nat×List Str):Prop:=z.1=y.1/\∀x∈z.2,x∈y.2
inductive oR(vs:List V)(H:Hp)(Q:VK):Prop
 | mk(a b:Addr)(es fs:List Addr)(L M:List (Nat×List Str))(h1:vs=[.ref a,.ref b])(h2:H a=some (.tup<|es.map V.ref))(h3:H b=some (.tup<|fs.map V.ref))(h4:A2 (ToIs H) es L)(h5:A2 (ToIs H) fs M)(h6:A2 VC L M)(h7:↑es<=80000)(h8:∀H',FrS [] H H'->Q (.bl true) H'):oR vs H Q
def FQ:Sp:=λvs H Q _=>oR vs H Q
inductive RD(H1:Hp)(Dl:Addr)(L:List (Nat×List Str))(i:Nat)(σ:St)(Hx:Hp):Prop
 | mk(x y:Option V)(hσ:σ=[x,y])(fr:FrS [] H1 Hx)(hD:Hx Dl=some (.lst<|((L.take i).map λz=>(z.1:Int)).map V.int)):RD H1 Dl L i σ Hx
inductive OQ(H1:Hp)(Dl:Addr)(i:Nat)(σ:St)(Hx:Hp):Prop
 | mk(x y:Option V)(hσ:σ=[x,y])(fr:FrS [] H1 Hx)(hD:Hx Dl=some (.lst<|(List.replicate i true).map V.bl)):OQ H1 Dl i σ Hx
abbrev lQ:List Str:=["_law_few","_law_many"]
def DV:cU lQ lQ (cG uX):=dF
def yA{Q:Hp->Prop}(a1:H Dl=none)(ha:H a=some (.tup<|es.map V.ref))(f:A2 (ToIs H) es L)(hz:↑es<=80000)(l:∀H',FrS [] H H'->H' Dl=some (.lst<|(L.map λz=>(z.1:Int)).map V.int)->Q H'):
  mG (tE K a) (eA K 2<|eC (bS 0)<|eC (bS 1) dZ) kU (aJ 0) Dl [none,none] (aA H Dl<|.lst []) Q:=by
 refine rX (xs:=es.map V.ref) (RD H Dl L) ⟨_,_,rfl,(FrS.refl).put a1,aE⟩ ?_ ?_ ?_
 .rintro i σ e hi ⟨_,_,_,b,_⟩;exact SqT.of<|b _ _ aT ha
 .rintro i x σ e j ⟨p,o,rfl,b,d⟩;rw[bD,vg8]at j;obtain⟨u,h,rfl⟩:=j;obtain⟨z,n,t,m,q,_⟩:=f.get h;have hi:=(vg4.mp h).1;exists u,_,rfl,SqT.of<|b _ _ aT m,rfl,_,_,rfl,_,_,rfl,rfl;exists _,rfl,_,d,wZ (by rw[aG,aG,dI];lia),_,_,rfl,b.put a1;rw[aE,dG,n,bP,bP];rfl
 .rintro σ e ⟨p,o,rfl,b,d⟩;rw[aG,f.len,dD<|aO _]at d;exact l e b d
def sI(F:Fun K "_law_among" "_law_among" uX f fd)(O:mg "set"=none)(ai:mg "all"=none)(am:mg "zip"=none):bB P w K mg base cH (k+1) f fd lQ FQ:=by
 refine F.ok DV (λvs H Q E h=>?_) λao A outer s H vs Q E hr h=>?_
 .obtain⟨a,b,es,fs,L,M,rfl,_⟩:=h;rfl
 obtain⟨a,b,es,fs,L,M,rfl,ha,I,N,J,hR,hz,q⟩:=h;have a9:=mN<|gG hr;have C:(["_law_number","_law_kinds"]:List Str).Nodup:=by rfl'
 have G:(["_law_one","_law_other"]:List Str).Nodup:=by rfl'
 exists _,aP (dS (cB (tX a9) (hV (N':=["_law_number","_law_kinds"]) (src:=[none,none]) rfl eP (gO<|pv 0) (g:=eA K 2<|eC (bS 0)<|eC (bS 1) dZ) (λ_ _ _ _=>fG (n:=2) rfl<|bR (gL 0 C)<|bR (gL 1 C) fE) (λ_ _ _ _=>gR) λ_ _ _ _=>pv 0) (hV (N':=["_law_number","_law_kinds"]) (src:=[none,none]) rfl eP (gO<|pv 1) (g:=eA K 2<|eC (bS 0)<|eC (bS 1) dZ) (λ_ _ _ _=>fG (n:=2) rfl<|bR (gL 0 C)<|bR (gL 1 C) fE) (λ_ _ _ _=>gR) λ_ _ _ _=>pv 0)<|cO _) (bE<|bU kZ) dW)
  (bE (bU (eU (SQ rfl) rfl ai (by rfl') (aC
   (hV (N':=["_law_one","_law_other"]) (src:=[none,none]) rfl eP (tZ (p:=true) rfl am<|aC (pv 0)<|aC (pv 1) aF) (g:=eA K 2<|eC (bS 0)<|eC (bS 1) dZ) (λ_ _ _ _=>fG (n:=2) rfl<|bR (gL 0 G)<|bR (gL 1 G) fE) (λ_ _ _ _=>gR) (te:=cJ nS (cJ (ES w) (jT (jW K w)<|bG (cJ (dB K) (aJ 0)<|tC<|.int 1) aY)<|jT (jW K w)<|bG (cJ (dB K) (aJ 1)<|tC<|.int 1) aY)<|jT (λvs H Q=>vs=[]/\∀l,H l=none->Q (.ref l) (aA H l<|iP l)) aY) λ_ _ _ _=>pL (show cN _ _ nS from KI a9) (bV (show cN _ _ (ES w) from ST) (dE (show L2.CallR _ _ (jW K w) from BJ rfl) rfl O (by rfl')<|aC (lK (show kQ _ (dB K) from oT) (pv 0) aQ λ_ _=>rfl) aF)<|dE (show L2.CallR _ _ (jW K w) from BJ rfl) rfl O (by rfl')<|aC (lK (show kQ _ (dB K) from oT) (pv 1) aQ λ_ _=>rfl) aF) (JK NB rfl O<|by rfl')<|cO _) aF))))
 ac_rfl
 have eN:(L.map λz=>(z.1:Int))=M.map λz=>(z.1:Int):=by
  clear N J hz
  induction hR with
  | nil=>rfl
  | cons h _ ih=>rw[eM,eM,ih,h.1]
 have aq:=N.len;have ap:=J.len;have ar:=hR.len;refine⟨_,rfl,a,rfl,⟨_,SqT.of ha⟩,λD1 ac=>yA ac ha N hz λH1 f1 aj=>?_⟩;have X:=Tup.of0 f1;refine⟨_,rfl,b,rfl,⟨_,SqT.of<|X _ _ I⟩,λD2 ah=>yA ah (X _ _ I) (J.tkeep X) (by lia) λH2 f2 ab=>?_⟩;rw[<-eN]at ab;refine⟨D1,D2,_,rfl,rfl,SqL.of<|f2 _ _ aT aj,SqL.of ab,_,rfl,eV ?_⟩;have a8:=f1.trans f2;have B:=Tup.of0 a8;refine⟨_,rfl,_,rfl,a,b,_,_,rfl,SqT.of<|B _ _ ha,SqT.of<|B _ _ I,λZ a6=>?_⟩;refine Bs (xs:=es.map V.ref) (ys:=fs.map V.ref) (OQ H2 Z) ⟨_,_,rfl,(FrS.refl).put a6,aE⟩ (by rw[aG,aG];lia) ?_ ?_ ?_
 .rintro i σ m hi ⟨_,_,_,j,_⟩;exact⟨SqT.of<|j _ _ aT<|B _ _ ha,SqT.of<|j _ _ aT<|B _ _ I⟩
 .rintro i x y T σ m e hy ⟨x0,y0,rfl,j,a1⟩ hT;rw[bD,vg8]at e hy;obtain⟨u,hu,rfl⟩:=e;obtain⟨v,hv,rfl⟩:=hy;obtain⟨z,al,t,u1,u2,u3⟩:=N.get hu;obtain⟨y,af,t',v1,v2,v3⟩:=J.get hv;obtain⟨y',a5,_,ag⟩:=hR.get al;rw[af]at a5;cases a5;have hi:=(vg4.mp hu).1;have W:FrS [] H2 (aA m T<|.tup [V.ref u,V.ref v]):=j.trans<|FrS.new hT;have a7:aA m T (.tup [V.ref u,V.ref v]) Z=some (.lst<|(List.replicate i true).map V.bl):=by rw[aI<|aX a1 hT];exact a1
  exists T,_,rfl,SqT.of aE,rfl,_,_,rfl,_,_,rfl,rfl;generalize aA m T (.tup [V.ref u,V.ref v])=H3 at W a7;have Y:=B.trans<|Tup.of0 W;refine⟨_,rfl,u,_,_,.ref t,rfl,rfl,SqT.of<|Y _ _ u1,rfl,t,z.2,rfl,.inl<|SqT.of<|Y _ _ u2,by lia,λd ss ak C m1=>?_⟩;have fa:FrS [] H3 (aA H3 d<|dV w d ss):=FrS.new ak;have t4:=Y.trans<|Tup.of0 fa;refine⟨_,rfl,v,_,_,.ref t',rfl,rfl,SqT.of<|t4 _ _ v1,rfl,t',y.2,rfl,.inl<|SqT.of<|t4 _ _ v2,by lia,λs2 tt aa G m2=>?_⟩;have ae:aA (aA H3 d<|dV w d ss) s2 (dV w s2 tt) d=some (dV w d ss):=(FrS.new aa) _ _ aT aE;have fb:FrS [] H3 (aA (aA H3 d<|dV w d ss) s2<|dV w s2 tt):=fa.trans<|FrS.new aa;have an:↑tt<=↑y.2:=wS G λx e=>(m2 x).mp e;refine⟨d,s2,ss,tt,rfl,rfl,ae,aE,λx e=>(m2 x).mpr<|ag x<|(m1 x).mp e,by lia,λr ad=>?_⟩;have fc:=fb.trans<|FrS.new (o:=iP r) ad;refine⟨rfl,λl hl=>?_⟩;have fd:=fc.trans<|FrS.new (o:=iP l) hl;exists r,l,rfl,rfl,(FrS.new hl) _ _ aT aE,aE;exists _,fd _ _ aT a7,wZ (by rw[aG,List.length_replicate];lia),_,_,rfl,(W.trans fd).put a6;rw[aE,List.replicate_succ',bP];rfl
 .rintro σ m ⟨x0,y0,rfl,j,a1⟩;rw[aG]at a1;exists Z,_,rfl,SqL.of a1;rw[show(List.replicate ↑es true).all id=true by simp];exact q m<|a8.trans j
theorem oU{α β:Type}{R:β->β->Prop}{f g:α->β}:∀l:List α,(∀q∈l,R (f q)<|g q)->A2 R (l.map f) (l.map g)
 | [],_=>.nil
 | q::l,h=>.cons (h q<|.head _)<|oU l λq a=>h q<|.tail _ a
def KM(d:∀x∈k1,x∈k2)(b:∀q∈Z,q.1∈C1->q.1∈C2):A2 VC (toldL H tr k1 C1 Z) (toldL H tr k2 C2 Z):=by
 unfold toldL;refine oU _ λq e=>⟨rfl,λx a=>?_⟩;have hz:=yY (vq0.mp e).1;unfold toldF at a ⊢
 by_cases c:q.1.1∈C1
 .rw[show(if q.1.1∈C1 then k1.filter (below tr<|uW H q.1.2) else [])=_ from aR c]at a;show x∈(if q.1.1∈C2 then k2.filter (below tr<|uW H q.1.2) else []);rw[aR<|b _ hz c];obtain⟨h1,h2⟩:=vq0.mp a;exact vq0.mpr ⟨d x h1,h2⟩
 .rw[show(if q.1.1∈C1 then k1.filter (below tr<|uW H q.1.2) else [])=_ from aK c]at a;cases a
def TD:↑(toldL H tr ss C Z)<=Z.length:=by
 unfold toldL;rw[aG];have:=kG (fX H)<|Z.zipIdx 0;rwa [BA]at this
def Sat.keep(f:Tup H H')(d:RowIs Z H q.2):Sat H' kd tr ts come kinds q↔Sat H kd tr ts come kinds q:=by
 obtain⟨a,b⟩:=IJ (ts:=ts) (kd:=kd) (tr:=tr) (ss:=kinds) d f;unfold Sat;rw[a,b]
def UpIn.line(h:UpIn tr ss)(u:Up tr x l):x∈ss->∀r∈l,r∈ss:=by
 induction u with
 | root _=>intro b r a;rw[vh7.mp a];exact b
 | step hi _ ih=>
  intro b r a;rcases vh3.mp a with rfl | a
  .exact b
  .exact ih (h _ (cX hi) b _ rfl) r a
structure MdR(H:Hp)(kd:Kd)(tr:Tr)(L:List Fz)(ss:List Str)(come:List (Str×Str))(kinds:List Str):Prop where
 m0:MN∈come
 sat:∀q∈L,Sat H kd tr ss come kinds q
 ls:∀(C:List (Str×Str))(Ks:List Str),MN∈C->(∀q∈L,Sat H kd tr ss C Ks q)->(∀n∈come,n∈C)/\∀k∈kinds,k∈Ks
 ki:∀k∈kinds,k∈ss
def MdR.of(f:Tup H H')(e:∀q∈L,RowIs Z H q.2)(b:MdOk H' kd tr L ss come kinds)(d:∀q∈L,Sat H' kd tr ss come kinds q):MdR H kd tr L ss come kinds:=
 ⟨b.m0,λq a=>(Sat.keep f<|e q a).mp<|d q a,λC i l h=>b.ls C i l λq a=>(Sat.keep f<|e q a).mpr<|h q a,λk j=>(b.kt k j).1⟩
def MdR.grow(h:MdR H kd tr L ss come kinds)(g:MdR H kd tr L tt come' kinds')(d:∀x∈ss,x∈tt):(∀n∈come,n∈come')/\∀k∈kinds,k∈kinds':=
 h.ls come' kinds' g.m0 λq b a=>⟨λk e=>(g.sat q b a).1 k (by
  obtain⟨h1,h2⟩:=yw7.mp e;exact yw7.mpr ⟨h1,d k h2⟩),(g.sat q b a).2⟩
def MdOk.inn(h:MdOk H0 (bQ ks tr) tr L ts come kinds)(f:nV Z ks tr)(ok:TrOk tr)(j:∀q∈L,RowIs Z H0 q.2)(p:∀x∈ts,∃l,Up tr x l)(o:UpIn tr ts):∀n∈come,jC ts n=true:=λn s=>by
 unfold jC;rcases h.co n s with rfl | ⟨q,hq,_,_,hc⟩
 .rfl
 .obtain⟨w,rest,ha,i,_⟩:=j q hq;unfold clL at hc;rcases AL ha i with ⟨_,_,_,k,d,_,_,e,hz⟩ | ⟨_,e⟩
  .rw[e]at hc;obtain⟨x,m,rfl⟩:=vh6.mp hc;obtain⟨h1,h2⟩:=vq0.mp m;have a1:=(h.kt x h1).1;obtain⟨l,a⟩:=p x a1;rw[<-EJ ok a]at h2;obtain⟨r,b,_⟩:=ME f ok hz a<|cC h2;rw[b];unfold ansOf at b;rw[IR ok a]at b;show(decide ((r,d)=MN) || decide (r∈ts))=true;rw[cI<|o.line a a1 r<|zF b,Bool.or_true]
  .rw[e]at hc;cases hc
abbrev FS:Stmt:=top 44
inductive SK(vs:List V)(H:Hp)(Q:VK):Prop
 | mk(p a b:Addr)(ks:List (Str×List Dz))(m0:Dz)(tr:Tr)(ss tt:List Str)(Z:Str->Str->Prop)(h1:vs=[.ref p,.ref a,.ref b])(h2:ProgIs Z H p ks m0)(h3:KindsAt H p tr)(h4:TrOk tr)(h5:↑tr<=12)(h6:nV Z ks tr)(h7:H a=some (.tup<|ss.map V.str))(h8:∀x∈ss,∃l,Up tr x l)(h9:↑ss<=12)(h10:H b=some (.tup<|tt.map V.str))(h11:∀x∈tt,∃l,Up tr x l)(h12:↑tt<=12)(h13:∀x∈ss,x∈tt)(h14:∀H',FrS [] H H'->Q (.bl true) H'):SK vs H Q
def HL:Sp:=λvs H Q _=>SK vs H Q
abbrev NH:List Str:=["_law_program_here","_law_there_here","_law_more"]
def yd2:cU ["_law_program_here","_law_there_here","_law_more","_law_some","_law_kinds","_law_others","_law_wider"] NH (cG FS):=dF
def Gy(F:Fun K "_law_grows" "_law_grows" FS f fd)(AG:aV P w K mg base k "_law_among" lQ FQ)(aj:aV P w K mg base k "by_tree" jJ nT)(BM:aV P w K mg base k "by_made" jJ (HK K))(MP:aV P w K mg base k "made_paper" jJ (BN K))(a1:mg "set"=none):bB P w K mg base cH (k+1) f fd NH HL:=by
 refine F.ok yd2 (λvs H Q E h=>?_) λax A outer s H vs Q E e h=>?_
 .obtain⟨p,a,b,ks,m,tr,ss,tt,Z,rfl,_⟩:=h;rfl
 obtain⟨p,a,b,ks,m,tr,ss,tt,Z,rfl,i,I,u,v,G,ha,hU,X,hb,Y,a3,W,q⟩:=h;have hu:=gG e;have au:=mN hu;have am:(A.deeper<|PyProof.Rows.envOfC "_law_grows" (cG FS) s⁻¹ f ax).units+4<cLine:=by have:=e.units;lia
 exists _,aP (dS (EI<|vQ<|aW AG e rfl<|aC (aW aj e rfl<|aC (pv 0)<|aC (pv 1) aF)<|aC (aW aj e rfl<|aC (pv 0)<|aC (pv 2) aF) aF) (bE<|bU kZ) dW)
  (aP (dS (EI<|vQ<|aW AG e rfl<|aC (aW BM e rfl<|aC (pv 0)<|aC (pv 1) aF)<|aC (aW BM e rfl<|aC (pv 0)<|aC (pv 2) aF) aF) (bE<|bU kZ) dW) (aP (kW (aW MP e rfl<|aC (pv 0)<|aC (pv 1) aF)<|fG (n:=2) rfl<|bR (gL 3 yd2.nd)<|bR (gL 4 yd2.nd) fE) (aP (kW (aW MP e rfl<|aC (pv 0)<|aC (pv 2) aF)<|fG (n:=2) rfl<|bR (gL 5 yd2.nd)<|bR (gL 6 yd2.nd) fE) (bE (bU (qV (pL (KI au) (bV (ZJ hu) (dE (RH rfl am) rfl a1 (by rfl')<|aC (pv 3) aF)<|dE (RH rfl am) rfl a1 (by rfl')<|aC (pv 5) aF) (JK NB rfl a1<|by rfl')<|cO _)
   (rE<|pL (KI au) (bV ST (dE (BJ rfl) rfl a1 (by rfl')<|aC (pv 4) aF)<|dE (BJ rfl) rfl a1 (by rfl')<|aC (pv 6) aF) (JK NB rfl a1<|by rfl')<|cO _)))))))
 ac_rfl
 have j:=vE i.rows;have bg:=uL i.rows;have ai:=i.many;have a2:∀{H0:Hp}{k1:List Str}{C:List (Str×Str)}{es:List Addr}{H':Hp},A2 (ToIs H') es (toldL H0 tr k1 C<|eQ<|eE ks m)->↑es<=80000:=λ{H0 k1 C es H'} h=>by
  have h1:=h.len;have h2:=TD (H:=H0) (tr:=tr) (ss:=k1) (C:=C) (Z:=eQ<|eE ks m);lia
 exists _,rfl,_,rfl,p,a,ks,m,tr,ss,Z,rfl,i,I,u,v,ha,hU,X;rintro b1 H1 f1 ⟨e1,C1,g1,A1,c1⟩;have N:=Tup.of0 f1;exists _,rfl,_,rfl,p,b,ks,m,tr,tt,Z,rfl,i.keep N,I.keepT N,u,v,N _ _ hb,Y,a3;rintro b2 H2 f2 ⟨e2,C2,g2,ak,c2⟩;have t2:=N.trans<|Tup.of0 f2;rw[tU j N λ_=>Iff.rfl]at ak;refine⟨b1,b2,e1,e2,_,_,rfl,(Tup.of0 f2) _ _ g1,g2,A1.tkeep<|Tup.of0 f2,ak,KM W λn M h=>(c2 n M).mpr ?_,a2 A1,λH3 f3=>⟨_,rfl,eV ?_⟩⟩
 .have h:=(c1 n M).mp h;unfold jC at h ⊢;rw[Bool.or_eq_true,pX,pX]at h ⊢;exact h.imp id<|W _
 have B:=t2.trans<|Tup.of0 f3;have az:=(f1.trans f2).trans f3;exists _,rfl,_,rfl,p,a,ks,m,tr,ss,Z,rfl,i.keep B,I.keepT B,u,v,G,B _ _ ha,hU,X;rintro b4 c4 k4 H4 f4 ⟨e4,g4,A4,bi,ab,_⟩;have z:=B.trans<|Tup.of0 f4;exists _,rfl,_,rfl,p,b,ks,m,tr,tt,Z,rfl,i.keep z,I.keepT z,u,v,G,z _ _ hb,Y,a3;rintro b5 c5 k5 H5 T ⟨e5,g5,A5,b9,a9,_⟩;rw[tU j B λ_=>Iff.rfl]at A4;rw[tU j z λ_=>Iff.rfl]at A5;obtain⟨gc,gk⟩:=(MdR.of B j bi ab).grow (MdR.of z j b9 a9) W;have t5:=z.trans<|Tup.of0 T;refine⟨b4,b5,e4,e5,_,_,rfl,(Tup.of0 T) _ _ g4,g5,A4.tkeep<|Tup.of0 T,A5,KM gk λn M h=>gc _ h,a2 A4,λH6 f6=>⟨_,rfl,eV ?_⟩⟩;have J:=t5.trans<|Tup.of0 f6;have b3:=((az.trans f4).trans T).trans f6;exists _,rfl,_,rfl,p,a,ks,m,tr,ss,Z,rfl,i.keep J,I.keepT J,u,v,G,J _ _ ha,hU,X;rintro r7 q7 k7 H7 f7 ⟨ca,ka,av,b7,ah,ba,as,ad,_⟩;exists r7,_,rfl,SqT.of av,rfl,_,_,rfl,_,_,rfl,rfl;have O:=J.trans<|Tup.of0 f7;exists _,rfl,_,rfl,p,b,ks,m,tr,tt,Z,rfl,i.keep O,I.keepT O,u,v,G,O _ _ hb,Y,a3;rintro r8 q8 k8 H8 f8 ⟨cb,kb,ay,bc,ar,b8,al,ac,_⟩;exists r8,_,rfl,SqT.of ay,rfl,_,_,rfl,_,_,rfl,rfl;obtain⟨aw,bf⟩:=(MdR.of J j as ad).grow (MdR.of O j al ac) W;have af:=as.few G u v (λq d=>(j q d).keep J) X hU;have aa:=al.few G u v (λq d=>(j q d).keep O) a3 Y;rw[aG]at af aa;have a5:=Tup.of0 f8;have bh:=(b3.trans f7).trans f8;refine⟨_,rfl,ca,q7,rfl,SqT.of<|a5 _ _ b7,BT.pd λq d=>(ah q d).keep a5,by lia,λL a8 b6 in1 m1=>?_⟩;have fa:FrS [] H8 (aA H8 L<|pJ P w L a8):=FrS.new b6;have ta:=Tup.of0 fa;refine⟨_,rfl,cb,q8,rfl,SqT.of<|ta _ _ bc,BT.pd λq d=>(ar q d).keep ta,by lia,λs2 ae ao b0 m2=>?_⟩;have fb:=fa.trans<|FrS.new (o:=pJ P w s2 ae) ao;have tb:=Tup.of0 fb;refine⟨L,s2,a8,ae,rfl,rfl,(FrS.new ao) _ _ aT aE,aE,BT.pd λq d=>(ah q<|in1 q d).keep<|a5.trans tb,BT.pd λq d=>(ar q<|b0 q d).keep tb,λn M=>(m2 n).mpr<|aw n<|(m1 n).mp M,λr bd=>?_⟩;have fc:=fb.trans<|FrS.new (o:=iP r) bd;refine⟨rfl,λl hl=>?_⟩;have fd:=fc.trans<|FrS.new (o:=iP l) hl;refine⟨r,l,rfl,rfl,(FrS.new hl) _ _ aT aE,aE,_,rfl,lF ?_⟩;generalize aA (aA (aA (aA H8 L<|pJ P w L a8) s2<|pJ P w s2 ae) r<|iP r) l (iP l)=H9 at fd;have td:=Tup.of0 fd;refine⟨_,rfl,ka,k7,rfl,.inl<|SqT.of<|td _ _<|a5 _ _ ba,by lia,λs3 an be bj m3=>?_⟩;have fe:FrS [] H9 (aA H9 s3<|dV w s3 an):=FrS.new be;refine⟨_,rfl,kb,k8,rfl,.inl<|SqT.of<|(Tup.of0 fe) _ _<|td _ _ b8,by lia,λs4 a7 ap bb m4=>?_⟩;have ff:=fe.trans<|FrS.new (o:=dV w s4 a7) ap;have bk:↑a7<=↑k8:=wS bb λx hx=>(m4 x).mp hx;refine⟨s3,s4,an,a7,rfl,rfl,(FrS.new ap) _ _ aT aE,aE,λx hx=>(m4 x).mpr<|bf x<|(m3 x).mp hx,by lia,λr' ag=>?_⟩;have fg:=ff.trans<|FrS.new (o:=iP r') ag;refine⟨rfl,λl' aq=>?_⟩;have fh:=fg.trans<|FrS.new (o:=iP l') aq;exists r',l',rfl,rfl,(FrS.new aq) _ _ aT aE,aE;exact q _<|(bh.trans fd).trans fh
abbrev iV:Stmt:=top 45
inductive oE(K:Fg)(vs:List V)(H:Hp)(Q:VK):Prop
 | mk(a:Addr)(ns:List Int)(h1:vs=[.ref a])(h2:SqL K H a (ns.map V.int))(h3:↑ns<=63)(h4:∀H',Q (.bl true) H'):oE K vs H Q
def FJ(K:Fg):Sp:=λvs H Q _=>oE K vs H Q
structure SoI(H:Hp)(a:Addr)(tr:Tr)(ss:List Str):Prop where
 g:H a=some (.tup<|ss.map V.str)
 le:↑ss<=12
 up:∀x∈ss,∃l,Up tr x l
 ui:UpIn tr ss
def SoI.keep(h:SoI H a tr ss)(f:Tup H H'):SoI H' a tr ss:=⟨f _ _ h.g,h.le,h.up,h.ui⟩
inductive yQ(K:Fg)(a:Addr)(ns:List Int)(i:Nat)(σ:St)(Hx:Hp):Prop
 | mk(x1 x2 x3 x4 x5 x6 x7 x8 x9 x10:Option V)(h1:σ=[some<|.ref a,x1,x2,x3,x4,x5,x6,x7,x8,x9,x10])(h2:SqL K Hx a (ns.map V.int)):yQ K a ns i σ Hx
inductive RY(H1:Hp)(Dl:Addr)(tr:Tr)(i:Nat)(σ:St)(Hx:Hp):Prop
 | mk(x y z:Option V)(hσ:σ=[x,y,z])(fr:FrS [] H1 Hx)(hD:Hx Dl=some (.lst<|((tr.map (·.1)).take i).map V.str)):RY H1 Dl tr i σ Hx
inductive OA(H1:Hp)(Dl p:Addr)(ns late:List Str)(i:Nat)(σ:St)(Hx:Hp):Prop
 | mk(x:Option V)(hσ:σ=[x,some<|.ref p])(fr:FrS [] H1 Hx)(hD:Hx Dl=some (.lst<|((ns.take i).filter λx=>decide<|x∉late).map V.str)):OA H1 Dl p ns late i σ Hx
inductive TF(H1:Hp)(xs:List (Option V))(y:Option V)(i:Nat)(σ:St)(Hx:Hp):Prop
 | mk(x:Option V)(hσ:σ=xs++[x,y])(fr:FrS [] H1 Hx):TF H1 xs y i σ Hx
inductive WC(H3:Hp)(Dl t:Addr)(i:Nat)(σ:St)(Hx:Hp):Prop
 | mk(x:Option V)(h1:σ=[x,some<|.ref t])(fx:FrS [] H3 Hx)(hD:Hx Dl=some (.lst [])):WC H3 Dl t i σ Hx
inductive RL(H1:Hp)(Dl p:Addr)(i:Nat)(σ:St)(Hx:Hp):Prop
 | mk(x y:Option V)(hσ:σ=[x,y,some<|.ref p])(fr:FrS [] H1 Hx)(hD:Hx Dl=some (.lst<|(List.replicate i true).map V.bl)):RL H1 Dl p i σ Hx
def Gb(h:SqL K H a xs)(f:∀b o,H b=some o->H' b=some o):SqL K H' a xs:=by
 rcases h with (h | ⟨o,h⟩) | h
 .exact .inl<|.inl<|f _ _ h
 .exact .inl<|.inr ⟨o,f _ _ h⟩
 .exact .inr h
def LO{tr:Tr}{ss:List Str}(a:↑tr<=12)(nd:ss.Nodup)(h:∀x∈ss,x∈tr.map (·.1)):↑ss<=12:=by
 have:=wS nd h;rw[aG]at this;lia
def SS(a:TrOk tr)(h:x∈tr.map (·.1)):∃l,Up tr x l:=by
 obtain⟨z,hz,rfl⟩:=vh6.mp h;obtain⟨i,hi⟩:=vm3.mp hz;exact Up.exists a i _ _ hi
def Up.nm(h:Up tr x l):x∈tr.map (·.1):=by
 obtain⟨i,g,hi⟩:=h.at;exact vh6.mpr ⟨_,cX hi,rfl⟩
def yg5:cU ["_law_script","_law_k",qH,"_law_program_here","_law_names","_law_first","_law_there_here","_law_more","_law_both","_law_some","_law_rows_here"] ["_law_script"] (cG iV):=dF
def vD(F:Fun K "law" "law" iV f fd)(HN:aV P w K mg base k "_law_hand" ["_law_script","_law_k"] (MF K))(PR:aV P w K mg base k "_law_program" [qH,"_law_most"] KC)(O:aV P w K mg base k "_law_of" qC (cZ K))(TH:aV P w K mg base k "_law_there" JV LM)(AG:aV P w K mg base k "_law_among" lQ FQ)(dp:aV P w K mg base k "by_tree" jJ nT)(BM:aV P w K mg base k "by_made" jJ (HK K))(MP:aV P w K mg base k "made_paper" jJ (BN K))(GR:aV P w K mg base k "_law_grows" NH HL)
  (ml:mg "len"=none) (mr:mg "range"=none) (mx:mg "max"=none) (mn:mg "min"=none) (am:mg "tuple"=none) (aq:mg "sorted"=none) (ds:mg "set"=none) (ea:mg "all"=none):bB P w K mg base cH (k+1) f fd ["_law_script"] (FJ K):=by
 refine F.ok yg5 (λvs H Q E h=>?_) λeg A outer s H vs Q E hr h=>?_
 .obtain⟨a,ns,rfl,_⟩:=h;rfl
 obtain⟨a,ns,rfl,hS,dv,q⟩:=h;have ef:=mN<|gG hr;have bd:(["_law_name","_law_elder","_law_deeds"]:List Str).Nodup:=by rfl'
 have ec:(["_law_name","_law_program_here"]:List Str).Nodup:=by rfl'
 have dk:(["_law_one","_law_some"]:List Str).Nodup:=by rfl'
 have cf:(["_law_one","_law_other","_law_program_here"]:List Str).Nodup:=by rfl'
 exists _,aP (fQ eW rfl (vT rfl mr<|aC (eU (Fc rfl) rfl mx (by rfl')<|aC aQ<|aC (eU (Cr rfl) rfl mn (by rfl')<|aC (eU nJ rfl ml jA<|aC (pv 0) aF)<|aC aQ aF) aF) aF) (gL 1 yg5.nd)
   (aP (sL 2 yg5.nd<|aW HN hr rfl<|aC (pv 0)<|aC (pv 1) aF) (aP (iW (i:=3) yg5.nd rfl (Or.inr rfl)<|aW PR hr rfl<|aC (pv 2)<|aC (aW O hr rfl<|aC (pv 2)<|aC (cS<|dL<|dL<|dL aF) aF) aF) (aP (nQ (i:=4) (N':=["_law_name","_law_elder","_law_deeds"]) (src:=[none,none,none]) rfl yg5.nd rfl rfl eP (gO<|eT (pv 3) aQ) (g:=eA K 3<|eC (bS 0)<|eC (bS 1)<|eC (bS 2) dZ) (λ_ _ _ _=>fG (n:=3) rfl<|bR (gL 0 bd)<|bR (gL 1 bd)<|bR (gL 2 bd) fE) (λ_ _ _ _=>gR) λ_ _ _ _=>pv 0) (aP (sL 5 yg5.nd (dE gA rfl am (by rfl') (aC (eU DM rfl aq (by rfl') (aC
    (hV (N':=["_law_name","_law_program_here"]) (src:=[none,some 3]) rfl eP (gM<|pv 4) (g:=bS 0) (λ_ _ _ _=>gL 0 ec) (tt:=gH<|cJ (iG K true) (aJ 0)<|cJ (dB K) (aJ 1)<|tC<|.int 1) (λ_ _ _ _=>mE<|cB (show cN _ _ (iG K true) from GV) (pv 0) (lK (show kQ _ (dB K) from oT) (pv 1) aQ λ_ _=>rfl) rfl) λ_ _ _ _=>pv 0) aF)) aF)))
   (aP (OZ (i:=6) (j:=7) rfl yg5.nd rfl rfl (by decide) rfl rfl (aC (aW TH hr rfl<|aC (pv 2)<|aC (pv 3) aF)<|aC (aW TH hr rfl<|aC (pv 2)<|aC (pv 3) aF) aF) rfl)
   (aP (sL 8 yg5.nd<|dE gA rfl am (by rfl')<|aC (eU (Ev rfl) rfl aq (by rfl')<|aC (dE (BJ rfl) rfl ds (by rfl')<|aC (bV JE (pv 6)<|pv 7) aF) aF) aF)
   (aP (fQ eW rfl (gO<|dQ<|aC (pv 5)<|aC (pv 6)<|aC (pv 8)<|aC (dE gA rfl am (by rfl')<|aC (eU DM rfl aq (by rfl')<|aC (pv 4) aF) aF) aF) (sS (i:=9) yg5.nd rfl<|Or.inr rfl)
    (aP (dS (EI<|vQ<|aW AG hr rfl<|aC (aW BM hr rfl<|aC (pv 3)<|aC (pv 9) aF)<|aC (aW dp hr rfl<|aC (pv 3)<|aC (pv 9) aF) aF) (bE<|bU kZ) dW)<|bE<|dS (cB (EF ef) (hV (N':=["_law_one","_law_some"]) (src:=[none,some 9]) rfl eP (gO<|eT (aW MP hr rfl<|aC (pv 3)<|aC (pv 9) aF) aQ) (g:=bS 0) (λ_ _ _ _=>gL 0 dk) (tt:=gH<|cJ (iG K true) (cJ (dB K) (aJ 0)<|tC<|.int 0)<|cJ (ER K) (gD<|bG (tC<|.str "") aY)<|aJ 1) (λ_ _ _ _=>mE<|cB (show cN _ _ (iG K true) from GV) (lK (show kQ _ (dB K) from oT) (pv 0) aQ λ_ _=>rfl) (bV (show cN _ _ (ER K) from JE) (dQ<|aC cD aF)<|pv 1) rfl) λ_ _ _ _=>pv 0) (cS aF)<|cO _) (bE<|bU kZ) dW))
   (aP (sL 10 yg5.nd<|cS<|aC (dQ<|aC (pv 5)<|aC (pv 6) aF)<|aC (dQ<|aC (pv 6)<|aC (pv 8) aF)<|aC (dQ<|aC (pv 7)<|aC (pv 8) aF)<|aC (dQ<|aC (pv 8)<|aC (dE gA rfl am (by rfl')<|aC (eU DM rfl aq (by rfl')<|aC (pv 4) aF) aF) aF) aF)
   (bE (dS (EI (vQ (eU (SQ rfl) rfl ea (by rfl') (aC
    (hV (N':=["_law_one","_law_other","_law_program_here"]) (src:=[none,none,some 3]) rfl eP (gM<|pv 10) (g:=eA K 2<|eC (bS 0)<|eC (bS 1) dZ) (λ_ _ _ _=>fG (n:=2) rfl<|bR (gL 0 cf)<|bR (gL 1 cf) fE) (λ_ _ _ _=>gR) (te:=fZ HL [] E0<|bG (aJ 2)<|bG (aJ 0)<|bG (aJ 1) aY) λ_ _ _ _=>aW GR hr rfl<|aC (pv 2)<|aC (pv 0)<|aC (pv 1) aF) aF)))) (bE (bU kZ)) dW)))))))))))
  (bE<|bU kZ)
 ac_rfl
 have s4:4<=sizeLine:=cM (bN<|by decide);have s3:3<=sizeLine:=cM (bN<|by decide);have s2:2<=sizeLine:=cM (bN<|by decide);have s1:1<=sizeLine:=cM (bN<|by decide);exists _,rfl,a,_,rfl,.inl hS,_,_,rfl,_,_,rfl;obtain⟨nk,dx,el⟩:∃nk:Int,(if (if (2:Int)<((↑(ns.map V.int):Nat):Int) then(2:Int) else((↑(ns.map V.int):Nat):Int)) > 1 then(if (2:Int)<((↑(ns.map V.int):Nat):Int) then(2:Int) else((↑(ns.map V.int):Nat):Int)) else 1)=nk/\nk<=2/\1<=nk:=by
  exists _,rfl,?_
  .split <;> (try split) <;> lia
  .split <;> (try split) <;> lia
 rw[dx];refine⟨nk,rfl,by lia,by lia,?_⟩;refine HE (lo:=0) (n:=nk.toNat) (yQ K a ns) ⟨_,_,_,_,_,_,_,_,_,_,rfl,hS⟩ ?_ λσ Hx _=>q Hx;rintro i σ Hx hi ⟨x1,x2,x3,x4,x5,x6,x7,x8,x9,d0,rfl,cv⟩;refine⟨_,rfl,_,rfl,a,ns,i,by rw[Int.zero_add];rfl,cv,dv,by lia,λhd d m ci hok=>?_⟩;generalize V.int (0+(i:Nat))=dj;have bn:Hand (aA Hx hd<|hl d m 0 0) hd d m 0 0:=Hand.at hok;refine⟨_,rfl,_,rfl,s3,λpi av=>?_⟩;have ac:pi≠hd:=λz=>by rw[z,bn.1]at av;cases av
 have e8:Hand (aA (aA Hx hd<|hl d m 0 0) pi<|.lst [V.int 12,V.int 30,V.int 80]) hd d m 0 0:=⟨by rw[aI<|cW ac];exact bn.1,bn.2⟩;refine⟨hd,pi,d,m,0,0,_,rfl,e8,by decide,ac,SqL.of aE,by simp,by show 3<1000;decide,λy db mb tb hy cb eb=>?_⟩;obtain⟨mo,rfl,dw⟩:∃mo:Int,y=.int mo/\0<=mo/\mo<=80:=by
  simp only[vh3,aT,dJ]at hy;rcases hy with rfl | rfl | rfl
  .exact⟨12,rfl,by decide,by decide⟩
  .exact⟨30,rfl,by decide,by decide⟩
  .exact⟨80,rfl,by decide,by decide⟩
 have b4:Hx pi=none:=by rw[aI ac]at av;exact av
 refine⟨hd,mo,db,mb,tb,0,rfl,dw,Hand.at cb,by lia,λp ks m0 tr G Z H1 d1 m1 t1 r1 f1 hP hK N a8 bl hN hh ht=>?_⟩;have k1:∀b o,Hx b=some o->H1 b=some o:=λb o e=>by
  have nb:b≠hd:=aX e ci;have np:b≠pi:=aX e b4;refine f1 b o (by simpa using nb) ?_;rw[aI nb,aI np,aI nb];exact e
 obtain⟨kt,ts,x',y',hp,hk,ak,dg⟩:=id hK;obtain⟨eh,lt,m2,dy,e7,eo,d4,dm⟩:=id bl;have hI:=vE hP.rows;have bi:=uL hP.rows;have ck:=hP.many;have bp:↑(tr.map (·.1))<=12:=by rw[aG];exact a8
 refine⟨_,rfl,p,_,_,_,rfl,rfl,SqT.of hp,rfl,kt,rfl,⟨_,SqT.of hk⟩,λDn an=>?_⟩;refine rX (xs:=ts.map V.ref) (RY H1 Dn tr) ⟨_,_,_,rfl,(FrS.refl).put an,aE⟩ ?_ ?_ ?_
 .rintro j σ Hy hj ⟨_,_,_,_,M,_⟩;exact SqT.of<|M _ _ aT hk
 .rintro j x σ Hy B ⟨_,_,_,rfl,M,af⟩;rw[bD,vg8]at B;obtain⟨u,hu,rfl⟩:=B;have hj:j<↑tr:=by rw[<-ak];exact(vg4.mp hu).1
  have hz:tr[j]?=some tr[j]:=bH hj;obtain⟨v,hv⟩:=dg j u _ hu hz;exists u,_,rfl,SqT.of<|M _ _ aT hv,rfl,_,_,rfl,_,_,rfl,_,_,rfl,rfl;exists _,rfl,_,af,bN (by rw[aG,dI];lia),_,_,_,rfl,M.put an;rw[aE,dG,bD,hz,bP];rfl
 rintro σ H2 ⟨_,_,_,rfl,f2,ao⟩;rw[aG,ak,<-wN (as:=tr) (f:=(·.1)),dD<|aO _]at ao;have t2:=Tup.of0 f2;refine⟨_,rfl,Dn,rfl,⟨_,SqL.of ao⟩,λDf cj=>?_⟩;refine mI (xs:=(tr.map (·.1)).map V.str) (OA H2 Df p (tr.map (·.1)) G) ⟨_,rfl,(FrS.refl).put cj,aE⟩ ?_ ?_ ?_
 .rintro j σ Hy hj ⟨_,_,M,_⟩;exact SqL.of<|M _ _ aT ao
 .rintro j x σ Hy B ⟨_,rfl,M,af⟩;rw[bD,vg8]at B;obtain⟨y,hy,rfl⟩:=B;have tf:=t2.trans<|Tup.of0 M;have eF:((tr.map (·.1)).take<|j+1).filter (λx=>decide<|x∉G)=((tr.map (·.1)).take j).filter (λx=>decide<|x∉G)++[y].filter (λx=>decide<|x∉G):=by
   rw[dG,hy,CN];rfl
  have bi:↑(((tr.map (·.1)).take j).filter λx=>decide<|x∉G)<=12:=by
   have h2:=kG (λx=>decide<|x∉G)<|(tr.map (·.1)).take j;rw[dI]at h2;lia
  exists _,rfl,_,rfl,p,_,_,_,rfl,rfl,SqT.of<|tf _ _ dy,rfl,lt,_,rfl,.inr<|SqT.of<|tf _ _ e7,rfl,jB _,_,rfl;show if (!hX (.str y) (G.map V.str))=true then _ else _
  rw[kJ];refine bJ (λc=>?_) λc=>?_
  .have c:y∉G:=by simpa using c
   exists _,rfl,_,af,bN (by rw[aG];lia),_,rfl,M.put cj;rw[aE,eF,xR (by simpa using c),lV,bP];rfl
  .have c:y∈G:=by simpa using c
   exists _,rfl,M;rw[eF,zD (by simpa using c),lV,iA];exact af
 rintro σ H3 ⟨_,rfl,f3,co⟩;rw[aG,dD<|aO _]at co;have bi:↑((tr.map (·.1)).filter λx=>decide<|x∉G)<=12:=fI (kG _ _) bp;refine⟨Df,_,rfl,SqL.of co,by lia,λsl a7 dq cs _=>⟨sl,_,rfl,.inl ⟨SqL.of aE,λa1 df=>?_⟩⟩⟩;have f4:FrS [] H3 (aA (aA H3 sl<|.lst<|a7.map V.str) a1<|.tup<|a7.map V.str):=(FrS.new dq).trans<|FrS.new df;have g4:aA (aA H3 sl<|.lst<|a7.map V.str) a1 (.tup<|a7.map V.str) a1=some (.tup<|a7.map V.str):=aE;generalize aA (aA H3 sl<|.lst<|a7.map V.str) a1 (.tup<|a7.map V.str)=H4 at f4 g4;have in1:∀x,x∈a7↔x∈tr.map (·.1)/\x∉G:=λx=>by
  rw[cs.mem_iff,vq0,pX]
 have cr:SoI H4 a1 tr a7:=⟨g4,by rw[cs.length_eq];exact bi,λx B=>SS N ((in1 x).mp B).1,λx B e0 e he=>(in1 e).mpr ⟨N.elder B he,λhl=>((in1 _).mp e0).2<|d4 x B e he hl⟩⟩;have b5:=(f2.trans f3).trans f4;have bo:=Tup.of0 b5;have cw:Hand H4 hd d1 m1 t1 r1:=⟨b5 _ _ aT hh.1,hh.2⟩;refine⟨_,rfl,_,rfl,hd,p,d1,m1,t1,r1,tr,G,rfl,cw,by lia,hK.keepT bo,N,a8,bl.keep bo,λJ ad H5 d5 m5 t5 f5 g5 l5 U5 i5 o5 bt en=>?_⟩;have b9:Tup H4 H5:=f5.tup1 cw.1;have bf:=bo.trans b9;refine⟨_,rfl,_,rfl,hd,p,d5,m5,t5,r1,tr,G,rfl,bt,by lia,hK.keepT bf,N,a8,bl.keep bf,λa3 ae H6 d6 m6 t6 f6 g6 l6 U6 i6 o6 ek ej=>⟨_,_,rfl,?_⟩⟩;have au:Tup H5 H6:=f6.tup1 bt.1;have cg:=bf.trans au;have be:SoI H6 J tr ad:=⟨au _ _ g5,l5,U5,i5⟩;have bz:SoI H6 a3 tr ae:=⟨g6,l6,U6,i6⟩;have ne:∀{ss:List Str},(∀x∈tr,x.1∉G->x.1∈ss)->ss.map V.str≠[]:=λ{ss} h z=>by
  obtain⟨x,B,hn⟩:=dm;have:=h x B hn;rw[List.map_eq_nil_iff]at z;rw[z]at this;cases this
 have dn:Dn≠hd:=λz=>by rw[z,hh.1]at an;cases an
 have dl:∀b o,Hx b=some o->H6 b=some o:=λb o e=>by
  have nb:b∉[hd]:=by simpa using aX e ci
  exact f6 b o nb<|f5 b o nb<|b5 b o aT<|k1 b o e
 have cd:H6 Dn=some (.lst<|(tr.map (·.1)).map V.str):=f6 _ _ (by simpa using dn)<|f5 _ _ (by simpa using dn)<|f4 _ _ aT<|f3 _ _ aT ao;refine⟨_,rfl,_,rfl,J,a3,_,_,rfl,rfl,SqT.of be.g,SqT.of bz.g,ne o5,by rw[aG,aG];exact cM (bN<|by lia),λz=>absurd z<|ne o6,λ_ pc de=>?_⟩;refine⟨pc,ad++ae,rfl,.inl (SqT.of<|by rw[aE,bP]),by rw[bL];lia,λsb uu cy d2 mu=>?_⟩;have dh:∀x∈uu,x∈tr.map (·.1):=λx B=>by
  rcases vj5.mp ((mu x).mp B)with h | h
  .obtain⟨l,hl⟩:=U5 x h;exact hl.nm
  .obtain⟨l,hl⟩:=U6 x h;exact hl.nm
 have dt:=LO a8 d2 dh;refine⟨sb,uu,rfl,aE,by lia,λar a0 bb cc _=>⟨ar,_,rfl,.inl ⟨SqL.of aE,λI e3=>?_⟩⟩⟩;have f7:FrS [] H6 (aA (aA (aA (aA H6 pc<|.tup<|ad.map V.str++ae.map V.str) sb<|dV w sb uu) ar<|.lst<|a0.map V.str) I<|.tup<|a0.map V.str):=(((FrS.new de).trans<|FrS.new cy).trans<|FrS.new bb).trans<|FrS.new e3;have g7:aA (aA (aA (aA H6 pc<|.tup<|ad.map V.str++ae.map V.str) sb<|dV w sb uu) ar<|.lst<|a0.map V.str) I (.tup<|a0.map V.str) I=some (.tup<|a0.map V.str):=aE;generalize aA (aA (aA (aA H6 pc<|.tup<|ad.map V.str++ae.map V.str) sb<|dV w sb uu) ar<|.lst<|a0.map V.str) I (.tup<|a0.map V.str)=H7 at f7 g7;have ai:∀x,x∈a0↔x∈ad\/x∈ae:=λx=>by rw[cc.mem_iff,mu x,vj5]
 have bu:SoI H7 I tr a0:=⟨g7,by rw[cc.length_eq];exact dt,λx B=>((ai x).mp B).elim (U5 x)<|U6 x,λx B h e he=>(ai e).mpr<|((ai _).mp h).imp (λh=>i5 x B h e he) λh=>i6 x B h e he⟩;refine⟨_,rfl,_,rfl,_,rfl,_,rfl,Dn,_,rfl,SqL.of<|f7 _ _ aT cd,by lia,λaw aa bk e4 _=>⟨aw,_,rfl,.inl ⟨SqL.of aE,λY d9=>⟨s4,λtq bc=>?_⟩⟩⟩⟩;have c9:FrS [] H7 (aA (aA H7 aw<|.lst<|aa.map V.str) Y<|.tup<|aa.map V.str):=(FrS.new bk).trans<|FrS.new d9;have g8:aA (aA H7 aw<|.lst<|aa.map V.str) Y (.tup<|aa.map V.str) Y=some (.tup<|aa.map V.str):=aE;generalize aA (aA H7 aw<|.lst<|aa.map V.str) Y (.tup<|aa.map V.str)=bm at c9 g8 bc;have f8:FrS [] H7 (aA bm tq<|.tup [V.ref a1,V.ref J,V.ref I,V.ref Y]):=c9.trans<|FrS.new bc;have gq:aA bm tq (.tup [V.ref a1,V.ref J,V.ref I,V.ref Y]) tq=some (.tup [V.ref a1,V.ref J,V.ref I,V.ref Y]):=aE;have ct:=(FrS.new (o:=.tup [V.ref a1,V.ref J,V.ref I,V.ref Y]) bc) _ _ aT g8;exists tq,rfl,⟨_,SqT.of gq⟩;generalize aA bm tq (.tup [V.ref a1,V.ref J,V.ref I,V.ref Y])=H8 at f8 gq ct;have c0:=Tup.of0 f8;have bw:=f7.trans f8;have b7:=Tup.of0 bw;have dz:=cg.trans b7;have bq:∀{ss:List Str},ss.Perm (tr.map (·.1))->∀{H:Hp}{b:Addr},H b=some (.tup<|ss.map V.str)->SoI H b tr ss:=λ{ss} pm {H b} g=>⟨g,by rw[pm.length_eq];exact bp,λx B=>SS N<|pm.mem_iff.mp B,λx B _ e he=>pm.mem_iff.mpr<|N.elder B he⟩
 have d8:=(b9.trans au).trans b7;have b8:∀x∈[V.ref a1,V.ref J,V.ref I,V.ref Y],∃as ss,x=V.ref as/\SoI H8 as tr ss:=λx B=>by
  simp only[vh3,aT,dJ]at B;rcases B with rfl | rfl | rfl | rfl
  .exact⟨_,_,rfl,cr.keep d8⟩
  .exact⟨_,_,rfl,be.keep b7⟩
  .exact⟨_,_,rfl,bu.keep c0⟩
  .exact⟨_,_,rfl,bq e4 ct⟩
 refine lY (xs:=[V.ref a1,V.ref J,V.ref I,V.ref Y]) (TF H8 [some<|.ref a,some dj,some<|.ref hd,some<|.ref p,some<|.ref Dn,some<|.ref a1,some<|.ref J,some<|.ref a3,some<|.ref I] d0) ⟨_,rfl,FrS.refl⟩ ?_ ?_ ?_
 .rintro j σ Hy hj ⟨_,_,M⟩;exact SqT.of<|M _ _ aT gq
 .rintro j x σ Hy B ⟨_,rfl,fy⟩;obtain⟨as,ss,rfl,cz⟩:=b8 x<|cX B;have ty:=dz.trans<|Tup.of0 fy;have L:=cz.keep<|Tup.of0 fy;exists _,rfl,_,rfl,p,as,ks,m0,tr,ss,Z,rfl,hP.keep ty,hK.keepT ty,N,a8,hN,L.g,L.up,L.le;rintro b1 c1 k1 Ha fa ⟨e1,g1,A1,cu,dd,_⟩;have ta:=ty.trans<|Tup.of0 fa;exists _,rfl,_,rfl,p,as,ks,m0,tr,ss,Z,rfl,hP.keep ta,hK.keepT ta,N,a8,(Tup.of0 fa) _ _ L.g,L.up,L.le;rintro b2 Hb fb ⟨e2,C2,g2,bv,c2⟩;rw[tU hI ty λ_=>Iff.rfl]at A1;rw[tU hI ta λ_=>Iff.rfl]at bv;have d7:↑e1<=80000:=by
   have h1:=A1.len;have h2:=TD (H:=H1) (tr:=tr) (ss:=k1) (C:=c1) (Z:=eQ<|eE ks m0);lia
  have e5:∀q∈eQ (eE ks m0),RowIs Z Hy q.2:=λq hq=>(hI q hq).keep ty;refine⟨b1,b2,e1,e2,_,_,rfl,(Tup.of0 fb) _ _ g1,g2,A1.tkeep<|Tup.of0 fb,bv,KM (λx B=>(cu.kt x B).1) λn hn h=>(c2 n hn).mpr<|cu.inn hN N e5 L.up L.ui _ h,d7,λHc fc=>⟨_,rfl,eV ?_⟩⟩;have cq:=(fa.trans fb).trans fc;have c5:=Tup.of0 cq;have tc:=ty.trans c5;have cl:=L.keep c5;exists _,rfl,_,rfl,p,as,ks,m0,tr,ss,Z,rfl,hP.keep tc,hK.keepT tc,N,a8,hN,cl.g,L.up,L.le;rintro r qs kinds Hd fd ⟨ca,ka,dc,bx,da,em,md,sat,_⟩;have d3:=cl.keep<|Tup.of0 fd;have e9:∀q∈eQ (eE ks m0),RowIs Z Hc q.2:=λq hq=>(hI q hq).keep tc;refine⟨r,_,_,.ref ca,rfl,rfl,SqT.of dc,rfl,ca,rfl,⟨_,SqT.of bx⟩,λDl ax=>?_⟩;refine rX (xs:=qs.map λq=>V.ref q.2) (WC Hd Dl as) ⟨_,rfl,(FrS.refl).put ax,aE⟩ ?_ ?_ ?_
  .rintro l σ Hz hl ⟨_,_,fz,_⟩;exact SqT.of<|fz _ _ aT bx
  .rintro l x σ Hz B ⟨_,rfl,fz,b0⟩;rw[bD,vg8]at B;obtain⟨q0,du,rfl⟩:=B;have c8:=cX du;have tz:=Tup.of0 fz;have hok:q0.1.1∈("":Str)::ss:=by
    have:=md.inn hN N e9 L.up L.ui q0.1<|vh6.mpr ⟨_,c8,rfl⟩;unfold jC at this;rw[Bool.or_eq_true,pX,pX]at this;rcases this with h | h
    .rw[h];exact .head _
    .exact .tail _ h
   refine⟨_,rfl,q0.2,_,_,.str q0.1.1,rfl,rfl,((da q0 c8).keep tz).sq,uU _ _,s1,λtp ah=>⟨_,rfl,tp,as,[V.str ""],ss.map V.str,rfl,rfl,SqT.of aE,SqT.of<|(Tup.new ah) _ _<|tz _ _ d3.g,(λz=>nomatch z),by rw[aG];exact cM<|bN (by have:=L.le;show 1+_<=_;lia),λz=>?_,λ_ di aj=>?_⟩⟩
   .rw[List.map_eq_nil_iff]at z;subst z;exists tp,[V.str ""],rfl,.inr<|SqT.of aE,rfl,jB [("":Str)],_,rfl;show if (!hX (.str q0.1.1) ([("":Str)].map V.str))=true then _ else _
    rw[kJ,cI hok];refine eV ⟨_,rfl,fz.trans<|FrS.new ah,?_⟩;rw[aI<|aX b0 ah];exact b0
   .exists di,_,rfl,.inr<|SqT.of aE,rfl,jB<|("":Str)::ss,_,rfl;show if (!hX (.str q0.1.1) ((("":Str)::ss).map V.str))=true then _ else _
    rw[kJ,cI hok];refine eV ⟨_,rfl,(fz.trans<|FrS.new ah).trans<|FrS.new aj,?_⟩;exact(FrS.new aj) _ _ aT<|(FrS.new ah) _ _ aT b0
  .rintro σ He ⟨_,rfl,fe,cm⟩;refine⟨bO _,λDe a9=>⟨Dl,De,[],rfl,rfl,aX cm a9,SqL.of<|(FrS.new a9) _ _ aT cm,SqL.of aE,_,rfl,eV ?_⟩⟩;exact⟨_,rfl,((fy.trans cq).trans fd).trans<|fe.trans<|FrS.new a9⟩
 rintro σ H9 ⟨ei,rfl,f9⟩;have dr:=Tup.of0 f9;have ce:=bw.trans f9;refine⟨_,rfl,_,rfl,s2,λT cp=>⟨_,rfl,_,rfl,s2,λu2 bj=>⟨_,rfl,_,rfl,s2,λX az=>⟨_,rfl,_,rfl,Dn,tr.map (·.1),rfl,SqL.of ?_,by lia,λay ab ag br _=>⟨ay,_,rfl,.inl ⟨SqL.of aE,λa6 cx=>⟨s2,λW b3=>⟨s4,λlr ap=>?_⟩⟩⟩⟩⟩⟩⟩⟩
 .exact(((FrS.new cp).trans<|FrS.new bj).trans<|FrS.new az) _ _ aT (ce _ _ aT cd)
 have fA:FrS [] H9 (aA (aA (aA H9 T<|.tup [V.ref a1,V.ref J]) u2<|.tup [V.ref J,V.ref I]) X<|.tup [V.ref a3,V.ref I]):=((FrS.new cp).trans<|FrS.new bj).trans<|FrS.new az;have v1:=((FrS.new (o:=.tup [V.ref J,V.ref I]) bj).trans<|FrS.new (o:=.tup [V.ref a3,V.ref I]) az) _ _ aT<|aE (H:=H9) (a:=T) (o:=.tup [V.ref a1,V.ref J]);have v2:=(FrS.new (o:=.tup [V.ref a3,V.ref I]) az) _ _ aT<|aE (H:=aA H9 T<|.tup [V.ref a1,V.ref J]) (a:=u2) (o:=.tup [V.ref J,V.ref I]);have v3:aA (aA (aA H9 T<|.tup [V.ref a1,V.ref J]) u2<|.tup [V.ref J,V.ref I]) X (.tup [V.ref a3,V.ref I]) X=some (.tup [V.ref a3,V.ref I]):=aE;generalize aA (aA (aA H9 T<|.tup [V.ref a1,V.ref J]) u2<|.tup [V.ref J,V.ref I]) X (.tup [V.ref a3,V.ref I])=HA at fA v1 v2 v3 ag cx b3 ap ⊢;have fB:FrS [] HA (aA (aA HA ay<|.lst<|ab.map V.str) a6<|.tup<|ab.map V.str):=(FrS.new ag).trans<|FrS.new cx;have v6:aA (aA HA ay<|.lst<|ab.map V.str) a6 (.tup<|ab.map V.str) a6=some (.tup<|ab.map V.str):=aE;generalize aA (aA HA ay<|.lst<|ab.map V.str) a6 (.tup<|ab.map V.str)=HB at fB v6 b3 ap ⊢;have fC:FrS [] HB (aA (aA HB W<|.tup [V.ref I,V.ref a6]) lr<|.lst [V.ref T,V.ref u2,V.ref X,V.ref W]):=(FrS.new b3).trans<|FrS.new ap;have v4:=(FrS.new (o:=.lst [V.ref T,V.ref u2,V.ref X,V.ref W]) ap) _ _ aT<|aE (H:=HB) (a:=W) (o:=.tup [V.ref I,V.ref a6]);have vl:aA (aA HB W<|.tup [V.ref I,V.ref a6]) lr (.lst [V.ref T,V.ref u2,V.ref X,V.ref W]) lr=some (.lst [V.ref T,V.ref u2,V.ref X,V.ref W]):=aE;generalize aA (aA HB W<|.tup [V.ref I,V.ref a6]) lr (.lst [V.ref T,V.ref u2,V.ref X,V.ref W])=HC at fC v4 vl ⊢;have c7:=(fA.trans fB).trans fC;have ch:=ce.trans c7;have al:=Tup.of0 ch;have e6:=c0.trans<|dr.trans<|Tup.of0 c7;have bh:=Tup.of0<|fB.trans fC;have ee:=cg.trans al;have c1:=cr.keep<|(b9.trans au).trans al;have c2:=be.keep al;have c3:=bz.keep al;have c4:=bu.keep e6;have c6:=bq br<|(Tup.of0 fC) _ _ v6;have b6:∀x∈[V.ref T,V.ref u2,V.ref X,V.ref W],∃u as bs ss tt,x=V.ref u/\HC u=some (.tup [V.ref as,V.ref bs])/\SoI HC as tr ss/\SoI HC bs tr tt/\∀x∈ss,x∈tt:=λx B=>by
  simp only[vh3,aT,dJ]at B;rcases B with rfl | rfl | rfl | rfl
  .refine⟨_,_,_,_,_,rfl,bh _ _ v1,c1,c2,λx B=>?_⟩;obtain⟨h1,h2⟩:=(in1 x).mp B;obtain⟨z,hz,rfl⟩:=vh6.mp h1;exact o5 z hz h2
  .exact⟨_,_,_,_,_,rfl,bh _ _ v2,c2,c4,λx B=>(ai x).mpr<|.inl B⟩
  .exact⟨_,_,_,_,_,rfl,bh _ _ v3,c3,c4,λx B=>(ai x).mpr<|.inr B⟩
  .refine⟨_,_,_,_,_,rfl,v4,c4,c6,λx B=>br.mem_iff.mpr ?_⟩;obtain⟨l,hl⟩:=c4.up x B;exact hl.nm
 refine⟨_,rfl,lr,rfl,⟨_,SqL.of vl⟩,λDl ax=>?_⟩;refine mI (xs:=[V.ref T,V.ref u2,V.ref X,V.ref W]) (RL HC Dl p) ⟨_,_,rfl,(FrS.refl).put ax,aE⟩ ?_ ?_ ?_
 .rintro j σ Hy hj ⟨_,_,_,M,_⟩;exact SqL.of<|M _ _ aT vl
 .rintro j x σ Hy B ⟨_,_,rfl,fy,af⟩;obtain⟨u,as,bs,ss,tt,rfl,hu,L,ba,bg⟩:=b6 x<|cX B;have hj:j<4:=(vg4.mp B).1;have ty:=Tup.of0 fy;have cn:=ee.trans ty;exists u,_,rfl,SqT.of<|ty _ _ hu,rfl,_,_,rfl,_,_,rfl,rfl;refine⟨_,rfl,_,rfl,_,rfl,p,as,bs,ks,m0,tr,ss,tt,Z,rfl,hP.keep cn,hK.keepT cn,N,a8,hN,ty _ _ L.g,L.up,L.le,ty _ _ ba.g,ba.up,ba.le,bg,λHz fz=>?_⟩;exists _,fz _ _ aT af,bN (by rw[aG,List.length_replicate];lia),_,_,rfl,(fy.trans fz).put ax;rw[aE,List.replicate_succ',bP];rfl
 .rintro σ HD ⟨_,_,rfl,fD,ed⟩;refine⟨Dl,_,rfl,SqL.of ed,_,rfl,eV ?_⟩;exact⟨_,_,_,_,_,_,_,_,_,_,rfl,Gb cv λb o e=>(ch.trans fD) b o aT<|dl b o e⟩
section
variable{k:Nat}{nm:Str}{st:Stmt}{ps:List Str}{sp:Sp}
inductive Fx(K:Fg)(nm:Str)(st:Stmt):Prop
 | mk {f:Addr} {od an:Option Addr} {sl:Array (Option Value)} {oc kV dc pm cd ct:Value} (a:PySem.W.nsIn K mainGlobals nm=some (some<|.ref f)) (l:K.lookup f=some ⟨oc,od,.func<|PySem.W.fnOf nm nm (rM st) (gU st) (cG st) .none kV dc pm an cd ct,sl⟩) (c:PySem.W.codeIn K cd nm=true) (k:PySem.W.keepIn K (.ref f)=true):Fx K nm st
structure Fy(K:Fg)(mg:Str->Option Value)(nm:Str)(st:Stmt)(ps:List Str)(f:Addr)(fd:FuncData):Prop where
 F:Fun K nm nm st f fd
 b:Binds K fd ps []
 k:PySem.W.keepIn K (.ref f)=true
 m:mg nm=some (.ref f)
def Fx.y{h:Heap}(p:Fx K nm st)(X:K.In h)(G:h.Ns mainGlobals mg)(e:∀(kV a1 j:Value)(i:Option Addr)(d ct:Value)(b:List Value),↑b=↑ps->bindArgs (PySem.W.fnOf nm nm (rM st) (gU st) (cG st) .none kV a1 j i d ct) ⟨b,[]⟩=pure (ps.zip b)):∃f fd,Fy K mg nm st ps f fd:=by
 obtain⟨a,l,c,k⟩:=p;have F:=SN (st:=st) l c k;exact⟨_,_,F,F.binds e,k,PySem.W.mg_of X G a⟩
def Fy.c(y:Fy K mg nm st ps f fd)(h:bB P w K mg base cH k f fd ps sp):aV P w K mg base k nm ps sp:=⟨f,fd,h,y.b,y.k,y.m⟩
def wO{P:List Value->Prop}(h:∀a,P [a])(b:List Value)(hl:↑b=1):P b:=match b,hl with | [a],_=>h a
def jQ{P:List Value->Prop}(h:∀a b,P [a,b])(d:List Value)(hl:↑d=2):P d:=match d,hl with | [a,b],_=>h a b
def jR{P:List Value->Prop}(h:∀a b c,P [a,b,c])(d:List Value)(hl:↑d=3):P d:=match d,hl with | [a,b,c],_=>h a b c
def VN{P:List Value->Prop}(h:∀a b c d,P [a,b,c,d])(e:List Value)(hl:↑e=4):P e:=match e,hl with | [a,b,c,d],_=>h a b c d
def VS{P:List Value->Prop}(h:∀a b c d e,P [a,b,c,d,e])(f:List Value)(hl:↑f=5):P f:=match f,hl with | [a,b,c,d,e],_=>h a b c d e
def Gx{P:List Value->Prop}(h:∀a b c d e f,P [a,b,c,d,e,f])(i:List Value)(hl:↑i=6):P i:=match i,hl with | [a,b,c,d,e,f],_=>h a b c d e f
def Fn(F:Fun K "_law_rows" "_law_rows" GQ f fd):bB P w K mg base cH (k+1) f fd mB (CG 0):=F.ok xj2 (λ_ _ _ _ h=>h.elim) λ_ _ _ _ _ _ _ _ _ h=>h.elim
def Do(F:Fun K "lay" "lay" nX f fd):bB P w K mg base cH (k+1) f fd jV (JJ 0):=F.ok wd4 (λ_ _ _ _ h=>h.elim) λ_ _ _ _ _ _ _ _ _ h=>h.elim
end
def FL{K:Fg}{a:Addr}{od:Option Addr}{x y:Str}{d t2 n:Nat}{b:Array (Option Value)}(l:K.lookup a=some ⟨.type "tuple",od,.seq #[.str x d,.str y t2] n,b⟩)(H:Hp):SqT K H a [.str x,.str y]:=
 .inr ⟨_,_,_,l,rfl,rfl,dO rfl,.cons ⟨_,rfl⟩<|.cons ⟨_,rfl⟩ .nil⟩
def sX{l:PySem.W.OpenLaw}{w:World}{K:Fg}{h:Heap}{mg:Str->Option Value}{fa:Addr}(X:K.In h)(G:h.Ns mainGlobals mg)(bo:mg "law"=some (.ref fa))
  {am ah:Addr} {c0 bd:Option Addr} {b9 b6:Array (Option Value)} {bl c4 nm b7 bf nh:Nat}
  (p1:Fx K "elders" JP)
  (p2:Fx K "is_below" KU)
  (p3:Fx K "all_below" MW)
  (p4:Fx K "deed_of" JG)
  (p5:Fx K "answer" ML)
  (p6:Fx K "bodies" HY)
  (p7:Fx K "rows_within" MR)
  (p8:Fx K "lay" nX)
  (p9:Fx K "numbered" KN)
  (bw:Fx K "calls" IC)
  (bc:Fx K "told_among" MO)
  (b3:Fx K "by_tree" JX)
  (bn:Fx K "kinds_by" KZ)
  (b0:Fx K "bodies_by" HQ)
  (bx:Fx K "made_paper" MI)
  (bi:Fx K "by_made" KR)
  (b8:Fx K "_law_hand" NG)
  (c1:Fx K "_law_take" LW)
  (bq:Fx K "_law_of" eJ)
  (be:Fx K "_law_words" nH)
  (bs:Fx K "_law_tree" JU)
  (bt:Fx K "_law_world" pI)
  (bv:Fx K "_law_line" LJ)
  (c2:Fx K "_law_has" uN)
  (c5:Fx K "_law_variable" uT)
  (bk:Fx K "_law_target" tG)
  (br:Fx K "_law_make" IQ)
  (az:Fx K "_law_args" NF)
  (bh:Fx K "_law_call" LZ)
  (c3:Fx K "_law_field" MG)
  (b2:Fx K "_law_row" rQ)
  (b4:Fx K "_law_rows" GQ)
  (b5:Fx K "_law_deed" IK)
  (ba:Fx K "_law_program" IP)
  (b1:Fx K "_law_there" KO)
  (bg:Fx K "_law_among" uX)
  (bj:Fx K "_law_grows" FS)
  (bb:Fx K "law" iV)
  (aM:PySem.W.nsIn K mainGlobals "MAIN"=some (some<|.ref am)) (H:K.lookup am=some ⟨.type "tuple",c0,.seq #[.str "" bl,.str "" c4] nm,b9⟩)
  (aH:PySem.W.nsIn K mainGlobals "HOLDERS"=some (some<|.ref ah)) (lH:K.lookup ah=some ⟨.type "tuple",bd,.seq #[.str "either" b7,.str "again" bf] nh,b6⟩)
  (z:∀x∈(["len","abs","int","range","tuple","dict","list","any","zip","enumerate","sorted","max","min","reversed","all","set"]:List Str),PySem.W.nsIn K mainGlobals x=some none):
  ∃fd:FuncData,(∀(s:Shared)(v:Value),BindsTo s fd ⟨[v],[]⟩ [("_law_script",v)])/\∀base:Heap,K.In base->base.Ns mainGlobals mg->bB l.prog w K mg base cH 65 fa fd ["_law_script"] (FJ K):=by
 have A:=PySem.W.mg_of X G aM;have mH:=PySem.W.mg_of X G aH;obtain⟨_,_,y1⟩:=p1.y (ps:=["program","kind"]) X G λ_ _ _ _ _ _=>jQ λ_ _=>rfl;obtain⟨_,_,y2⟩:=p2.y (ps:=["program","one","other"]) X G λ_ _ _ _ _ _=>jR λ_ _ _=>rfl;obtain⟨_,_,M⟩:=p3.y (ps:=["program","kinds","other"]) X G λ_ _ _ _ _ _=>jR λ_ _ _=>rfl;obtain⟨_,_,P⟩:=p4.y (ps:=["program","kind","deed"]) X G λ_ _ _ _ _ _=>jR λ_ _ _=>rfl;obtain⟨_,_,Z⟩:=p5.y (ps:=["program","kind","deed"]) X G λ_ _ _ _ _ _=>jR λ_ _ _=>rfl;obtain⟨_,_,y6⟩:=p6.y (ps:=["program"]) X G λ_ _ _ _ _ _=>wO λ_=>rfl;obtain⟨_,_,y7⟩:=p7.y (ps:=["row"]) X G λ_ _ _ _ _ _=>wO λ_=>rfl;obtain⟨_,_,m⟩:=p8.y (ps:=["body","rows","found"]) X G λ_ _ _ _ _ _=>jR λ_ _ _=>rfl;obtain⟨_,_,y9⟩:=p9.y (ps:=["program"]) X G λ_ _ _ _ _ _=>wO λ_=>rfl;obtain⟨_,_,ar⟩:=bw.y (ps:=["program"]) X G λ_ _ _ _ _ _=>wO λ_=>rfl;obtain⟨_,_,ai⟩:=bc.y (ps:=["program","come","kinds"]) X G λ_ _ _ _ _ _=>jR λ_ _ _=>rfl;obtain⟨_,_,J⟩:=b3.y (ps:=["program","there"]) X G λ_ _ _ _ _ _=>jQ λ_ _=>rfl;obtain⟨_,_,ay⟩:=bn.y (ps:=["there","row"]) X G λ_ _ _ _ _ _=>jQ λ_ _=>rfl;obtain⟨_,_,ao⟩:=b0.y (ps:=["program","kinds","row"]) X G λ_ _ _ _ _ _=>jR λ_ _ _=>rfl;obtain⟨_,_,ak⟩:=bx.y (ps:=["program","there"]) X G λ_ _ _ _ _ _=>jQ λ_ _=>rfl;obtain⟨_,_,a6⟩:=bi.y (ps:=["program","there"]) X G λ_ _ _ _ _ _=>jQ λ_ _=>rfl;obtain⟨_,_,ap⟩:=b8.y (ps:=["_law_script","_law_k"]) X G λ_ _ _ _ _ _=>jQ λ_ _=>rfl;obtain⟨_,_,a9⟩:=c1.y (ps:=["_law_hand_here","_law_many"]) X G λ_ _ _ _ _ _=>jQ λ_ _=>rfl;obtain⟨_,_,av⟩:=bq.y (ps:=["_law_hand_here","_law_some"]) X G λ_ _ _ _ _ _=>jQ λ_ _=>rfl;obtain⟨_,_,aj⟩:=be.y (ps:=["_law_hand_here","_law_many"]) X G λ_ _ _ _ _ _=>jQ λ_ _=>rfl;obtain⟨_,_,af⟩:=bs.y (ps:=["_law_hand_here"]) X G λ_ _ _ _ _ _=>wO λ_=>rfl;obtain⟨_,_,N⟩:=bt.y (ps:=["_law_hand_here"]) X G λ_ _ _ _ _ _=>wO λ_=>rfl;obtain⟨_,_,aq⟩:=bv.y (ps:=["_law_world_here","_law_kind"]) X G λ_ _ _ _ _ _=>jQ λ_ _=>rfl;obtain⟨_,_,O⟩:=c2.y (ps:=["_law_world_here","_law_kind","_law_deed_here"]) X G λ_ _ _ _ _ _=>jR λ_ _ _=>rfl;obtain⟨_,_,ad⟩:=c5.y (ps:=["_law_hand_here","_law_world_here","_law_env"]) X G λ_ _ _ _ _ _=>jR λ_ _ _=>rfl;obtain⟨_,_,a8⟩:=bk.y (ps:=["_law_hand_here","_law_world_here","_law_env"]) X G λ_ _ _ _ _ _=>jR λ_ _ _=>rfl;obtain⟨_,_,a7⟩:=br.y (ps:=["_law_hand_here","_law_world_here","_law_env"]) X G λ_ _ _ _ _ _=>jR λ_ _ _=>rfl;obtain⟨_,_,al⟩:=az.y (ps:=["_law_hand_here","_law_world_here","_law_env","_law_above","_law_deed_here"]) X G λ_ _ _ _ _ _=>VS λ_ _ _ _ _=>rfl;obtain⟨_,_,a3⟩:=bh.y (ps:=["_law_hand_here","_law_world_here","_law_env","_law_level"]) X G λ_ _ _ _ _ _=>VN λ_ _ _ _=>rfl;obtain⟨_,_,Y⟩:=c3.y (ps:=["_law_hand_here","_law_world_here","_law_env"]) X G λ_ _ _ _ _ _=>jR λ_ _ _=>rfl;obtain⟨_,_,a4⟩:=b2.y (ps:=["_law_hand_here","_law_world_here","_law_env","_law_level","_law_deep"]) X G λ_ _ _ _ _ _=>VS λ_ _ _ _ _=>rfl;obtain⟨_,_,j⟩:=b4.y (ps:=["_law_hand_here","_law_world_here","_law_env","_law_level","_law_deep","_law_most"]) X G λ_ _ _ _ _ _=>Gx λ_ _ _ _ _ _=>rfl;obtain⟨_,_,au⟩:=b5.y (ps:=["_law_hand_here","_law_world_here","_law_kind","_law_level"]) X G λ_ _ _ _ _ _=>VN λ_ _ _ _=>rfl;obtain⟨_,_,ax⟩:=ba.y (ps:=["_law_hand_here","_law_most"]) X G λ_ _ _ _ _ _=>jQ λ_ _=>rfl;obtain⟨_,_,aw⟩:=b1.y (ps:=["_law_hand_here","_law_program_here"]) X G λ_ _ _ _ _ _=>jQ λ_ _=>rfl;obtain⟨_,_,as⟩:=bg.y (ps:=["_law_few","_law_many"]) X G λ_ _ _ _ _ _=>jQ λ_ _=>rfl;obtain⟨_,_,aa⟩:=bj.y (ps:=["_law_program_here","_law_there_here","_law_more"]) X G λ_ _ _ _ _ _=>jR λ_ _ _=>rfl;have zz:∀x∈(["len","abs","int","range","tuple","dict","list","any","zip","enumerate","sorted","max","min","reversed","all","set"]:List Str),mg x=none:=λx hx=>PySem.W.mg_none_of X G<|z x hx;simp only[List.forall_mem_cons]at zz;obtain⟨f,z2,r,i,b,I,B,z8,T,bz,a1,bm,bu,bp,a5,E,_⟩:=zz;obtain @⟨_,_,an,_,_,kV,dc,pm,cd,ct,a,ll,c,kk⟩:=bb;cases bo.symm.trans (PySem.W.mg_of X G a);refine⟨PySem.W.fnOf "law" "law" (rM iV) (gU iV) (cG iV) .none kV dc pm an cd ct,λs v=>.of_eq rfl,λbase _ _=>?_⟩;have d:∀k:Nat,aV l.prog w K mg base (k+1) _ _ gB:=λk=>a9.c<|Gm a9.F;have e:∀k:Nat,aV l.prog w K mg base (k+2) _ _ (cZ K):=λk=>av.c<|yI av.F (d k) f;have L:∀k:Nat,aV l.prog w K mg base (k+2) _ _ FB:=λk=>aj.c<|Aq aj.F (d k) f i r;have Tr:∀k:Nat,aV l.prog w K mg base (k+3) _ _ LV:=λk=>af.c<|Az af.F (d<|k+1) (e k) (L k) f bz;have Wo:∀k:Nat,aV l.prog w K mg base (k+4) _ _ LY:=λk=>N.c<|Gq N.F (d<|k+2) (e<|k+1) (L<|k+1) (Tr k) I i r;have C:∀k:Nat,aV l.prog w K mg base (k+1) _ _ AI:=λk=>aq.c<|Dq aq.F I;have Ha:∀k:Nat,aV l.prog w K mg base (k+2) _ _ JD:=λk=>O.c<|sH O.F (C k) z8;have p:∀k:Nat,aV l.prog w K mg base (k+3) _ _ qN:=λk=>ad.c<|rO ad.F (d<|k+1) (e k) B;have q:∀k:Nat,aV l.prog w K mg base (k+3) _ _ rJ:=λk=>a8.c<|sA a8.F<|e k;have Ma:∀k:Nat,aV l.prog w K mg base (k+4) _ _ FO:=λk=>a7.c<|WY a7.F (d<|k+2) (e<|k+1)<|q k;have Ar:∀k:Nat,aV l.prog w K mg base (k+4) _ _ KD:=λk=>al.c<|Fk al.F (d<|k+2) (e<|k+1) (p k) (C<|k+2) b;have Ca:∀k:Nat,aV l.prog w K mg base (k+5) _ _ AD:=λk=>a3.c<|ZX a3.F (d<|k+3) (e<|k+2) (p<|k+1) (C<|k+3) (q<|k+1) (Ha<|k+2) (Ma k)<|Ar k;have Fi:∀k:Nat,aV l.prog w K mg base (k+4) _ _ LI:=λk=>Y.c<|Ei Y.F (d<|k+2) (e<|k+1) (p k)<|q k;have Rn:∀k:Nat,aV l.prog w K mg base (k+1) _ _ (CG 0):=λk=>j.c<|Fn j.F;have Row:∀(n k:Nat),aV l.prog w K mg base (k+5) "_law_rows" mB (CG n)->aV l.prog w K mg base (k+6) "_law_row" nD (KA n):=λn k R=>a4.c<|qS a4.F (d<|k+4) (e<|k+3) (p<|k+2) (q<|k+2) (Ma<|k+1) (Fi<|k+1) (Ca k) R i f b;have o:∀(n k:Nat),aV l.prog w K mg base (k+7+2*n) "_law_rows" mB (qT n):=by
  intro n
  induction n with
  | zero=>intro k;exact j.c<|TY j.F (d<|k+5) (Row 0 k<|Rn<|k+4) i b
  | succ n ih=>
   intro k;have R1:=Row (n+1) (k+2+2*n) (by have:=ih k;rwa [show k+2+2*n+5=k+7+2*n by lia]);have R2:aV l.prog w K mg base (k+2+2*n+6+1) "_law_rows" mB (qT<|n+1):=j.c<|TY j.F (by have:=d<|k+2+2*n+5;exact this) R1 i b;rwa [show k+7+2*(n+1)=k+2+2*n+6+1 by lia]
 have R4:∀k:Nat,aV l.prog w K mg base (k+15) "_law_rows" mB (qT 4):=λk=>o 4 k;have De:∀k:Nat,aV l.prog w K mg base (k+16) _ _ FE:=λk=>au.c<|Hm au.F (d<|k+14) (e<|k+13) (p<|k+12) (R4 k) f B T I b;have Pr:∀k:Nat,aV l.prog w K mg base (k+17) _ _ KC:=λk=>ax.c<|Cf ax.F (d<|k+15) (e<|k+14) (Wo<|k+12) (De k) (R4<|k+1) f i b a1;have Hn:∀k:Nat,aV l.prog w K mg base (k+1) _ _ (MF K):=λk=>ap.c<|ZA ap.F f z2 r;have Bo:∀k:Nat,aV l.prog w K mg base (k+1) _ _ (HH K):=λk=>y6.c<|YG y6.F A (FL H) b;have Wi:∀k:Nat,aV l.prog w K mg base (k+1) _ _ IW:=λk=>y7.c<|Ae y7.F mH<|FL lH;have Ly:∀(n k:Nat),aV l.prog w K mg base (k+2+n) "lay" jV (HI n):=by
  intro n
  induction n with
  | zero=>intro k;exact m.c<|QG m.F (Wi k) (m.c<|Do m.F) f b
  | succ n ih=>intro k;exact m.c<|QG m.F (by have:=Wi<|k+1+n;rwa [show k+1+n+1=k+2+n by lia]at this) (ih k) f b
 have Nu:∀k:Nat,aV l.prog w K mg base (k+7) _ _ (FW K):=λk=>y9.c<|XG y9.F (Bo<|k+5) (Ly 4 k) b;have El:∀k:Nat,aV l.prog w K mg base (k+1) _ _ FC:=λk=>y1.c<|YT y1.F b;have Be:∀k:Nat,aV l.prog w K mg base (k+2) _ _ EX:=λk=>y2.c<|Db y2.F<|El k;have AB:∀k:Nat,aV l.prog w K mg base (k+3) _ _ zS:=λk=>M.c<|ZE M.F<|Be k;have Th:∀k:Nat,aV l.prog w K mg base (k+2) _ _ LM:=λk=>aw.c<|Cm aw.F (d k) b a1;have DO:∀k:Nat,aV l.prog w K mg base (k+1) _ _ LK:=λk=>P.c<|Cw P.F;have An:∀k:Nat,aV l.prog w K mg base (k+2) _ _ GA:=λk=>Z.c<|ZB Z.F (El k) (DO k) bp;have KB:∀k:Nat,aV l.prog w K mg base (k+1) _ _ IY:=λk=>ay.c<|ZQ ay.F;have BB:∀k:Nat,aV l.prog w K mg base (k+4) _ _ HR:=λk=>ao.c<|Gj ao.F (An<|k+1)<|AB k;have u:∀k:Nat,aV l.prog w K mg base (k+8) _ _ (BN K):=λk=>ak.c<|Hg ak.F (Nu k) (KB<|k+6) (BB<|k+3) A (FL H) b a1 f B;have Cs:∀k:Nat,aV l.prog w K mg base (k+8) _ _ (JC K):=λk=>ar.c<|Bm ar.F (Nu k) b;have Am:∀k:Nat,aV l.prog w K mg base (k+9) _ _ (HM K):=λk=>ai.c<|Eu ai.F (Cs k) (AB<|k+5) b;have By:∀k:Nat,aV l.prog w K mg base (k+10) _ _ (HK K):=λk=>a6.c<|Ay a6.F (u<|k+1)<|Am k;have Bt:∀k:Nat,aV l.prog w K mg base (k+10) _ _ nT:=λk=>J.c<|BE J.F (Bo<|k+8) (Am k) A<|FL H;have Ag:∀k:Nat,aV l.prog w K mg base (k+1) _ _ FQ:=λk=>as.c<|sI as.F E a5 T;have Gr:∀k:Nat,aV l.prog w K mg base (k+11) _ _ HL:=λk=>aa.c<|Gy aa.F (Ag<|k+9) (Bt k) (By k) (u<|k+2) E;exact vD (SN (st:=iV) ll c kk) (Hn 63) (Pr 47) (e 62) (Th 62) (Ag 63) (Bt 54) (By 54) (u 56) (Gr 53) f i bm bu b a1 E a5
def JW{l:PySem.W.OpenLaw}{q:Program}{r:List Str}{m:(Str->Option Value)->Heap->Prop}{e:World->Heap->Prop}{d:DefRec}{K:Params->Fg}(v:l.most=some 63)(a1:d.params.defaults=[])
  (p:∀(w:World)(h:Heap),e w h->(K w.params).In h)
  (F:∀(w:World)(mg:Str->Option Value)(b:Addr)(h:Heap),(K w.params).In h->h.Ns mainGlobals mg->mg d.name=some (.ref b)-> ∃fd:FuncData,(∀(s:Shared)(u:Value),BindsTo s fd ⟨[u],[]⟩ [("_law_script",u)])/\∀base:Heap,(K w.params).In base->base.Ns mainGlobals mg->bB l.prog w (K w.params) mg base cH 65 b fd ["_law_script"] (FJ<|K w.params)):
  PySem.W.WalkO q r m e l.row.toRowW d [] (λf o=>PySem.call f o):=
 L2.Aa (n:=63) (k:=65) (x:="_law_script") (CX:=λ_=>cH) (sp:=λw=>FJ<|K w.params) v (by decide) a1 ⟨rfl,by decide,by decide⟩ p F (λ_ _ a i hl _ j=>⟨a,i,rfl,j,hl,λ_=>rfl⟩) λ_ _ _ _ _ z=>z
end Gn
namespace PySem.W.Fast
def tw8993797203749840639:=0
def tw10856167898757714522:=0
def tw12998930005902509302:=0
def tw9017396934135482560:=0
def tw17027518004567567654:=0
def tw6928224334776283093:=0
def tw14378876637031092038:=0
def tw15965203719890902348:=0
def tw8729097040970017417:=0
def tw13911200000410880702:=0
def tw17843133584478055912:=0
def tw6225745919576962409:=0
def tw9523187002592221283:=0
def tw7284775622339764800:=0
def tw2247162400559214228:=0
def tw5818724256090836072:=0
def tw5332089371034358409:=0
def tw2068300960566556779:=0
def tw15038531173985766779:=0
def tw6040951319577534735:=0
def tw7595178049533877918:=0
def tw9959665693483334154:=0
def tw120266389203969965:=0
def tw12803018429274074473:=0
def tw12946718090605973225:=0
def tw10217966586441513388:=0
def tw18359791477470842730:=0
def tw12316423646187020655:=0
def tw11329726465439277558:=0
def tw15306956344667808624:=0
def tw11143430290304170878:=0
def tw15666662669626618434:=0
def tw7252979993906474878:=0
def tw2620482439268915179:=0
def tw4835414166873646899:=0
def tw7624161335194358762:=0
def tw10867745331941069637:=0
def tw12038726298002517033:=0
def tw7247621058620667924:=0
def tw757814711047751748:=0
def tw4017893810182051611:=0
def tw13783046045669885377:=0
def tw8681842704099847434:=0
def tw9831798966521975966:=0
def tw14164941182375956885:=0
def tw4205239064339723370:=0
def tw6726255608086421539:=0
def tw15142757088280550815:=0
def tw4460348264165145715:=0
def tw18227891609291505048:=0
def tw4749971821801527818:=0
def tw15159165969038361211:=0
def tw7978377158792348007:=0
def tw566800485892557603:=0
def tw15613106268083946418:=0
def tw1619159793084071914:=0
def tw17086572471648659098:=0
def tw599913527336368339:=0
def tw11798661001936854314:=0
def tw15429719925351969778:=0
def tw9837908845982731485:=0
def tw9810585534372453286:=0
def tw9169737175626744813:=0
def tw9216288825058850065:=0
def tw4293831543858639012:=0
def tw14434176897825447701:=0
def tw16662918314713215554:=0
def tw16149267125454417640:=0
def tw15542642658196032500:=0
def tw2373141361557762567:=0
def tw2241067508326445926:=0
def tw81676340092724162:=0
def tw9693452182346054006:=0
def tw9962541212608897075:=0
def tw2344626149493419843:=0
def tw8457133456518895928:=0
def tw8874755094656864887:=0
def tw17747323470635556040:=0
def tw17183015985852241572:=0
def tw6996468546973620982:=0
def tw6071507374590958391:=0
def tw12415870460637273980:=0
def tw15105803211630594667:=0
def tw17896607942649288906:=0
def tw560679403027100300:=0
def tw7947545344317484527:=0
def tw9234895135562411485:=0
def tw12771171114122441934:=0
def tw17788588203406772177:=0
def tw7580015381995862050:=0
def tw4485253533832582932:=0
def tw2293928635479954516:=0
def tw8072390854006109614:=0
def tw1661343089927363044:=0
def tw11012076191074830555:=0
def tw7739436385649825939:=0
def tw4699497138171672091:=0
def tw16469348938007327153:=0
def tw9135083149561453873:=0
def tw1943495816281416693:=0
end PySem.W.Fast
open PySem PySem.W PyProof.Rows
set_option maxRecDepth 100000 in
set_option maxHeartbeats 0 in
theorem PySem.Challenge.cw_surecall_k17_whole_finer_and_more_holds : PySem.Challenge.rw_surecall_k17_whole_finer_and_more.Holds := by
 w_on;o_law;k_head;(case hw=>w_witness2)
 k_fill
 refine Gn.JW (l:=PySem.Challenge.rw_surecall_k17_whole_finer_and_more) rfl rfl (fun w h Y=>PySem.W.kIn_of Y) ?F
 case F=>
  intro w mg fa h KX G a0;refine' Gn.sX KX G a0 ⟨?a1,?l1,?c1,?k1⟩ ⟨?a2,?l2,?c2,?k2⟩ ⟨?a3,?l3,?c3,?k3⟩ ⟨?a4,?l4,?c4,?k4⟩ ⟨?a5,?l5,?c5,?k5⟩ ⟨?a6,?l6,?c6,?k6⟩ ⟨?a7,?l7,?c7,?k7⟩ ⟨?a8,?l8,?c8,?k8⟩ ⟨?a9,?l9,?c9,?k9⟩ ⟨?a10,?l10,?c10,?k10⟩ ⟨?a11,?l11,?c11,?k11⟩ ⟨?a12,?l12,?c12,?k12⟩ ⟨?a13,?l13,?c13,?k13⟩ ⟨?a14,?l14,?c14,?k14⟩ ⟨?a15,?l15,?c15,?k15⟩ ⟨?a16,?l16,?c16,?k16⟩ ⟨?a17,?l17,?c17,?k17⟩ ⟨?a18,?l18,?c18,?k18⟩ ⟨?a19,?l19,?c19,?k19⟩ ⟨?a20,?l20,?c20,?k20⟩ ⟨?a21,?l21,?c21,?k21⟩ ⟨?a22,?l22,?c22,?k22⟩ ⟨?a23,?l23,?c23,?k23⟩ ⟨?a24,?l24,?c24,?k24⟩ ⟨?a25,?l25,?c25,?k25⟩ ⟨?a26,?l26,?c26,?k26⟩ ⟨?a27,?l27,?c27,?k27⟩ ⟨?a28,?l28,?c28,?k28⟩ ⟨?a29,?l29,?c29,?k29⟩ ⟨?a30,?l30,?c30,?k30⟩ ⟨?a31,?l31,?c31,?k31⟩ ⟨?a32,?l32,?c32,?k32⟩ ⟨?a33,?l33,?c33,?k33⟩ ⟨?a34,?l34,?c34,?k34⟩ ⟨?a35,?l35,?c35,?k35⟩ ⟨?a36,?l36,?c36,?k36⟩ ⟨?a37,?l37,?c37,?k37⟩ ⟨?a38,?l38,?c38,?k38⟩ ?aM ?lM ?aH ?lH ?z
  (case a1 | l1 | c1 | k1=>k_is)
  (case a2 | l2 | c2 | k2=>k_is)
  (case a3 | l3 | c3 | k3=>k_is)
  (case a4 | l4 | c4 | k4=>k_is)
  (case a5 | l5 | c5 | k5=>k_is)
  (case a6 | l6 | c6 | k6=>k_is)
  (case a7 | l7 | c7 | k7=>k_is)
  (case a8 | l8 | c8 | k8=>k_is)
  (case a9 | l9 | c9 | k9=>k_is)
  (case a10 | l10 | c10 | k10=>k_is)
  (case a11 | l11 | c11 | k11=>k_is)
  (case a12 | l12 | c12 | k12=>k_is)
  (case a13 | l13 | c13 | k13=>k_is)
  (case a14 | l14 | c14 | k14=>k_is)
  (case a15 | l15 | c15 | k15=>k_is)
  (case a16 | l16 | c16 | k16=>k_is)
  (case a17 | l17 | c17 | k17=>k_is)
  (case a18 | l18 | c18 | k18=>k_is)
  (case a19 | l19 | c19 | k19=>k_is)
  (case a20 | l20 | c20 | k20=>k_is)
  (case a21 | l21 | c21 | k21=>k_is)
  (case a22 | l22 | c22 | k22=>k_is)
  (case a23 | l23 | c23 | k23=>k_is)
  (case a24 | l24 | c24 | k24=>k_is)
  (case a25 | l25 | c25 | k25=>k_is)
  (case a26 | l26 | c26 | k26=>k_is)
  (case a27 | l27 | c27 | k27=>k_is)
  (case a28 | l28 | c28 | k28=>k_is)
  (case a29 | l29 | c29 | k29=>k_is)
  (case a30 | l30 | c30 | k30=>k_is)
  (case a31 | l31 | c31 | k31=>k_is)
  (case a32 | l32 | c32 | k32=>k_is)
  (case a33 | l33 | c33 | k33=>k_is)
  (case a34 | l34 | c34 | k34=>k_is)
  (case a35 | l35 | c35 | k35=>k_is)
  (case a36 | l36 | c36 | k36=>k_is)
  (case a37 | l37 | c37 | k37=>k_is)
  (case a38 | l38 | c38 | k38=>k_is)
  (case aM | lM | aH | lH=>k_is)
  simp only[List.forall_mem_cons];refine⟨?_,?_,?_,?_,?_,?_,?_,?_,?_,?_,?_,?_,?_,?_,?_,?_,fun _ h=>nomatch h⟩ <;> k_is
#print axioms PySem.Challenge.cw_surecall_k17_whole_finer_and_more_holds
end
